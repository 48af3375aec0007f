import PyProof.Rows.All
import Wide.All
import OpenK.AllK
import Wide.FinOn
import Lean
import PyProof.EqAt
import PyProof.EqKinds
import PyProof.TupleCall
import PyProof.NeKinds
import PyProof.SumWalkG
import PySem.Challenge.RW_markscale_k56_marks_not_told_apart
set_option compiler.extract_closed false
set_option Elab.async false
set_option linter.all false
set_option maxRecDepth 100000
noncomputable section
abbrev Fg := PySem.W.Frag
abbrev Pn := List (PySem.Addr × PySem.Obj)
section
set_option maxRecDepth 100000
set_option maxHeartbeats 0
namespace MyLaw
open PySem PySem.W
def hdF (s : String) : Str := ⟨⟨(PySem.W.S.toListS s).map Char.toNat⟩⟩
theorem hdFe : @Str.ofString = hdF := by
 rw [Str.ofString_eq_byList]; funext s
 show (⟨⟨(String.toList s).map Char.toNat⟩⟩ : Str) = _
 rw [PySem.W.S.toListS_eq]; rfl
abbrev hdP : Program := PySem.Challenge.pw_markscale_k56_marks_not_told_apart
abbrev zd : OpenRow := OpenLaw.row PySem.Challenge.rw_markscale_k56_marks_not_told_apart
def hdG : PSigma fun G : (String -> Str) -> Program => PySem.Challenge.pw_markscale_k56_marks_not_told_apart = G Str.ofString := by
 apply PSigma.mk
 case snd =>
  delta PySem.Challenge.pw_markscale_k56_marks_not_told_apart
  generalize Str.ofString = f
  exact rfl
def Ax : List Nat := [1, 2, 3, 5, 6, 8, 9, 10, 11, 12, 13, 14, 15, 16, 17]
def hdV : Program := PySem.W.view hdP Ax
end MyLaw
def PySem.W.Fast.tw17765729158799550346 : PySem.Program := MyLaw.hdG.1 MyLaw.hdF
theorem PySem.W.Fast.te17765729158799550346 : PySem.Challenge.pw_markscale_k56_marks_not_told_apart = PySem.W.Fast.tw17765729158799550346 := MyLaw.hdG.2.trans (congrArg MyLaw.hdG.1 MyLaw.hdFe)
namespace MyLaw
open PySem PySem.W
abbrev nB : Program := PySem.W.Fast.tw17765729158799550346
def hdT : Program := PySem.W.view nB Ax
theorem hdE : hdV = hdT := congrArg (fun p => PySem.W.view p Ax) PySem.W.Fast.te17765729158799550346
abbrev hdX (q : Program) (s : Shared) : Bool := xlAt q [] s && recOk (OpenRow.toRowW zd).records s
def HdHyp (K : Params -> Frag) (as : List Addr) : Prop := ∀ (K' : Params -> Frag) (as' : List Addr), (∀ P, as' = (K' P).map (·.1)) -> K' = K -> as' = as -> zd.Holds
def vI (K : Params -> Frag) (as : List Addr) (_ : HdHyp K as -> zd.Holds) (e : ∀ P, as = (K P).map (·.1)) : List Addr := let _ := e; as
local macro_rules
 | `(tactic| o_head (kHook $K $as $e)) => `(tactic| exact (show MyLaw.HdHyp _ _ from by assumption) $K $as $e rfl rfl)
def hdKs : List Addr := by
 apply vI
 case x => intro hyp; k_head
 case e => intro P; kernel_rfl
abbrev qG : Params -> Frag := MyLaw.hdKs.heap_1
theorem hdKe : ∀ P, hdKs = (MyLaw.hdKs.heap_1 P).map (·.1) := by intro P; kernel_rfl
def oM : PSigma fun G : (String -> Str) -> Params -> Frag => MyLaw.hdKs.heap_1 = G Str.ofString := by
 apply PSigma.mk
 case snd =>
  delta MyLaw.hdKs.heap_1
  generalize Str.ofString = f
  exact rfl
def rj (tb : String -> Option Builtin) (p : Program) (w : World) (n₀ : Nat) (ann : Option Value) : Nat -> SharedT -> Thread -> Option SharedT
 | 0, _, _ => none
 | n + 1, s, t => match through t with
  | true => some s
  | false => match PySem.W.Fast.tw6613529449190102663 n₀ ann t with
   | false => none
   | true => match PySem.W.Fast.tw10156331382660048174 (PySem.W.Fast.tw11892475500146522536 tb) p w s t with
    | some (s', t') => rj tb p w n₀ ann n s' t'
    | none => none
theorem lG {tb : String -> Option Builtin} {p : Program} {w : World} {n₀ : Nat} {ann : Option Value} : ∀ {n : Nat} {s r : SharedT} {t : Thread}, rj tb p w n₀ ann n s t = some r -> topRun tb p w n₀ ann n s.abs t = some r.abs
 | 0, _, _, _, h => by cases h
 | n + 1, s, r, t, h => by
  unfold rj at h
  rw [<- PySem.W.Fast.te6613529449190102663, <- PySem.W.Fast.te10156331382660048174, <- PySem.W.Fast.te11892475500146522536] at h
  unfold topRun
  cases he : through t with
  | true => rw [he] at h; cases h; rfl
  | false =>
   rw [he] at h
   cases hk : stepOk n₀ ann t with
   | false => rw [hk] at h; cases h
   | true =>
    rw [hk] at h
    cases hs : stepT (denote tb) p w s t with
    | none => rw [hs] at h; cases h
    | some q => obtain ⟨s₂, t₂⟩ := q; rw [hs] at h; rw [stepT_spec hs]; exact lG h
def oj : List Obj -> Nat -> BT -> BT
 | [], _, t => t
 | o :: r, i, t => oj r (i + 1) (t.ins i o)
def tY (s : Shared) : SharedT := ⟨oj s.heap.objs.toList 0 .nil, s.heap.objs.size, s.heap.life, s.gens, s.drawn, s.toks, s.os⟩
abbrev hdTb := PySem.W.Fast.tw14364793385576792824
abbrev xC (s₀ s₁ : Shared) : Option Shared := match staticsOk (importedModules nB.main.body) s₀.heap s₁.heap && namesBound nB s₁.heap && gensDone s₁ && laidKept s₀.heap s₁.heap with
 | true => some s₁
 | false => none
def jR (w : World) (s₀ : Shared) : Option Shared := match s₀.heap.isNs mainGlobals && s₀.gens.size == 0 with
 | true => (rj hdTb nB w s₀.heap.objs.size (s₀.heap.nsMap mainGlobals "__annotations__") 1080 (tY s₀) (topStub nB)).bind fun r => xC s₀ r.abs
 | false => none
def fT (w : World) : Option Shared := (fencedOpening hdTb nB w 1080).bind (jR w)
theorem hdO : ∀ w : World, (fencedOpening hdTb nB w 1080).map (fun s => (tY s).abs) = fencedOpening hdTb nB w 1080 := by intro w; kernel_rfl
theorem nO {w : World} {s : Shared} (h : fT w = some s) : openEnds hdTb nB w 1080 = some s := by
 unfold fT at h
 unfold openEnds
 have o := hdO w
 generalize fencedOpening hdTb nB w 1080 = x at h o ⊢
 cases x with
 | none => cases h
 | some s₀ =>
  have o : (tY s₀).abs = s₀ := Option.some.inj o
  have h : jR w s₀ = some s := h
  show topFrom hdTb nB w 1080 s₀ = some s
  unfold jR at h
  unfold topFrom
  cases hb : (s₀.heap.isNs mainGlobals && s₀.gens.size == 0) with
  | false => rw [hb] at h; cases h
  | true =>
   rw [hb] at h
   dsimp only at h ⊢
   obtain ⟨r, h1, h2⟩ := Option.bind_eq_some_iff.mp h
   have h3 := lG h1
   rw [o] at h3
   rw [h3]
   exact h2
abbrev dW (s : Shared) := PySem.W.Fast.tw4187177175401517315 hdT [] (PySem.W.Fast.tw5923862056798008813 nB.main.body) (hdX hdT) true s
abbrev hdGood := openGood hdT []
open PyProof PyProof.Rows
theorem hdA : ∀ w : World, Option.map (fun s => (dW s).1) (fT w) = some (expectedOf hdT) := by intro w; kernel_rfl
theorem hdB : ∀ w : World, Option.map (fun s => ((dW s).2.1, (dW s).2.2.1, (dW s).2.2.2.1)) (fT w) = some (bltViewBooted, true, true) := by intro w; kernel_rfl
theorem hdC : ∀ w : World, Option.map (fun s => (dW s).2.2.2.2) (fT w) = some (pinGoodD (drecsOf hdT), plainGoodE hdT (looseW hdT []), plainGoodD hdT [], wideGood hdT, clsGoodW hdT []) := by intro w; kernel_rfl
theorem hdD : ∀ w : World, Option.map (fun s => hdKs.map s.heap.get?) (fT w) = some ((oM.1 hdF w.params).map fun p => some p.2) := by intro w; kernel_rfl
theorem hdL : LeftO zd.prog hdV [] (hdX hdV) (kHook qG hdKs hdKe).obs (kHook qG hdKs hdKe).val 1080 := by
 intro w
 show Option.map (fun s => (openSeen hdV [] (importedModules (PySem.Challenge.pw_markscale_k56_marks_not_told_apart).main.body) (hdX hdV) true s, hdKs.map s.heap.get?)) (openEnds treeTable PySem.Challenge.pw_markscale_k56_marks_not_told_apart w 1080) = some (openGood hdV [], (qG w.params).map fun p => some p.2)
 have eK : qG = oM.1 hdF := oM.2.trans (congrArg oM.1 hdFe)
 rw [hdE, PySem.W.Fast.te17765729158799550346, PySem.W.Fast.te4187177175401517315, PySem.W.Fast.te5923862056798008813, PySem.W.Fast.te14364793385576792824, eK]
 have a := hdA w
 have b := hdB w
 have c := hdC w
 have d := hdD w
 cases hx : fT w with
 | none => rw [hx] at a; cases a
 | some s =>
  rw [hx] at a b c d
  rw [show openEnds PySem.W.Fast.tw14364793385576792824 PySem.W.Fast.tw17765729158799550346 w 1080 = some s from nO hx]
  have a : (dW s).1 = expectedOf hdT := Option.some.inj a
  have b := Option.some.inj b
  have c : (dW s).2.2.2.2 = _ := Option.some.inj c
  have d : hdKs.map s.heap.get? = (oM.1 hdF w.params).map fun p => some p.2 := Option.some.inj d
  obtain ⟨b1, b2⟩ := Prod.mk.inj b
  obtain ⟨b2, b3⟩ := Prod.mk.inj b2
  show some (dW s, hdKs.map s.heap.get?) = some (hdGood, _)
  rw [d]
  generalize dW s = y at a b1 b2 b3 c ⊢
  obtain ⟨y1, y2, y3, y4, y5⟩ := y
  subst a b1 b2 b3 c
  rfl
end MyLaw
end
namespace L2
open PySem PySem.Spec PyProof.Rows
abbrev Key := Sum Int Str
def sT : Key -> Value -> Bool
 | .inl k, v => Value.isInt k v
 | .inr x, v => Value.isStrOf x v
def zR (w : World) : Key -> Int
 | .inl k => hashInt k
 | .inr x => hashStr w x
theorem aD : ∀ {k : Key} {v : Value}, sT k v = true -> (∃ i t, k = Sum.inl i /\ v = Value.int i t) ∨ (∃ x t, k = Sum.inr x /\ v = Value.str x t)
 | .inl i, v, h => by
  obtain ⟨t, e⟩ := Value.isInt_shape (k := i) (v := v) h
  exact .inl ⟨i, t, rfl, e⟩
 | .inr x, v, h => by
  obtain ⟨t, e⟩ := Value.isStrOf_shape (x := x) (v := v) h
  exact .inr ⟨x, t, rfl, e⟩
theorem wz (a b : Int) : decide ((Sum.inl a : Key) = Sum.inl b) = (a == b) := by
 by_cases e : a = b
 ·subst e; simp
 ·have h : ¬ (Sum.inl a : Key) = Sum.inl b := fun q => e (Sum.inl.inj q)
  rw [decide_eq_false h]
  exact (beq_eq_false_iff_ne.mpr e).symm
theorem ux (a b : Str) : decide ((Sum.inr a : Key) = Sum.inr b) = decide (a = b) := by
 by_cases e : a = b
 ·subst e; simp
 ·have h : ¬ (Sum.inr a : Key) = Sum.inr b := fun q => e (Sum.inr.inj q)
  rw [decide_eq_false h, decide_eq_false e]
theorem ue (a : Int) (b : Str) : decide ((Sum.inl a : Key) = Sum.inr b) = false := decide_eq_false (fun q => nomatch q)
theorem tN (a : Str) (b : Int) : decide ((Sum.inr a : Key) = Sum.inl b) = false := decide_eq_false (fun q => nomatch q)
def eV (prog : Program) (w : World) : PySem.KeyKind prog w Key where
 is := sT
 hash := zR w
 inj := fun v a b ha hb => by
  rcases aD ha with ⟨i, t, rfl, rfl⟩ | ⟨x, t, rfl, rfl⟩
  ·rcases aD hb with ⟨j, u, rfl, e⟩ | ⟨y, u, rfl, e⟩
   ·injection e with e1 _; rw [e1]
   ·exact nomatch e
  ·rcases aD hb with ⟨j, u, rfl, e⟩ | ⟨y, u, rfl, e⟩
   ·exact nomatch e
   ·injection e with e1 _; rw [e1]
 byValue := fun k v h => by
  rcases aD h with ⟨i, t, rfl, rfl⟩ | ⟨x, t, rfl, rfl⟩ <;> rfl
 pyHash := fun hv h => by
  rcases aD hv with ⟨i, t, rfl, rfl⟩ | ⟨x, t, rfl, rfl⟩
  ·exact wpAny_pyHash_int h
  ·exact wpAny_pyHash_str h
 eqBool := fun hu hv h => by
  rcases aD hu with ⟨i, t, rfl, rfl⟩ | ⟨x, t, rfl, rfl⟩
  ·rcases aD hv with ⟨j, u, rfl, rfl⟩ | ⟨y, u, rfl, rfl⟩
   ·rw [wz] at h; exact wpAny_eqBool_int h
   ·rw [ue] at h; exact SeqAt.EqAt.int_str i t y u _ _ _ _ h
  ·rcases aD hv with ⟨j, u, rfl, rfl⟩ | ⟨y, u, rfl, rfl⟩
   ·rw [tN] at h; exact SeqAt.EqAt.str_int x t j u _ _ _ _ h
   ·rw [ux] at h; exact wpAny_eqBool_str h
 «strs» := fun k x t v h => by
  rcases aD h with ⟨i, u, rfl, e⟩ | ⟨y, u, rfl, e⟩
  ·exact nomatch e
  ·injection e with e1 _
   subst e1
   cases v <;> rfl
end L2
namespace L2
open PySem PySem.Spec PyProof.Rows
inductive V where
 | non | bl (b : Bool) | int (i : Int) | str (x : Str) | byt (b : Array UInt8) | flt (b : UInt64) | ref (a : Addr) | ty (n : String)
 deriving DecidableEq
def aw : V -> Value -> Prop
 | .non, u => u = Value.none
 | .bl b, u => u = Value.bool b
 | .int i, u => ∃ t, u = Value.int i t
 | .str x, u => ∃ t, u = Value.str x t
 | .byt b, u => ∃ t, u = Value.bytes b t
 | .flt b, u => ∃ t, u = Value.float b t
 | .ref a, u => u = Value.ref a
 | .ty n, u => u = Value.type n
abbrev am : List V -> List Value -> Prop := Paired aw
theorem am.length {xs : List V} {us : List Value} (r : am xs us) : xs.length = us.length := Paired.length r
theorem am.get : ∀ {xs : List V} {us : List Value} {i : Nat} {x : V}, am xs us -> xs[i]? = some x -> ∃ u, us[i]? = some u /\ aw x u
 | _, _, _, _, .nil, e => by simp at e
 | _, _, 0, _, .cons r _, e => by simp at e; subst e; exact ⟨_, rfl, r⟩
 | _, _, i + 1, x, .cons _ t, e => by
  obtain ⟨u, h1, h2⟩ := am.get (i := i) (x := x) t (by simpa using e)
  exact ⟨u, by simpa using h1, h2⟩
theorem am.set {x : V} {u : Value} (r : aw x u) : ∀ {xs : List V} {us : List Value} (i : Nat), am xs us -> am (xs.set i x) (us.set i u)
 | _, _, _, .nil => .nil
 | _, _, 0, .cons _ t => .cons r t
 | _, _, i + 1, .cons q t => .cons q (am.set r i t)
theorem am.append : ∀ {xs ys : List V} {us ws : List Value}, am xs us -> am ys ws -> am (xs ++ ys) (us ++ ws)
 | _, _, _, _, .nil, s => s
 | _, _, _, _, .cons r t, s => .cons r (am.append t s)
theorem am.take : ∀ {xs : List V} {us : List Value} (n : Nat), am xs us -> am (xs.take n) (us.take n)
 | _, _, 0, _ => .nil
 | _, _, _ + 1, .nil => .nil
 | _, _, n + 1, .cons r t => .cons r (am.take n t)
theorem am.drop : ∀ {xs : List V} {us : List Value} (n : Nat), am xs us -> am (xs.drop n) (us.drop n)
 | _, _, 0, r => r
 | _, _, _ + 1, .nil => .nil
 | _, _, n + 1, .cons _ t => am.drop n t
def qZ : Option V -> Option Value -> Prop
 | some v, some u => aw v u
 | none, none => True
 | _, _ => False
def KV {κ : Type} : List (κ × V) -> List (κ × Value) -> Prop := Paired fun (p : κ × V) (q : κ × Value) => p.1 = q.1 /\ aw p.2 q.2
def kV : Key -> V
 | .inl i => .int i
 | .inr x => .str x
inductive HO where
 | lst (xs : List V)
 | tup (xs : List V)
 | dK (kvs : List (Key × V)) | dT (kvs : List (List Key × V))
 | set (S : Int -> Bool) (n : Nat)
 | ins (C dx : Addr) (fs : List (Str × V))
 | own (x : Addr)
 | xd (fs : List (Str × V))
 | met (f x : Addr)
 | rng (lo hi : Int)
 | frz (o : Obj) (u : HO)
 | tbl (ps : Array Value)
 | ext (φ : Heap -> Prop)
abbrev Hp := Addr -> Option HO
def upd (H : Hp) (a : Addr) (o : HO) : Hp := fun b => if b = a then some o else H b
theorem ad {H : Hp} {a : Addr} {o : HO} : upd H a o a = some o := by unfold upd; rw [if_pos rfl]
theorem ac {H : Hp} {a b : Addr} {o : HO} (h : b ≠ a) : upd H a o b = H b := by unfold upd; rw [if_neg h]
theorem eO {H : Hp} {a b : Addr} {o u : HO} (h : H a = some o) (h' : H b = some u) (d : o ≠ u) : a ≠ b := by
 intro e; subst e; rw [h] at h'; exact d (Option.some.inj h')
theorem aO {H : Hp} {a b : Addr} {o : HO} (h : H a = some o) (h' : H b = none) : a ≠ b := by
 intro e; subst e; rw [h] at h'; cases h'
section
variable (P : Program) (w : World)
def bh (H : Hp) (h : Heap) (a : Addr) : HO -> Prop
 | .lst xs => xs.length <= sizeLine /\ ∃ (its : List Value) (n : Nat), am xs its /\ h.get? a = some { cls := .type "list", data := .seq its.toArray n }
 | .tup xs => xs.length <= sizeLine /\ ∃ its : List Value, am xs its /\ IsTup h a its.toArray
 | .dK kvs => kvs.length <= sizeLine /\ (a == sysModules) = false /\ ∃ vs, KV kvs vs /\ h.DictOf (eV P w) a vs
 | .dT kvs => kvs.length <= sizeLine /\ (a == sysModules) = false /\ ∃ xs : List (List Key × Addr × Value),
   Paired (fun (p : List Key × V) (q : List Key × Addr × Value) => p.1 = q.1 /\ H q.2.1 = some (.tup (p.1.map kV)) /\ aw p.2 q.2.2) kvs xs /\
   ∃ o es ep, h.get? a = some o /\ o.ExactDict /\ o.data = .dict es ep /\ es.toList = xs.map (entryOfKey (tupleKind (eV P w))) /\ (xs.map (·.1)).Nodup
 | .set S n => h.SetOf (intKind P w) a S n
 | .ins C dx fs => H dx = some (.own a) /\ fs.length <= 1000 /\ dx ≠ a /\ h.get? a = some (PySem.W.instObj C dx) /\
   ∃ mA, h.Ns1 dx mA /\ (∀ f, qZ (fs.lookup f) (mA f)) /\ PySem.Within mA (fs.map (·.1))
 | .own _ => ∃ o, h.get? a = some o
 | .xd fs => ∃ mA, h.Ns1 a mA /\ ∀ f, qZ (fs.lookup f) (mA f)
 | .rng lo hi => ∃ t u v, h.get? a = some { cls := .type "range", data := .fields #[.int lo t, .int hi u, .int 1 v] }
 | .frz o u => h.get? a = some o /\ bh H h a u
 | .tbl ps => h.get? a = some { cls := .none, data := .fields ps }
 | .met f x => h.get? a = some (PySem.W.methodObj (.ref f) (.ref x))
 | .ext φ => φ h /\ (∃ o, h.get? a = some o) /\ ∀ h1 h2 : Heap, φ h1 -> (∀ o, h1.get? a = some o -> h2.get? a = some o) -> φ h2
def eP (H : Hp) (h : Heap) : Prop := ∀ a o, H a = some o -> bh P w H h a o
end
section
variable {P : Program} {w : World} {H H' : Hp} {h h' : Heap} {a : Addr} {o : HO}
theorem bh.lt (x : bh P w H h a o) : a < h.objs.size := by
 cases o with
 | lst xs => obtain ⟨_, _, _, _, e⟩ := x; exact Heap.lt_size e
 | tup xs => obtain ⟨_, _, _, p⟩ := x; exact p.lt
 | dK kvs => obtain ⟨_, _, _, _, o, _, _, e, _⟩ := x; exact Heap.lt_size e
 | dT kvs => obtain ⟨_, _, _, _, o, _, _, e, _⟩ := x; exact Heap.lt_size e
 | set S n => obtain ⟨o, _, _, _, e, _⟩ := x; exact Heap.lt_size e
 | ins C dx fs => obtain ⟨_, _, _, e, _⟩ := x; exact Heap.lt_size e
 | own y => obtain ⟨_, e⟩ := x; exact Heap.lt_size e
 | xd fs => obtain ⟨_, ⟨_, _, _, e, _⟩, _⟩ := x; exact Heap.lt_size e
 | rng lo hi => obtain ⟨_, _, _, e⟩ := x; exact Heap.lt_size e
 | frz ob u => obtain ⟨e, _⟩ := x; exact Heap.lt_size e
 | tbl ps => exact Heap.lt_size (show h.get? a = some _ from x)
 | met f y => exact Heap.lt_size (show h.get? a = some _ from x)
 | ext φ => obtain ⟨_, ⟨_, e⟩, _⟩ := x; exact Heap.lt_size e
theorem Paired.mapP {α β : Type} {F G : α -> β -> Prop} : ∀ {l₁ : List α} {l₂ : List β}, Paired F l₁ l₂ -> (∀ a b, F a b -> G a b) -> Paired G l₁ l₂
 | _, _, .nil, _ => .nil
 | _, _, .cons r t, f => .cons (f _ _ r) (Paired.mapP t f)
theorem bh.stay (x : bh P w H h a o) (k : ∀ b u, (b = a ∨ H b = some (.own a)) -> h.get? b = some u -> h'.get? b = some u)
  (ho : ∀ b, H b = some (.own a) -> H' b = some (.own a)) (ht : ∀ b xs, H b = some (.tup xs) -> H' b = some (.tup xs)) : bh P w H' h' a o := by
 induction o with
 | lst xs => obtain ⟨z, its, n, r, e⟩ := x; exact ⟨z, its, n, r, k _ _ (.inl rfl) e⟩
 | tup xs => obtain ⟨z, its, r, ob, e, c⟩ := x; exact ⟨z, its, r, ob, k _ _ (.inl rfl) e, c⟩
 | dK kvs => obtain ⟨z, y, vs, r, ob, es, ep, e, c⟩ := x; exact ⟨z, y, vs, r, ob, es, ep, k _ _ (.inl rfl) e, c⟩
 | dT kvs =>
  obtain ⟨z, y, xs, r, ob, es, ep, e, c⟩ := x
  exact ⟨z, y, xs, Paired.mapP r fun p q z => ⟨z.1, ht _ _ z.2.1, z.2.2⟩, ob, es, ep, k _ _ (.inl rfl) e, c⟩
 | set S n => obtain ⟨ob, es, ep, t, e, c⟩ := x; exact ⟨ob, es, ep, t, k _ _ (.inl rfl) e, c⟩
 | ins C dx fs =>
  obtain ⟨d, z, ne, e, mA, ⟨od, es, ep, e2, c⟩, r⟩ := x
  exact ⟨ho _ d, z, ne, k _ _ (.inl rfl) e, mA, ⟨od, es, ep, k _ _ (.inr d) e2, c⟩, r⟩
 | own y => obtain ⟨ob, e⟩ := x; exact ⟨ob, k _ _ (.inl rfl) e⟩
 | xd fs => obtain ⟨mA, ⟨od, es, ep, e, c⟩, r⟩ := x; exact ⟨mA, ⟨od, es, ep, k _ _ (.inl rfl) e, c⟩, r⟩
 | rng lo hi => obtain ⟨t, u, v, e⟩ := x; exact ⟨t, u, v, k _ _ (.inl rfl) e⟩
 | frz ob u ih => obtain ⟨e, q⟩ := x; exact ⟨k _ _ (.inl rfl) e, ih q⟩
 | tbl ps =>
  have e : h.get? a = some { cls := .none, data := .fields ps } := x
  show h'.get? a = some { cls := .none, data := .fields ps }
  exact k a _ (.inl rfl) e
 | met f y =>
  have e : h.get? a = some (PySem.W.methodObj (.ref f) (.ref y)) := x
  show h'.get? a = some (PySem.W.methodObj (.ref f) (.ref y))
  exact k a _ (.inl rfl) e
 | ext φ => obtain ⟨p, ⟨o, e⟩, st⟩ := x; exact ⟨st _ _ p fun o q => k _ _ (.inl rfl) q, ⟨o, k _ _ (.inl rfl) e⟩, st⟩
theorem eP.lt (x : eP P w H h) (e : H a = some o) : a < h.objs.size := (x a o e).lt
theorem eP.fresh (x : eP P w H h) (e : h.objs.size <= a) : H a = none := by
 cases q : H a with
 | none => rfl
 | some u => exact absurd (Nat.lt_of_lt_of_le (x.lt q) e) (Nat.lt_irrefl _)
theorem eP.kept (x : eP P w H h) (k : ∀ b u, h.get? b = some u -> h'.get? b = some u) : eP P w H h' := fun a o e =>
 (x a o e).stay (fun b u _ q => k b u q) (fun _ q => q) fun _ _ q => q
theorem eP.laid (x : eP P w H h) (k : ∀ b u, h.get? b = some u -> h'.get? b = some u) (hp : h.objs.size <= a) (new : bh P w (upd H a o) h' a o) : eP P w (upd H a o) h' := fun b u e => by
 have hn := x.fresh hp
 by_cases hb : b = a
 ·subst hb; rw [ad] at e; cases e; exact new
 ·rw [ac hb] at e
  exact (x b u e).stay (fun c v _ q => k c v q) (fun c q => by rw [ac (aO q hn)]; exact q) fun c xs q => by rw [ac (aO q hn)]; exact q
end
def Rd (H : Hp) (a : Addr) (u : HO) : Prop := H a = some u ∨ ∃ o, H a = some (.frz o u)
theorem Rd.of {H : Hp} {a : Addr} {u : HO} (h : H a = some u) : Rd H a u := .inl h
theorem Rd.ok {P : Program} {w : World} {H : Hp} {h : Heap} {a : Addr} {u : HO} (r : Rd H a u) (x : eP P w H h) : bh P w H h a u := by
 rcases r with r | ⟨o, r⟩
 ·exact x a u r
 ·obtain ⟨_, q⟩ := x a _ r
  exact q
def zg : Option HO -> Prop
 | some (.lst _) => True
 | some (.dK _) => True
 | some (.dT _) => True
 | some (.set _ _) => True
 | some (.ins _ _ _) => True
 | some (.ext _) => True
 | _ => False
section
variable {P : Program} {w : World} {H : Hp} {h h' : Heap} {x e : Addr} {o' : HO}
theorem eP.write (ok : eP P w H h) (mu : zg (H x)) (he : e = x ∨ H e = some (.own x)) (k : ∀ b u, b ≠ e -> h.get? b = some u -> h'.get? b = some u) (heo : ∃ u, h'.get? e = some u)
  (new : bh P w (upd H x o') h' x o') : eP P w (upd H x o') h' := fun b u q => by
 have nown : ∀ c y, H c = some (.own y) -> c ≠ x := fun c y r z => by subst z; rw [r] at mu; exact mu
 have ntup : ∀ c xs, H c = some (.tup xs) -> c ≠ x := fun c xs r z => by subst z; rw [r] at mu; exact mu
 by_cases hb : b = x
 ·subst hb; rw [ad] at q; cases q; exact new
 ·rw [ac hb] at q
  by_cases hbe : b = e
  ·have q' : H b = some (.own x) := by
    rcases he with z | z
    ·exact absurd (hbe.trans z) hb
    ·rw [hbe]; exact z
   rw [q] at q'; cases q'
   obtain ⟨v, hv⟩ := heo
   exact ⟨v, by rw [hbe]; exact hv⟩
  ·refine (ok b u q).stay (fun c v hc r => k c v ?_ r) (fun c r => by rw [ac (nown c b r)]; exact r) fun c xs r => by rw [ac (ntup c xs r)]; exact r
   rcases hc with rfl | hc
   ·exact hbe
   ·rintro rfl
    rcases he with z | z
    ·exact nown c b hc z
    ·rw [hc] at z; cases z; exact hb rfl
end
structure Un (fs ex : List Addr) (H H' : Hp) (h h' : Heap) : Prop where
 keep : ∀ b o, h.get? b = some o -> H b = none -> b ∉ fs -> b ∉ ex -> h'.get? b = some o
 slot : ∀ b o, h.get? b = some o -> H b = none -> b ∈ fs -> b ∉ ex -> ∃ sl, h'.get? b = some { o with slots := sl }
 free : ∀ b o, h.get? b = some o -> H b = none -> b ∉ ex -> H' b = none
 there : ∀ b o, h.get? b = some o -> b ∉ ex -> ∃ o', h'.get? b = some o'
 tups : ∀ b xs, H b = some (.tup xs) -> H' b = some (.tup xs)
 frzs : ∀ b o u, H b = some (.frz o u) -> H' b = some (.frz o u)
 tbls : ∀ b ps, H b = some (.tbl ps) -> ∃ more, H' b = some (.tbl (ps ++ more))
section
variable {fs fs' ex ex' : List Addr} {H H1 H2 : Hp} {h h1 h2 h' : Heap} {a x e : Addr} {o : HO}
theorem Un.any (u : Un fs ex H H1 h h1) {b : Addr} {ob : Obj} (q : h.get? b = some ob) (n : H b = none) (hx : b ∉ ex) : ∃ sl, h1.get? b = some { ob with slots := sl } := by
 by_cases hb : b ∈ fs
 ·exact u.slot b ob q n hb hx
 ·exact ⟨ob.slots, u.keep b ob q n hb hx⟩
theorem Un.trans (a : Un fs ex H H1 h h1) (b : Un fs ex H1 H2 h1 h2) : Un fs ex H H2 h h2 where
 keep := fun c ob q n hc hx => b.keep c ob (a.keep c ob q n hc hx) (a.free c ob q n hx) hc hx
 slot := fun c ob q n hc hx => by
  obtain ⟨sl, e1⟩ := a.slot c ob q n hc hx
  obtain ⟨sl', e2⟩ := b.slot c _ e1 (a.free c ob q n hx) hc hx
  exact ⟨sl', e2⟩
 free := fun c ob q n hx => by
  obtain ⟨o', e1⟩ := a.there c ob q hx
  exact b.free c o' e1 (a.free c ob q n hx) hx
 there := fun c ob q hx => by
  obtain ⟨o', e1⟩ := a.there c ob q hx
  exact b.there c o' e1 hx
 tups := fun c xs q => b.tups c xs (a.tups c xs q)
 frzs := fun c ob xs q => b.frzs c ob xs (a.frzs c ob xs q)
 tbls := fun c ps q => by
  obtain ⟨m1, e1⟩ := a.tbls c ps q
  obtain ⟨m2, e2⟩ := b.tbls c _ e1
  exact ⟨m1 ++ m2, by rw [e2, Array.append_assoc]⟩
theorem Un.kept (k : ∀ b u, h.get? b = some u -> h'.get? b = some u) : Un fs ex H H h h' :=
 ⟨fun b ob q _ _ _ => k b ob q, fun b ob q _ _ _ => ⟨ob.slots, k b ob q⟩, fun _ _ _ n _ => n, fun b ob q _ => ⟨ob, k b ob q⟩, fun _ _ q => q, fun _ _ _ q => q, fun _ ps q => ⟨#[], by rw [q]; simp⟩⟩
theorem Un.refl : Un fs ex H H h h := Un.kept fun _ _ q => q
theorem Un.laid (k : ∀ b u, h.get? b = some u -> h'.get? b = some u) (hp : h.objs.size <= a) (hn : H a = none) : Un fs ex H (upd H a o) h h' where
 keep := fun b u q _ _ _ => k b u q
 slot := fun b u q _ _ _ => ⟨u.slots, k b u q⟩
 free := fun b u q n _ => by rw [ac (Nat.ne_of_lt (Nat.lt_of_lt_of_le (Heap.lt_size q) hp))]; exact n
 there := fun b u q _ => ⟨u, k b u q⟩
 tups := fun b xs q => by rw [ac (aO q hn)]; exact q
 frzs := fun b u xs q => by rw [ac (aO q hn)]; exact q
 tbls := fun b ps q => ⟨#[], by rw [ac (aO q hn), q]; simp⟩
theorem Un.write (mu : zg (H x)) (he : e = x ∨ H e = some (.own x)) (k : ∀ b u, b ≠ e -> h.get? b = some u -> h'.get? b = some u) (heo : ∃ u, h'.get? e = some u) : Un fs ex H (upd H x o) h h' := by
 have hx : ∀ b, H b = none -> b ≠ x := fun b n z => by subst z; rw [n] at mu; exact mu
 have hb : ∀ b, H b = none -> b ≠ e := fun b n z => by
  subst z
  rcases he with r | r
  ·exact hx b n r
  ·rw [n] at r; cases r
 have hm : ∀ b u, H b = some u -> ¬ zg (some u) -> b ≠ x := fun b u q nm z => by subst z; rw [q] at mu; exact nm mu
 refine ⟨fun b u q n _ _ => k b u (hb b n) q, fun b u q n _ _ => ⟨u.slots, k b u (hb b n) q⟩, fun b u q n _ => by rw [ac (hx b n)]; exact n, fun b u q _ => ?_,
  fun b xs q => by rw [ac (hm b _ q fun z => z)]; exact q, fun b u xs q => by rw [ac (hm b _ q fun z => z)]; exact q, fun b ps q => ⟨#[], by rw [ac (hm b _ q fun z => z), q]; simp⟩⟩
 by_cases hbe : b = e
 ·subst hbe; exact heo
 ·exact ⟨u, k b u hbe q⟩
theorem Un.mono (u : Un fs ex H H1 h h1) (hs : ∀ b ∈ fs, b ∈ fs') (hx : ∀ b ∈ ex, b ∈ ex') : Un fs' ex' H H1 h h1 :=
 ⟨fun b ob q n hb he => u.keep b ob q n (fun z => hb (hs b z)) fun z => he (hx b z), fun _ _ q n _ he => u.any q n fun z => he (hx _ z), fun b ob q n he => u.free b ob q n fun z => he (hx b z), fun b ob q he => u.there b ob q fun z => he (hx b z), u.tups, u.frzs, u.tbls⟩
end
def yY (h : Heap) (H : Hp) : List Addr := (List.range h.objs.size).filter fun a => (H a).isSome
def hX (h : Heap) (H : Hp) : Heap := PySem.W.hideAll h (yY h H)
theorem mT (h : Heap) (H : Hp) : (hX h H).objs.size = h.objs.size := PySem.W.hideAll_size _ _
theorem oO {h : Heap} {H : Hp} {b : Addr} {o : Obj} (e : h.get? b = some o) (n : H b = none) : (hX h H).get? b = some o :=
 PySem.W.hideAll_get _ e fun hm => by
  have q : (H b).isSome = true := (List.mem_filter.mp hm).2
  rw [n] at q; simp at q
theorem qU {h : Heap} {H : Hp} {b : Addr} {o : Obj} (e : (hX h H).get? b = some o) : h.get? b = some o /\ H b = none := by
 have e' : h.get? b = some o := PySem.W.of_hideAll (yY h H) e
 refine ⟨e', ?_⟩
 cases q : H b with
 | none => rfl
 | some x =>
  have hm : b ∈ yY h H := List.mem_filter.mpr ⟨List.mem_range.mpr (Heap.lt_size e'), by simp [q]⟩
  have z : (hX h H).get? b = none := PySem.W.hideAll_none (yY h H) hm
  rw [z] at e; cases e
def rP (g h : Heap) (L : Addr) : Pn := (List.range h.objs.size).filterMap fun a => if a = L ∨ (g.get? a).isSome = true then none else (h.get? a).map fun o => (a, o)
def db (g h : Heap) (L d : Addr) : Pn := (rP g h L).filter fun p => decide (p.1 ≠ d)
end L2
namespace L2
open PySem PySem.Spec PyProof.Rows
structure Mod (K : Fg) (mg : Str -> Option Value) (base : Heap) : Prop where
 kin : K.In base
 glob : base.Ns mainGlobals mg
 blt : ∃ mb, base.Ns builtinsNs mb /\ ∀ x : Str, x ≠ "__name__" -> mb x = bootBuiltins x
 nolimit : base.NoLimit
structure Cx where
 prog : Program
 w : World
 K : Fg
 mg : Str -> Option Value
 base : Heap
 A : Around
 N : List Str
 s₀ : Shared
 H₀ : Hp
 env : Env
 outer : List Env
 stack : List Env
 ex : List Addr
 fn : Str -> Bool
 calm : Bool
 pn : Pn
 xe : Value -> Shared -> Prop
def gB (l : List Env) : List Addr := l.filterMap (·.frame)
abbrev Cx.fs (X : Cx) : List Addr := gB X.outer
def wG (sc : Scope) (x : Str) : Prop := sc.names.lookup x = some .local ∨ sc.names.lookup x = some .cell ∨ sc.names.lookup x = some .free
def yx (sc : Scope) (x : Str) : Prop := sc.names.lookup x = some .local ∨ sc.names.lookup x = some .cell
def As (env : Env) (h : Heap) (m : Str -> Option Value) (x : Str) (u : Value) : Prop :=
 (env.kindOf x = some .local /\ m x = some u) ∨ ((env.kindOf x = some .cell ∨ env.kindOf x = some .free) /\ ∃ c, env.cells.lookup x = some c /\ h.IsCell c (some u))
structure Cx.Ok (X : Cx) : Prop where
 mod : Mod X.K X.mg X.base
 kind : X.env.scope.kind = .function
 glob : X.env.globals = mainGlobals
 blt : X.env.builtins = builtinsNs
 above : X.s₀.heap.objs.size <= X.env.locals
 inj : ∀ x y c, X.env.cells.lookup x = some c -> X.env.cells.lookup y = some c -> x = y
 has : ∀ x, (X.env.kindOf x = some .cell ∨ X.env.kindOf x = some .free) -> ∃ c, X.env.cells.lookup x = some c
 cab : ∀ x c, X.fn x = true -> X.env.cells.lookup x = some c -> X.s₀.heap.objs.size <= c
 hd : X.calm = true -> X.A.handled = none
 frames : X.A.frames = some X.stack
 stk : X.stack = X.outer ∨ (X.stack = X.env :: X.outer /\ X.env.frame = some X.env.locals)
 exf : ∀ b ∈ X.ex, b ≠ X.env.locals /\ ∀ x c, X.env.cells.lookup x = some c -> c ≠ b
 bs : ∀ b o, X.base.get? b = some o -> X.s₀.heap.get? b = some o /\ X.H₀ b = none
 bsz : X.base.objs.size <= X.s₀.heap.objs.size
 noex : ∀ b o, X.base.get? b = some o -> b ∉ X.ex
 exfs : ∀ b ∈ X.ex, b ∉ X.fs
 funs : X.s₀.heap.FunFrames X.base X.outer
 frf : ∀ b ∈ X.fs, X.H₀ b = none
structure ae (X : Cx) (pins : Pn) (σ : List (Option V)) (H : Hp) (s : Shared) : Prop where
 ok : X.Ok
 os : s.os = X.s₀.os
 bare : AllBare s.gens
 base : Un X.fs X.ex X.H₀ H X.s₀.heap s.heap
 loc : ∃ m, s.heap.Ns X.env.locals m /\ ∀ (i : Nat) (x : Str) (v : V), X.N[i]? = some x -> σ[i]? = some (some v) -> wG X.env.scope x -> ∃ u, aw v u /\ As X.env s.heap m x u
 cell : ∀ x c, X.env.cells.lookup x = some c -> ∃ v, s.heap.IsCell c v
 free : H X.env.locals = none
 freeC : ∀ x c, X.env.cells.lookup x = some c -> H c = none
 pin : ∀ p ∈ X.pn ++ pins, s.heap.get? p.1 = some p.2 /\ H p.1 = none /\ p.1 ≠ X.env.locals /\ p.1 ∉ X.fs /\ ∀ v, p.2.data ≠ .cell v
 hok : eP X.prog X.w H s.heap
 len : σ.length = X.N.length
section
variable {X : Cx} {pins : Pn} {σ : List (Option V)} {H H' : Hp} {s : Shared} {h' : Heap}
theorem Cx.Ok.nofr (ok : X.Ok) {b : Addr} {o : Obj} (e : X.base.get? b = some o) : b ∉ X.fs := fun hb => by
 have := (ok.funs.mem hb).1
 rw [e] at this; cases this
theorem ae.bs (I : ae X pins σ H s) : ∀ b o, X.base.get? b = some o -> s.heap.get? b = some o /\ H b = none := fun b o e =>
 ⟨I.base.keep b o (I.ok.bs b o e).1 (I.ok.bs b o e).2 (I.ok.nofr e) (I.ok.noex b o e), I.base.free b o (I.ok.bs b o e).1 (I.ok.bs b o e).2 (I.ok.noex b o e)⟩
theorem ae.bk (I : ae X pins σ H s) : ∀ b o, X.base.get? b = some o -> s.heap.get? b = some o := fun b o e => (I.bs b o e).1
theorem ae.mod (I : ae X pins σ H s) : Mod X.K X.mg X.base := I.ok.mod
theorem ae.kIn (I : ae X pins σ H s) : X.K.In s.heap := I.ok.mod.kin.keeps I.bk
theorem ae.nolimit (I : ae X pins σ H s) : s.heap.NoLimit := I.ok.mod.nolimit.keeps I.bk
theorem ae.fr (I : ae X pins σ H s) : ∃ m, Fr X.base X.env.locals s.heap m :=
 let ⟨m, hn, _⟩ := I.loc
 ⟨m, hn, I.bk, Nat.le_trans I.ok.bsz I.ok.above⟩
theorem ae.lt (I : ae X pins σ H s) : X.env.locals < s.heap.objs.size := let ⟨_, hn, _⟩ := I.loc; hn.lt
theorem ae.sz (I : ae X pins σ H s) : X.s₀.heap.objs.size <= s.heap.objs.size := Nat.le_trans I.ok.above (Nat.le_of_lt I.lt)
theorem ae.nofs (I : ae X pins σ H s) {a : Addr} (h : s.heap.objs.size <= a) : a ∉ X.fs := fun hb => by
 obtain ⟨_, o, ho, _⟩ := I.ok.funs.mem hb
 exact absurd (Nat.lt_of_lt_of_le (Heap.lt_size ho) (Nat.le_trans I.sz h)) (Nat.lt_irrefl _)
theorem ae.cne (I : ae X pins σ H s) : ∀ x c, X.env.cells.lookup x = some c -> c ≠ X.env.locals := fun x c e z => by
 obtain ⟨v, o, ho, hd⟩ := I.cell x c e
 obtain ⟨m, ⟨o', es, ep, ho', hd', _⟩, _⟩ := I.loc
 rw [z, ho'] at ho; cases ho; rw [hd'] at hd; cases hd
theorem ae.funs (I : ae X pins σ H s) : s.heap.FunFrames X.base X.outer := by
 have all : ∀ (l : List Env), (∀ b ∈ gB l, b ∈ X.fs) -> X.s₀.heap.FunFrames X.base l -> s.heap.FunFrames X.base l := by
  intro l
  induction l with
  | nil => intro _ _; trivial
  | cons env r ih =>
   intro hs hl
   obtain ⟨hk, ⟨L, o, hf, hn, ho, hd⟩, hr⟩ := hl
   have hL : L ∈ X.fs := hs L (by unfold gB; rw [List.filterMap_cons, hf]; exact List.mem_cons_self)
   obtain ⟨sl, e⟩ := I.base.slot L o ho (I.ok.frf L hL) hL fun z => I.ok.exfs L z hL
   exact ⟨hk, ⟨L, _, hf, hn, e, hd⟩, ih (fun b hb => hs b (by unfold gB; rw [List.filterMap_cons, hf]; exact List.mem_cons_of_mem _ hb)) hr⟩
 exact all X.outer (fun _ hb => hb) I.ok.funs
theorem ae.stack (I : ae X pins σ H s) : s.heap.FunFrames X.base X.stack := by
 rcases I.ok.stk with e | ⟨e, hf⟩
 ·rw [e]; exact I.funs
 ·rw [e]
  obtain ⟨m, hn, _⟩ := I.loc
  refine .cons (by rw [I.ok.kind]; decide) hf hn ?_ I.funs
  exact Heap.get?_none_of_le (Nat.le_trans I.ok.bsz I.ok.above)
theorem ae.stkSub (I : ae X pins σ H s) : ∀ b ∈ gB X.stack, b ∈ X.env.locals :: X.fs := fun b hb => by
 rcases I.ok.stk with e | ⟨e, hf⟩
 ·rw [e] at hb; exact List.mem_cons_of_mem _ hb
 ·rw [e] at hb
  unfold gB at hb
  rw [List.filterMap_cons, hf] at hb
  exact hb
theorem ae.stkFree (I : ae X pins σ H s) : ∀ b ∈ gB X.stack, H b = none := fun b hb => by
 rcases List.mem_cons.mp (I.stkSub b hb) with e | hb
 ·rw [e]; exact I.free
 ·obtain ⟨_, o, ho, _⟩ := I.ok.funs.mem hb
  exact I.base.free b o ho (I.ok.frf b hb) fun z => I.ok.exfs b z hb
theorem ae.step {g' : Array GenState} {t' : Nat} {d' : Drawn} {ch : List Addr} (I : ae X pins σ H s)
  (hch : ∀ b ∈ ch, (b ∈ X.ex ∨ X.s₀.heap.objs.size <= b) /\ b ≠ X.env.locals /\ (∀ x c, X.env.cells.lookup x = some c -> c ≠ b) /\ ∀ p ∈ X.pn ++ pins, p.1 ≠ b)
  (keep : ∀ b o, b ≠ X.env.locals -> b ∉ X.fs -> b ∉ ch -> s.heap.get? b = some o -> H b = none -> h'.get? b = some o)
  (slot : ∀ b o, b ≠ X.env.locals -> b ∈ X.fs -> b ∉ ch -> s.heap.get? b = some o -> H b = none -> ∃ sl, h'.get? b = some { o with slots := sl }) (free : ∀ b o, b ∉ ch -> s.heap.get? b = some o -> H b = none -> H' b = none)
  (there : ∀ b o, b ∉ ch -> s.heap.get? b = some o -> ∃ o', h'.get? b = some o')
  (tups : ∀ b xs, H b = some (.tup xs) -> H' b = some (.tup xs)) (frzs : ∀ b o u, H b = some (.frz o u) -> H' b = some (.frz o u)) (tbls : ∀ b ps, H b = some (.tbl ps) -> ∃ more, H' b = some (.tbl (ps ++ more)))
  (ns : ∀ m, s.heap.Ns X.env.locals m -> h'.Ns X.env.locals m) (hok : eP X.prog X.w H' h') (hg : AllBare g') :
  ae X pins σ H' { s with heap := h', gens := g', drawn := d', toks := t' } := by
 have neL : ∀ b o, X.s₀.heap.get? b = some o -> b ≠ X.env.locals := fun b o e => Nat.ne_of_lt (Nat.lt_of_lt_of_le (Heap.lt_size e) I.ok.above)
 have neC : ∀ b o, X.s₀.heap.get? b = some o -> b ∉ X.ex -> b ∉ ch := fun b o e hx hb => by
  rcases (hch b hb).1 with z | z
  ·exact hx z
  ·exact absurd (Nat.lt_of_lt_of_le (Heap.lt_size e) z) (Nat.lt_irrefl _)
 have cellK : ∀ x c, X.env.cells.lookup x = some c -> ∀ v, s.heap.IsCell c v -> h'.IsCell c v := fun x c e v ⟨o, ho, hd⟩ => by
  have nch : c ∉ ch := fun z => (hch c z).2.2.1 x c e rfl
  by_cases hc : c ∈ X.fs
  ·obtain ⟨sl, q⟩ := slot c o (I.cne x c e) hc nch ho (I.freeC x c e)
   exact ⟨_, q, hd⟩
  ·exact ⟨o, keep c o (I.cne x c e) hc nch ho (I.freeC x c e), hd⟩
 refine ⟨I.ok, I.os, hg, ⟨fun b o e n hb hx => ?_, fun b o e n hb hx => ?_, fun b o e n hx => ?_, fun b o e hx => ?_, fun b xs e => tups b xs (I.base.tups b xs e), fun b o xs e => frzs b o xs (I.base.frzs b o xs e), fun b ps e => ?_⟩, ?_, fun x c e => ?_, ?_, fun x c e => ?_, fun p hp => ?_, hok, I.len⟩
 ·exact keep b o (neL b o e) hb (neC b o e hx) (I.base.keep b o e n hb hx) (I.base.free b o e n hx)
 ·obtain ⟨sl, e1⟩ := I.base.slot b o e n hb hx
  obtain ⟨sl', e2⟩ := slot b _ (neL b o e) hb (neC b o e hx) e1 (I.base.free b o e n hx)
  exact ⟨sl', e2⟩
 ·obtain ⟨o', e1⟩ := I.base.there b o e hx
  exact free b o' (neC b o e hx) e1 (I.base.free b o e n hx)
 ·obtain ⟨o', e1⟩ := I.base.there b o e hx
  exact there b o' (neC b o e hx) e1
 ·obtain ⟨m1, e1⟩ := I.base.tbls b ps e
  obtain ⟨m2, e2⟩ := tbls b _ e1
  exact ⟨m1 ++ m2, by rw [e2, Array.append_assoc]⟩
 ·obtain ⟨m, hn, hl⟩ := I.loc
  refine ⟨m, ns m hn, fun i x v e1 e2 e3 => ?_⟩
  obtain ⟨u, r, l⟩ := hl i x v e1 e2 e3
  refine ⟨u, r, ?_⟩
  rcases l with l | ⟨k, c, e, z⟩
  ·exact .inl l
  ·exact .inr ⟨k, c, e, cellK x c e _ z⟩
 ·obtain ⟨v, z⟩ := I.cell x c e
  exact ⟨v, cellK x c e v z⟩
 ·obtain ⟨m, ⟨o, _, _, ho, _⟩, _⟩ := I.loc
  exact free _ o (fun z => (hch _ z).2.1 rfl) ho I.free
 ·obtain ⟨v, o, ho, hd⟩ := I.cell x c e
  exact free c o (fun z => (hch c z).2.2.1 x c e rfl) ho (I.freeC x c e)
 ·obtain ⟨e, n, ne, nf, d⟩ := I.pin p hp
  have nch : p.1 ∉ ch := fun z => (hch p.1 z).2.2.2 p hp rfl
  exact ⟨keep p.1 p.2 ne nf nch e n, free p.1 p.2 nch e n, ne, nf, d⟩
theorem ae.un {t' : Nat} (I : ae X pins σ H s) (u : Un X.fs [] H H' s.heap h') (hok : eP X.prog X.w H' h') : ae X pins σ H' { s with heap := h', toks := t' } := by
 obtain ⟨m, ⟨o, es, ep, ho, r⟩, _⟩ := id I.loc
 obtain ⟨sl, hL⟩ := u.any ho I.free (by simp)
 exact I.step (g' := s.gens) (d' := s.drawn) (ch := []) (fun _ z => nomatch z) (fun b o _ hb _ e n => u.keep b o e n hb (by simp)) (fun b o _ hb _ e n => u.slot b o e n hb (by simp)) (fun b o _ e n => u.free b o e n (by simp)) (fun b o _ e => u.there b o e (by simp)) u.tups u.frzs u.tbls (fun m' hm => by
  obtain ⟨o', es', ep', ho', r'⟩ := hm
  rw [ho] at ho'; cases ho'
  exact ⟨_, es', ep', hL, r'⟩) hok I.bare
theorem ae.call {g' : Array GenState} {t' : Nat} {d' : Drawn} {ch : List Addr} (I : ae X pins σ H s) (u : Un (gB X.stack) ch H H' s.heap h') (hok : eP X.prog X.w H' h') (hg : AllBare g')
  (hch : ∀ b ∈ ch, (b ∈ X.ex ∨ X.s₀.heap.objs.size <= b) /\ b ≠ X.env.locals /\ (∀ x c, X.env.cells.lookup x = some c -> c ≠ b) /\ ∀ p ∈ X.pn ++ pins, p.1 ≠ b) :
  ae X pins σ H' { s with heap := h', gens := g', drawn := d', toks := t' } := by
 obtain ⟨m, ⟨o, es, ep, ho, r⟩, _⟩ := id I.loc
 obtain ⟨sl, hL⟩ := u.any ho I.free fun z => (hch _ z).2.1 rfl
 exact I.step (ch := ch) hch (fun b o hL hb hc e n => u.keep b o e n (fun z => (List.mem_cons.mp (I.stkSub b z)).elim hL hb) hc) (fun b o _ _ hc e n => u.any e n hc) (fun b o hc e n => u.free b o e n hc) (fun b o hc e => u.there b o e hc) u.tups u.frzs u.tbls (fun m' hm => by
  obtain ⟨o', es', ep', ho', r'⟩ := hm
  rw [ho] at ho'; cases ho'
  exact ⟨_, es', ep', hL, r'⟩) hok hg
theorem ae.turned {t' : Nat} {it : Addr} (I : ae X pins σ H s) (k : ∀ b o, b ≠ it -> s.heap.get? b = some o -> h'.get? b = some o) (hn : H it = none) (hL : it ≠ X.env.locals)
  (h1 : it ∈ X.ex ∨ X.s₀.heap.objs.size <= it) (h2 : ∀ x c, X.env.cells.lookup x = some c -> c ≠ it) (h3 : ∀ p ∈ X.pn ++ pins, p.1 ≠ it) : ae X pins σ H { s with heap := h', toks := t' } := by
 have nit : ∀ b u, H b = some u -> b ≠ it := fun b u e z => by rw [z, hn] at e; cases e
 refine I.step (g' := s.gens) (d' := s.drawn) (ch := [it]) (fun b hb => ?_) (fun b o _ _ hc e _ => k b o (fun z => hc (by simp [z])) e) (fun b o _ _ hc e _ => ⟨o.slots, k b o (fun z => hc (by simp [z])) e⟩) (fun _ _ _ _ n => n)
  (fun b o hc e => ⟨o, k b o (fun z => hc (by simp [z])) e⟩) (fun _ _ e => e) (fun _ _ _ e => e) (fun b ps e => ⟨#[], by rw [e]; simp⟩) (fun m hm => ?_) (fun b u e => ?_) I.bare
 ·have e : b = it := by simpa using hb
  subst e
  exact ⟨h1, hL, h2, h3⟩
 ·obtain ⟨o, es, ep, ho, r⟩ := hm
  exact ⟨o, es, ep, k _ o (Ne.symm hL) ho, r⟩
 ·refine (I.hok b u e).stay (fun c v hc q => k c v ?_ q) (fun _ q => q) fun _ _ q => q
  rcases hc with z | z
  ·rw [z]; exact nit b u e
  ·exact nit c _ z
theorem ae.tok (I : ae X pins σ H s) (t : Nat) : ae X pins σ H { s with toks := t } := I.un (h' := s.heap) (t' := t) Un.refl I.hok
theorem ae.kept {t' : Nat} (I : ae X pins σ H s) (k : ∀ b u, s.heap.get? b = some u -> h'.get? b = some u) : ae X pins σ H { s with heap := h', toks := t' } := I.un (Un.kept k) (I.hok.kept k)
theorem ae.laid {a : Addr} {o : HO} {t' : Nat} (I : ae X pins σ H s) (k : ∀ b u, s.heap.get? b = some u -> h'.get? b = some u) (hp : s.heap.objs.size <= a) (new : bh X.prog X.w (upd H a o) h' a o) :
  ae X pins σ (upd H a o) { s with heap := h', toks := t' } := I.un (Un.laid k hp (I.hok.fresh hp)) (I.hok.laid k hp new)
theorem ae.write {x e : Addr} {o : HO} {t' : Nat} (I : ae X pins σ H s) (mu : zg (H x)) (he : e = x ∨ H e = some (.own x)) (k : ∀ b u, b ≠ e -> s.heap.get? b = some u -> h'.get? b = some u) (heo : ∃ u, h'.get? e = some u)
  (new : bh X.prog X.w (upd H x o) h' x o) : ae X pins σ (upd H x o) { s with heap := h', toks := t' } := I.un (Un.write mu he k heo) (I.hok.write mu he k heo new)
theorem ae.pins_of {pins' : Pn} (I : ae X pins σ H s) (h : ∀ p ∈ pins', s.heap.get? p.1 = some p.2 /\ H p.1 = none /\ p.1 ≠ X.env.locals /\ p.1 ∉ X.fs /\ ∀ v, p.2.data ≠ .cell v) : ae X pins' σ H s :=
 ⟨I.ok, I.os, I.bare, I.base, I.loc, I.cell, I.free, I.freeC, fun p hp => (List.mem_append.mp hp).elim (fun z => I.pin p (List.mem_append_left _ z)) (h p), I.hok, I.len⟩
theorem iZ {N : List Str} (hN : N.Nodup) {i j : Nat} {x : Str} (a : N[i]? = some x) (b : N[j]? = some x) : i = j := by
 obtain ⟨h1, e1⟩ := List.getElem?_eq_some_iff.mp a
 obtain ⟨h2, e2⟩ := List.getElem?_eq_some_iff.mp b
 exact (List.getElem_inj hN).mp (e1.trans e2.symm)
theorem mV {M : Model} {A : Around} {E : Value -> Shared -> Prop} {i : Nat} {x : Str} {v : V} {u : Value} {Q : Unit -> Shared -> Prop} (I : ae X pins σ H s) (hN : X.N.Nodup) (hi : X.N[i]? = some x) (hx : yx X.env.scope x) (r : aw v u)
  (h : ∀ s', ae X pins (σ.set i (some v)) H s' -> (∃ a, Heap.SameBut a s.heap s'.heap /\ (a = X.env.locals ∨ X.env.cells.lookup x = some a)) -> Q () s') (hf : X.fn x = true ∨ X.env.scope.names.lookup x = some .local := by first | exact .inl rfl | exact .inr rfl | assumption) : wpAny M A (storeName X.env x u) Q E s := by
 obtain ⟨m, hn, hl⟩ := id I.loc
 have hcls : (X.env.scope.kind == .class || (X.env.scope.kind == .module && X.env.locals != X.env.globals)) = false := by rw [I.ok.kind]; rfl
 have hiσ : i < σ.length := by rw [I.len]; exact (List.getElem?_eq_some_iff.mp hi).1
 have cne := I.cne
 have tracked : ∀ {a : Addr} {h' : Heap}, (∃ o, s.heap.get? a = some o /\ H a = none) -> Heap.SameBut a s.heap h' -> eP X.prog X.w H h' := fun {a h'} ha hs b ob e => by
  obtain ⟨_, _, hfree⟩ := ha
  refine (I.hok b ob e).stay (fun c w' hc q => (hs.2 c ?_).trans q) (fun _ q => q) fun _ _ q => q
  rintro rfl
  rcases hc with rfl | hc
  ·rw [hfree] at e; cases e
  ·rw [hfree] at hc; cases hc
 rcases hx with hk | hk
 ·refine wpAny_storeName_local hk hn (fun h' hn' hs => ?_) hcls
  obtain ⟨oL, _, _, hoL, _⟩ := id hn
  refine h _ ⟨I.ok, I.os, I.bare, ⟨fun b o e n hb hx => ?_, fun b o e n hb hx => ?_, I.base.free, fun b o e hx => ?_, I.base.tups, I.base.frzs, I.base.tbls⟩, ⟨_, hn', fun j y v' e1 e2 e3 => ?_⟩, fun y c e => ?_, I.free, I.freeC, fun p hp => ?_, tracked ⟨oL, hoL, I.free⟩ hs, by simpa using I.len⟩ ⟨_, hs, .inl rfl⟩
  ·exact (hs.2 b (Nat.ne_of_lt (Nat.lt_of_lt_of_le (Heap.lt_size e) I.ok.above))).trans (I.base.keep b o e n hb hx)
  ·obtain ⟨sl, e1⟩ := I.base.slot b o e n hb hx
   exact ⟨sl, (hs.2 b (Nat.ne_of_lt (Nat.lt_of_lt_of_le (Heap.lt_size e) I.ok.above))).trans e1⟩
  ·obtain ⟨o', e1⟩ := I.base.there b o e hx
   exact ⟨o', (hs.2 b (Nat.ne_of_lt (Nat.lt_of_lt_of_le (Heap.lt_size e) I.ok.above))).trans e1⟩
  ·by_cases hj : j = i
   ·subst hj
    rw [hi] at e1; cases e1
    rw [List.getElem?_set_self hiσ] at e2
    cases e2
    exact ⟨u, r, .inl ⟨hk, by simp⟩⟩
   ·rw [List.getElem?_set_ne (Ne.symm hj)] at e2
    obtain ⟨u', r', q⟩ := hl j y v' e1 e2 e3
    refine ⟨u', r', ?_⟩
    rcases q with ⟨k, e⟩ | ⟨k, c, e, z⟩
    ·refine .inl ⟨k, ?_⟩
     have : y ≠ x := fun e => hj (iZ hN e1 (e ▸ hi))
     simp [this, e]
    ·exact .inr ⟨k, c, e, z.sameBut hs (cne y c e)⟩
  ·obtain ⟨w', z⟩ := I.cell y c e
   exact ⟨w', z.sameBut hs (cne y c e)⟩
  ·obtain ⟨e, n, ne, nf, d⟩ := I.pin p hp
   exact ⟨(hs.2 p.1 ne).trans e, n, ne, nf, d⟩
 ·have hfn : X.fn x = true := by
   rcases hf with z | z
   ·exact z
   ·rw [z] at hk; cases hk
  obtain ⟨c, hc⟩ := I.ok.has x (.inl hk)
  obtain ⟨w', z⟩ := I.cell x c hc
  refine wpAny_storeName_cell I.ok.kind hk hc z (fun h' hc' hs => ?_)
  obtain ⟨oc, hoc, hocd⟩ := id z
  refine h { s with heap := h' } ⟨I.ok, I.os, I.bare, ⟨fun b o e n hb hx => ?_, fun b o e n hb hx => ?_, I.base.free, fun b o e hx => ?_, I.base.tups, I.base.frzs, I.base.tbls⟩, ⟨m, hn.sameBut hs (Ne.symm (cne x c hc)), fun j y v' e1 e2 e3 => ?_⟩, fun y c' e => ?_, I.free, I.freeC, fun p hp => ?_, tracked ⟨oc, hoc, I.freeC x c hc⟩ hs, by simpa using I.len⟩ ⟨c, hs, .inr hc⟩
  ·exact (hs.2 b (Nat.ne_of_lt (Nat.lt_of_lt_of_le (Heap.lt_size e) (I.ok.cab x c hfn hc)))).trans (I.base.keep b o e n hb hx)
  ·obtain ⟨sl, e1⟩ := I.base.slot b o e n hb hx
   exact ⟨sl, (hs.2 b (Nat.ne_of_lt (Nat.lt_of_lt_of_le (Heap.lt_size e) (I.ok.cab x c hfn hc)))).trans e1⟩
  ·obtain ⟨o', e1⟩ := I.base.there b o e hx
   exact ⟨o', (hs.2 b (Nat.ne_of_lt (Nat.lt_of_lt_of_le (Heap.lt_size e) (I.ok.cab x c hfn hc)))).trans e1⟩
  ·by_cases hj : j = i
   ·subst hj
    rw [hi] at e1; cases e1
    rw [List.getElem?_set_self hiσ] at e2
    cases e2
    exact ⟨u, r, .inr ⟨.inl hk, c, hc, hc'⟩⟩
   ·rw [List.getElem?_set_ne (Ne.symm hj)] at e2
    obtain ⟨u', r', q⟩ := hl j y v' e1 e2 e3
    refine ⟨u', r', ?_⟩
    rcases q with q | ⟨k, c', e, z'⟩
    ·exact .inl q
    ·refine .inr ⟨k, c', e, z'.sameBut hs ?_⟩
     rintro rfl
     exact hj (iZ hN e1 (I.ok.inj _ _ _ e hc ▸ hi))
  ·by_cases hcc : c' = c
   ·subst hcc; exact ⟨_, hc'⟩
   ·obtain ⟨w2, z2⟩ := I.cell y c' e
    exact ⟨w2, z2.sameBut hs hcc⟩
  ·obtain ⟨e, n, ne, nf, d⟩ := I.pin p hp
   refine ⟨(hs.2 p.1 ?_).trans e, n, ne, nf, d⟩
   intro q
   rw [q, hoc] at e
   have q' : oc = p.2 := Option.some.inj e
   exact d w' (by rw [<- q']; exact hocd)
theorem fB {M : Model} {A : Around} {E : Value -> Shared -> Prop} {i : Nat} {x : Str} {v : V} {u : Value} {Q : Unit -> Shared -> Prop} (I : ae X pins σ H s) (hN : X.N.Nodup) (hi : X.N[i]? = some x) (hx : yx X.env.scope x) (r : aw v u)
  (h : ∀ s', ae X pins (σ.set i (some v)) H s' -> Q () s') (hf : X.fn x = true ∨ X.env.scope.names.lookup x = some .local := by first | exact .inl rfl | exact .inr rfl | assumption) : wpAny M A (storeName X.env x u) Q E s :=
 mV I hN hi hx r (fun s' I' _ => h s' I') hf
end
abbrev XK := Value -> Option Addr -> Hp -> Prop
abbrev St := List (Option V)
abbrev VK := V -> Hp -> Prop
abbrev TE := St -> Hp -> VK -> Prop
abbrev TT := St -> Hp -> (Bool -> Hp -> Prop) -> Prop
abbrev TA := St -> Hp -> (List V -> Hp -> Prop) -> Prop
structure cP where
 nx : St -> Hp -> Prop
 rt : VK
 bk : St -> Hp -> Prop := fun _ _ => False
 ct : St -> Hp -> Prop := fun _ _ => False
abbrev TS := cP -> St -> Hp -> Prop
def EP (X : Cx) (pins : Pn) (σ : St) (Q : VK) (u : Value) (s' : Shared) : Prop := ∃ v H', ae X pins σ H' s' /\ aw v u /\ Q v H'
def TP (X : Cx) (pins : Pn) (σ : St) (Q : Bool -> Hp -> Prop) (b : Bool) (s' : Shared) : Prop := ∃ H', ae X pins σ H' s' /\ Q b H'
def AP (X : Cx) (pins : Pn) (σ : St) (Q : List V -> Hp -> Prop) (us : List Value) (s' : Shared) : Prop := ∃ vs H', ae X pins σ H' s' /\ am vs us /\ Q vs H'
def SP (X : Cx) (pins : Pn) (D : cP) (f : Flow) (s' : Shared) : Prop :=
 match f with
 | .next => ∃ σ' H', ae X pins σ' H' s' /\ D.nx σ' H'
 | .brk => ∃ σ' H', ae X pins σ' H' s' /\ D.bk σ' H'
 | .cont => ∃ σ' H', ae X pins σ' H' s' /\ D.ct σ' H'
 | .ret u => ∃ v σ' H', ae X pins σ' H' s' /\ aw v u /\ D.rt v H'
def PE (X : Cx) (e : Expr) (t : TE) : Prop :=
 ∀ (pins : Pn) (s : Shared) (σ : St) (H : Hp) (Q : VK), ae X pins σ H s -> t σ H Q -> wpAny (model X.prog X.w) X.A (eval e X.env) (EP X pins σ Q) X.xe s
def PT (X : Cx) (e : Expr) (t : TT) : Prop :=
 ∀ (pins : Pn) (s : Shared) (σ : St) (H : Hp) (Q : Bool -> Hp -> Prop), ae X pins σ H s -> t σ H Q -> wpAny (model X.prog X.w) X.A (isTrue e X.env (eval e X.env)) (TP X pins σ Q) X.xe s
def PW (X : Cx) (e : Expr) (t : TT) : Prop :=
 ∀ (whole : Sem Value) (pins : Pn) (s : Shared) (σ : St) (H : Hp) (Q : Bool -> Hp -> Prop), ae X pins σ H s -> t σ H Q -> wpAny (model X.prog X.w) X.A (isTrue e X.env whole) (TP X pins σ Q) X.xe s
theorem PW.pt {X : Cx} {e : Expr} {t : TT} (h : PW X e t) : PT X e t := h _
def PA (X : Cx) (es : List Expr) (t : TA) : Prop :=
 ∀ (pos : Pos) (pins : Pn) (s : Shared) (σ : St) (H : Hp) (Q : List V -> Hp -> Prop), ae X pins σ H s -> t σ H Q -> wpAny (model X.prog X.w) X.A (spliced (backTo pos (starEach es X.env))) (AP X pins σ Q) X.xe s
def PS (X : Cx) (st : Stmt) (t : TS) : Prop :=
 ∀ (pins : Pn) (s : Shared) (σ : St) (H : Hp) (D : cP), ae X pins σ H s -> t D σ H -> wpAny (model X.prog X.w) X.A (exec st X.env) (SP X pins D) X.xe s
def nA (X : Cx) (st : List Stmt) (t : TS) : Prop :=
 ∀ (pins : Pn) (s : Shared) (σ : St) (H : Hp) (D : cP), ae X pins σ H s -> t D σ H -> wpAny (model X.prog X.w) X.A (execs st X.env) (SP X pins D) X.xe s
theorem aV {α : Type} {t : Sem α} {Q Q' : α -> Shared -> Prop} {M : Model} {A : Around} {E : Value -> Shared -> Prop} {s : Shared} (h : wpAny M A t Q E s) (hQ : ∀ a s, Q a s -> Q' a s) : wpAny M A t Q' E s := wpAny_mono h hQ fun _ _ x => x
end L2
namespace L2
open PySem PySem.Spec PyProof.Rows
section
variable {X : Cx}
def ku (i : Nat) : TE := fun σ H Q => ∃ v, σ[i]? = some (some v) /\ Q v H
def tC (v : V) : TE := fun _ H Q => Q v H
theorem tF {i : Nat} {x : Str} {pos : Pos} (hN : X.N[i]? = some x) (hv : wG X.env.scope x) (hd : (x == ("__debug__" : Str)) = false := by decide) (hcd : (x == ("__classdict__" : Str)) = false := by decide) : PE X (.Name x pos) (ku i) := by
 intro pins s σ H Q I h
 obtain ⟨v, e, h⟩ := h
 obtain ⟨m, hn, hl⟩ := I.loc
 obtain ⟨u, r, l⟩ := hl i x v hN e hv
 have fin : EP X pins σ Q u s := ⟨v, H, I, r, h⟩
 rcases l with ⟨hk, hm⟩ | ⟨hk, c, hc, hcell⟩
 ·exact wpAny_Name (wpAny_loadName_local I.ok.kind hk hn hm fin) hd
 ·rcases hk with hk | hk
  ·exact wpAny_Name (wpAny_loadName_cell I.ok.kind hk hc hcell fin) hd
  ·exact wpAny_Name (wpAny_loadName_free I.ok.kind hk hc hcell fin hcd) hd
theorem aI {i j pos} : PE X (.Constant (.int i) j pos) (tC (.int i)) := fun _ _ _ H _ I h => wpAny_Constant_int ⟨.int i, H, I.tok _, ⟨_, rfl⟩, h⟩
theorem lu {b j pos} : PE X (.Constant (.bool b) j pos) (tC (.bl b)) := fun _ _ _ H _ I h => Constant_bool ⟨.bl b, H, I, rfl, h⟩
theorem oz {j pos} : PE X (.Constant .none j pos) (tC .non) := fun _ _ _ H _ I h => Constant_none ⟨.non, H, I, rfl, h⟩
theorem ah {x j pos} : PE X (.Constant (.str x) j pos) (tC (.str x)) := fun _ _ _ H _ I h => Calls.Constant_str ⟨.str x, H, I.tok _, ⟨_, rfl⟩, h⟩
def Gl (X : Cx) (x : Str) : Prop := X.env.kindOf x = some .globalImplicit
theorem lI {E : Value -> Shared -> Prop} {pins : Pn} {s : Shared} {σ : St} {H : Hp} {x : Str} {u : Value} {pos : Pos} {Q : Value -> Shared -> Prop} (I : ae X pins σ H s) (hg : Gl X x) (hm : X.mg x = some u) (h : Q u s)
  (hd : (x == ("__debug__" : Str)) = false := by decide) : wpAny (model X.prog X.w) X.A (eval (.Name x pos) X.env) Q E s :=
 Calls.Name_function_global I.ok.kind hg (Calls.loadGlobal_global (by rw [I.ok.glob]; exact I.mod.glob.keeps I.bk) hm h) hd
theorem eF {E : Value -> Shared -> Prop} {pins : Pn} {s : Shared} {σ : St} {H : Hp} {x : Str} {u : Value} {pos : Pos} {Q : Value -> Shared -> Prop} (I : ae X pins σ H s) (hg : Gl X x) (hm : X.mg x = none) (hv : bootBuiltins x = some u) (h : Q u s)
  (hn : x ≠ "__name__" := by decide) (hd : (x == ("__debug__" : Str)) = false := by decide) : wpAny (model X.prog X.w) X.A (eval (.Name x pos) X.env) Q E s := by
 obtain ⟨mb, h1, h2⟩ := I.mod.blt
 exact Calls.Name_function_global I.ok.kind hg (Calls.loadGlobal_builtin (by rw [I.ok.glob]; exact I.mod.glob.keeps I.bk) hm (by rw [I.ok.blt]; exact h1.keeps I.bk) ((h2 x hn).trans hv) h) hd
theorem re {x : Str} {v : V} {u : Value} {pos : Pos} (hg : Gl X x) (hm : X.mg x = some u) (r : aw v u) (hd : (x == ("__debug__" : Str)) = false := by decide) : PE X (.Name x pos) (tC v) :=
 fun _ _ _ H _ I h => lI I hg hm ⟨v, H, I, r, h⟩ hd
theorem qO {x : Str} {v : V} {u : Value} {pos : Pos} (hg : Gl X x) (hm : X.mg x = none) (hv : bootBuiltins x = some u) (r : aw v u) (hn : x ≠ "__name__" := by decide) (hd : (x == ("__debug__" : Str)) = false := by decide) : PE X (.Name x pos) (tC v) :=
 fun _ _ _ H _ I h => eF I hg hm hv ⟨v, H, I, r, h⟩ hn hd
variable {a b : Expr} {ta tb : TE} {pos : Pos}
def tB (t : TE) : TT := fun σ H Q => t σ H fun x H1 => ∃ c, x = .bl c /\ Q c H1
theorem fR {e : Expr} {t : TE} (h : PE X e t) (he : ∀ whole, isTrue e X.env whole = (do let v <- whole; standAt e.pos; holding [v] (truthy v)) := by intro _; rfl) : PT X e (tB t) := by
 intro pins s σ H Q I hw
 refine isTrue_plain (aV (h pins s σ H _ I hw) fun v s1 ⟨x, H1, I1, r1, q1⟩ => ?_) (he _)
 obtain ⟨d, rfl, q⟩ := q1
 cases r1
 exact wpAny_truthy_bool ⟨H1, I1, q⟩
variable {tA tB' : TT} {db : List Expr}
def ua (t u : TT) : TT := fun σ H Q => t σ H fun c H1 => if c = true then u σ H1 Q else Q false H1
def zm (t u : TT) : TT := fun σ H Q => t σ H fun c H1 => if c = true then Q true H1 else u σ H1 Q
def vv (t : TT) : TT := fun σ H Q => t σ H fun c H1 => Q (!c) H1
theorem gU (ha : PT X a tA) : PW X (.BoolOp .And [a] pos) tA := by
 intro wh pins s σ H Q I h
 refine isTrue_and (aV (ha pins s σ H Q I h) fun c s1 e => ?_)
 cases c with
 | true => exact isTrue_and_nil e
 | false => exact e
theorem wv (ha : PT X a tA) : PW X (.BoolOp .Or [a] pos) tA := by
 intro wh pins s σ H Q I h
 refine isTrue_or (aV (ha pins s σ H Q I h) fun c s1 e => ?_)
 cases c with
 | false => exact isTrue_or_nil e
 | true => exact e
theorem gY (ha : PT X a tA) (hb : PW X (.BoolOp .And (b :: db) pos) tB') : PW X (.BoolOp .And (a :: b :: db) pos) (ua tA tB') := by
 intro wh pins s σ H Q I h
 refine isTrue_and (aV (ha pins s σ H _ I h) fun c s1 ⟨H1, I1, q1⟩ => ?_)
 cases c with
 | true => exact hb wh pins s1 σ H1 Q I1 q1
 | false => exact ⟨H1, I1, q1⟩
theorem tu (ha : PT X a tA) (hb : PW X (.BoolOp .Or (b :: db) pos) tB') : PW X (.BoolOp .Or (a :: b :: db) pos) (zm tA tB') := by
 intro wh pins s σ H Q I h
 refine isTrue_or (aV (ha pins s σ H _ I h) fun c s1 ⟨H1, I1, q1⟩ => ?_)
 cases c with
 | true => exact ⟨H1, I1, q1⟩
 | false => exact hb wh pins s1 σ H1 Q I1 q1
theorem oi (ha : PT X a tA) : PT X (.UnaryOp .Not a pos) (vv tA) := by
 intro pins s σ H Q I h
 exact isTrue_not (ha pins s σ H (fun c H1 => Q (!c) H1) I h)
def oZ (ta tb : TE) : TE := fun σ H Q => ta σ H fun x H1 => ∃ c, x = .bl c /\ if c = true then tb σ H1 Q else Q (.bl false) H1
def ym (ta tb : TE) : TE := fun σ H Q => ta σ H fun x H1 => ∃ c, x = .bl c /\ if c = true then Q (.bl true) H1 else tb σ H1 Q
def sZ (ta : TE) : TE := fun σ H Q => ta σ H fun x H1 => ∃ c, x = .bl c /\ Q (.bl (!c)) H1
theorem tQ {op} {t : TE} (h : PE X a t) : PE X (.BoolOp op [a] pos) t := fun pins s σ H Q I hw => BoolOp_one (h pins s σ H Q I hw)
theorem uq (ha : PE X a ta) (hb : PE X (.BoolOp .And (b :: db) pos) tb) : PE X (.BoolOp .And (a :: b :: db) pos) (oZ ta tb) := by
 intro pins s σ H Q I h
 refine BoolOp_and (aV (ha pins s σ H _ I h) fun v s1 ⟨x, H1, I1, r1, q1⟩ => ?_)
 obtain ⟨c, rfl, q1⟩ := q1
 cases r1
 refine wpAny_truthy_bool ?_
 cases c with
 | true => exact hb pins s1 σ H1 Q I1 q1
 | false => exact ⟨.bl false, H1, I1, rfl, q1⟩
def At (t : TT) (ta tb : TE) : TE := fun σ H Q => t σ H fun c H1 => if c = true then ta σ H1 Q else tb σ H1 Q
theorem qb {c : Expr} (hc : PT X c tA) (ha : PE X a ta) (hb : PE X b tb) : PE X (.IfExp c a b pos) (At tA ta tb) := by
 intro pins s σ H Q I h
 refine wpAny_IfExp (aV (hc pins s σ H _ I h) fun d s1 ⟨H1, I1, q1⟩ => ?_)
 cases d with
 | true => exact ha pins s1 σ H1 Q I1 q1
 | false => exact hb pins s1 σ H1 Q I1 q1
end
end L2
namespace L2
open PySem PySem.Spec PyProof.Rows
def ak (K : Fg) (H : Hp) (a : Addr) (xs : List V) : Prop :=
 Rd H a (.lst xs) ∨
  ∃ (o : Obj) (its : Array Value) (n : Nat), K.lookup a = some o /\ o.cls = .type "list" /\ o.dict = none /\ o.data = .seq its n /\ its.size <= sizeLine /\ am xs its.toList
def aH (K : Fg) (H : Hp) (a : Addr) (xs : List V) : Prop :=
 Rd H a (.tup xs) ∨
  ∃ (o : Obj) (its : Array Value) (n : Nat), K.lookup a = some o /\ o.cls = .type "tuple" /\ o.data = .seq its n /\ its.size <= sizeLine /\ am xs its.toList
def zw : Value -> Option V
 | .none => some .non
 | .bool b => some (.bl b)
 | .int i _ => some (.int i)
 | .str x _ => some (.str x)
 | .bytes b _ => some (.byt b)
 | .float b _ => some (.flt b)
 | .ref a => some (.ref a)
 | .type n => some (.ty n)
 | _ => none
theorem aw.abs {x : V} {u : Value} (r : aw x u) : zw u = some x := by
 cases x with
 | non => cases r; rfl
 | bl _ => cases r; rfl
 | int _ => obtain ⟨t, rfl⟩ := r; rfl
 | str _ => obtain ⟨t, rfl⟩ := r; rfl
 | byt _ => obtain ⟨t, rfl⟩ := r; rfl
 | flt _ => obtain ⟨t, rfl⟩ := r; rfl
 | ref _ => cases r; rfl
 | ty _ => cases r; rfl
theorem aw.inj {x y : V} {u : Value} (r : aw x u) (q : aw y u) : x = y := Option.some.inj (r.abs.symm.trans q.abs)
theorem am.inj : ∀ {xs ys : List V} {us : List Value}, am xs us -> am ys us -> xs = ys
 | _, _, _, .nil, .nil => rfl
 | _, _, _, .cons r t, .cons r' t' => by rw [r.inj r', am.inj t t']
section
variable {X : Cx} {pins : Pn} {σ : St} {H : Hp} {s : Shared} {a : Addr} {xs ys : List V}
theorem ak.of {K : Fg} (h : H a = some (.lst xs)) : ak K H a xs := .inl (.inl h)
theorem aH.of {K : Fg} (h : H a = some (.tup xs)) : aH K H a xs := .inl (.inl h)
theorem ae.list (I : ae X pins σ H s) (h : ak X.K H a xs) : ∃ its : List Value, am xs its /\ PlainL s.heap a its.toArray /\ xs.length <= sizeLine := by
 rcases h with h | ⟨o, its, n, hk, hc, hd, hs, hz, r⟩
 ·obtain ⟨z, its, n, r, e⟩ := h.ok I.hok
  exact ⟨its, r, ⟨_, n, e, rfl, rfl, rfl⟩, z⟩
 ·refine ⟨its.toList, r, ⟨o, n, I.kIn a o hk, hc, hd, by simpa using hs⟩, ?_⟩
  have e := r.length
  simp only [Array.length_toList] at e
  omega
theorem ae.tuple (I : ae X pins σ H s) (h : aH X.K H a xs) : ∃ its : List Value, am xs its /\ IsTup s.heap a its.toArray /\ xs.length <= sizeLine := by
 rcases h with h | ⟨o, its, n, hk, hc, hs, hz, r⟩
 ·obtain ⟨z, its, r, p⟩ := h.ok I.hok
  exact ⟨its, r, p, z⟩
 ·refine ⟨its.toList, r, ⟨o, I.kIn a o hk, hc, n, by simpa using hs⟩, ?_⟩
  have e := r.length
  simp only [Array.length_toList] at e
  omega
theorem ae.list_inj (I : ae X pins σ H s) (h : ak X.K H a xs) (h' : ak X.K H a ys) : xs = ys := by
 obtain ⟨its, r, ⟨o, n, e, _, _, d⟩, _⟩ := I.list h
 obtain ⟨its', r', ⟨o', n', e', _, _, d'⟩, _⟩ := I.list h'
 rw [e] at e'; cases e'
 rw [d] at d'
 injection d' with d1 _
 have : its = its' := by simpa using congrArg Array.toList d1
 subst this
 exact r.inj r'
theorem ae.tuple_inj (I : ae X pins σ H s) (h : aH X.K H a xs) (h' : aH X.K H a ys) : xs = ys := by
 obtain ⟨its, r, ⟨o, e, _, n, d⟩, _⟩ := I.tuple h
 obtain ⟨its', r', ⟨o', e', _, n', d'⟩, _⟩ := I.tuple h'
 rw [e] at e'; cases e'
 rw [d] at d'
 injection d' with d1 _
 have : its = its' := by simpa using congrArg Array.toList d1
 subst this
 exact r.inj r'
end
abbrev Cx.wish (X : Cx) (E : Value -> Shared -> Prop) : Cx := { X with xe := E }
abbrev Cx.nox (X : Cx) : Cx := X.wish fun _ _ => False
theorem Cx.Ok.wish {X : Cx} (ok : X.Ok) (E : Value -> Shared -> Prop) : (X.wish E).Ok :=
 ⟨ok.mod, ok.kind, ok.glob, ok.blt, ok.above, ok.inj, ok.has, ok.cab, ok.hd, ok.frames, ok.stk, ok.exf, ok.bs, ok.bsz, ok.noex, ok.exfs, ok.funs, ok.frf⟩
theorem Cx.Ok.unwish {X : Cx} {E : Value -> Shared -> Prop} (ok : (X.wish E).Ok) : X.Ok :=
 ⟨ok.mod, ok.kind, ok.glob, ok.blt, ok.above, ok.inj, ok.has, ok.cab, ok.hd, ok.frames, ok.stk, ok.exf, ok.bs, ok.bsz, ok.noex, ok.exfs, ok.funs, ok.frf⟩
section
variable {X : Cx} {pins : Pn} {σ : St} {H : Hp} {s : Shared} {E : Value -> Shared -> Prop}
theorem ae.wish (I : ae X pins σ H s) (E : Value -> Shared -> Prop) : ae (X.wish E) pins σ H s := ⟨I.ok.wish E, I.os, I.bare, I.base, I.loc, I.cell, I.free, I.freeC, I.pin, I.hok, I.len⟩
theorem ae.unwish (I : ae (X.wish E) pins σ H s) : ae X pins σ H s := ⟨I.ok.unwish, I.os, I.bare, I.base, I.loc, I.cell, I.free, I.freeC, I.pin, I.hok, I.len⟩
theorem SP.unwish {D : cP} {f : Flow} {s' : Shared} (h : SP (X.wish E) pins D f s') : SP X pins D f s' := by
 cases f with
 | next => obtain ⟨σ', H', I, q⟩ := h; exact ⟨σ', H', I.unwish, q⟩
 | brk => obtain ⟨σ', H', I, q⟩ := h; exact ⟨σ', H', I.unwish, q⟩
 | cont => obtain ⟨σ', H', I, q⟩ := h; exact ⟨σ', H', I.unwish, q⟩
 | ret u => obtain ⟨v, σ', H', I, r, q⟩ := h; exact ⟨v, σ', H', I.unwish, r, q⟩
theorem PE.nox {e : Expr} {t : TE} (h : PE X.nox e t) : PE X e t := fun pins s σ H Q I hw =>
 wpAny_mono (h pins s σ H Q (I.wish _) hw) (fun _ _ ⟨v, H', I', r, q⟩ => ⟨v, H', I'.unwish, r, q⟩) fun _ _ z => False.elim z
theorem PT.nox {e : Expr} {t : TT} (h : PT X.nox e t) : PT X e t := fun pins s σ H Q I hw =>
 wpAny_mono (h pins s σ H Q (I.wish _) hw) (fun _ _ ⟨H', I', q⟩ => ⟨H', I'.unwish, q⟩) fun _ _ z => False.elim z
theorem nA.nox {st : List Stmt} {t : TS} (h : nA X.nox st t) : nA X st t := fun pins s σ H D I hw =>
 wpAny_mono (h pins s σ H D (I.wish _) hw) (fun _ _ q => q.unwish) fun _ _ z => False.elim z
end
section
variable {X : Cx} {st : Stmt} {db : List Stmt} {t u : TS} {e : Expr} {te : TE} {pos : Pos}
def tNext : TS := fun D σ H => D.nx σ H
def qt (t u : TS) : TS := fun D σ H => t { D with nx := u D } σ H
theorem aP : nA X [] tNext := fun _ _ σ H _ I h => wpAny_execs_nil ⟨σ, H, I, h⟩
theorem bJ (h1 : PS X st t) (h2 : nA X db u) : nA X (st :: db) (qt t u) := by
 intro pins s σ H D I h
 refine wpAny_execs_cons (aV (h1 pins s σ H { D with nx := u D } I h) fun f s1 q => ?_)
 cases f with
 | next =>
  obtain ⟨σ', H', I', q⟩ := q
  exact h2 pins s1 σ' H' D I' q
 | ret v => exact q
 | brk => exact q
 | cont => exact q
theorem cH (h1 : PS X st t) : nA X [st] t := by
 intro pins s σ H D I h
 refine wpAny_execs_cons (aV (h1 pins s σ H D I h) fun f s1 q => ?_)
 cases f with
 | next => exact wpAny_execs_nil q
 | ret v => exact q
 | brk => exact q
 | cont => exact q
theorem ae.quiet {pins : Pn} {σ : St} {H : Hp} {s : Shared} (I : ae X pins σ H s) : interactive X.env = false := by simp [interactive, I.ok.kind]
def oX (te : TE) : TS := fun D σ H => te σ H fun _ H1 => D.nx σ H1
theorem bX (he : PE X e te) (hs : swapsWith e none pos.line X.env = pure false := by rfl) : PS X (.Expr e pos) (oX te) := by
 intro pins s σ H D I h
 exact wpAny_Expr_any (aV (he pins s σ H _ I h) fun v s1 ⟨x, H1, I1, r1, q1⟩ => ⟨σ, H1, I1, q1⟩) I.quiet hs
def uT (te : TE) : TS := fun D σ H => te σ H D.rt
theorem aE (he : PE X e te) : PS X (.Return (some e) pos) (uT te) := by
 intro pins s σ H D I h
 exact wpAny_Return_some (aV (he pins s σ H _ I h) fun v s1 ⟨x, H1, I1, r1, q1⟩ => ⟨x, σ, H1, I1, r1, q1⟩)
def rc (c : TT) (t u : TS) : TS := fun D σ H => c σ H fun b H1 => if b = true then t D σ H1 else u D σ H1
theorem bO {c : Expr} {a b : List Stmt} {tc : TT} (hc : PT X c tc) (ha : nA X a t) (hb : nA X b u) : PS X (.If c a b pos) (rc tc t u) := by
 intro pins s σ H D I h
 refine wpAny_If (aV (hc pins s σ H _ I h) fun d s1 ⟨H1, I1, q1⟩ => ?_)
 cases d with
 | true => exact ha pins s1 σ H1 D I1 q1
 | false => exact hb pins s1 σ H1 D I1 q1
end
abbrev TG := V -> St -> Hp -> (St -> Hp -> Prop) -> Prop
abbrev TGs := List V -> St -> Hp -> (St -> Hp -> Prop) -> Prop
def PG (X : Cx) (target : Expr) (t : TG) : Prop :=
 ∀ (pins : Pn) (s : Shared) (σ : St) (H : Hp) (v : V) (u : Value) (Q : St -> Hp -> Prop), ae X pins σ H s -> aw v u -> t v σ H Q ->
  wpAny (model X.prog X.w) X.A (assign target X.env u) (fun _ s' => ∃ σ' H', ae X pins σ' H' s' /\ Q σ' H') X.xe s
def xg (X : Cx) (ts : List Expr) (t : TGs) : Prop :=
 ∀ (pins : Pn) (s : Shared) (σ : St) (H : Hp) (vs : List V) (us : List Value) (Q : St -> Hp -> Prop), ae X pins σ H s -> am vs us -> t vs σ H Q ->
  wpAny (model X.prog X.w) X.A (assignInOrder ((assignEach ts X.env).map (·.2)) us) (fun _ s' => ∃ σ' H', ae X pins σ' H' s' /\ Q σ' H') X.xe s
abbrev TSet := V -> V -> V -> Hp -> (Hp -> Prop) -> Prop
def yL (X : Cx) (t : TSet) : Prop :=
 ∀ (pins : Pn) (s : Shared) (σ : St) (H : Hp) (o i v : V) (ov iv u : Value) (Q : Hp -> Prop), ae X pins σ H s -> aw o ov -> aw i iv -> aw v u -> t o i v H Q ->
  wpAny (model X.prog X.w) X.A (setItem ov iv u) (fun _ s' => ∃ H', ae X pins σ H' s' /\ Q H') X.xe s
abbrev TIp := V -> V -> Hp -> VK -> Prop
def PIp (X : Cx) (op : Operator) (t : TIp) : Prop :=
 ∀ (pins : Pn) (s : Shared) (σ : St) (H : Hp) (x y : V) (v u : Value) (Q : VK), ae X pins σ H s -> aw x v -> aw y u -> t x y H Q ->
  wpAny (model X.prog X.w) X.A (inplaceOp op v u) (EP X pins σ Q) X.xe s
section
variable {X : Cx} {pos : Pos}
def dm (i : Nat) : TG := fun v σ H Q => Q (σ.set i (some v)) H
theorem aL {i : Nat} {x : Str} (hN : X.N.Nodup) (hi : X.N[i]? = some x) (hx : yx X.env.scope x) (hf : X.fn x = true ∨ X.env.scope.names.lookup x = some .local := by first | exact .inl rfl | exact .inr rfl | assumption) : PG X (.Name x pos) (dm i) := by
 intro pins s σ H v u Q I r h
 exact wpAny_assign_Name (fB I hN hi hx r (fun s' I' => ⟨_, H, I', h⟩) hf)
def gNil : TGs := fun vs σ H Q => vs = [] /\ Q σ H
def pF (t : TG) (u : TGs) : TGs := fun vs σ H Q => ∃ v r, vs = v :: r /\ t v σ H fun σ' H' => u r σ' H' Q
theorem kX : xg X [] gNil := by
 intro pins s σ H vs us Q I r h
 obtain ⟨e, h⟩ := h
 subst e
 cases r
 exact assignInOrder_nil ⟨σ, H, I, h⟩
theorem ci {e : Expr} {es : List Expr} {t : TG} {u : TGs} (h1 : PG X e t) (h2 : xg X es u)
  (hs : (assignEach (e :: es) X.env).map (·.2) = assign e X.env :: (assignEach es X.env).map (·.2) := by rfl) : xg X (e :: es) (pF t u) := by
 intro pins s σ H vs us Q I r h
 obtain ⟨v, vr, e1, h⟩ := h
 subst e1
 cases r with
 | cons r rr =>
  rw [hs]
  refine assignInOrder_cons (aV (h1 pins s σ H _ _ _ I r h) fun _ s1 ⟨σ1, H1, I1, q1⟩ => ?_)
  exact h2 pins s1 σ1 H1 _ _ Q I1 rr q1
def vL (K : Fg) (n : Nat) (t : TGs) : TG := fun v σ H Q => ∃ a xs, v = .ref a /\ aH K H a xs /\ xs.length = n /\ t xs σ H Q
theorem vf {es : List Expr} {k : Nat} {t : TGs} {n : Nat} (hc : X.calm = true) (h : xg X es t)
  (hn : (assignEach es X.env).length = n := by rfl) (hst : (assignEach es X.env).findIdx? (·.1) = none := by rfl) : PG X (.Tuple es k pos) (vL X.K n t) := by
 intro pins s σ H v u Q I r hw
 obtain ⟨a, xs, e1, hq, hl, hw⟩ := hw
 subst e1
 cases r
 obtain ⟨its, rv, ht, hz⟩ := I.tuple hq
 refine assign_Tuple_tuple (I.ok.hd hc) ht (by simp [hn, <- hl, rv.length]) hst fun h' hx => ?_
 have I1 : ae X pins σ H { s with heap := h' } := I.kept (t' := s.toks) fun b o e => hx b o (Nat.ne_of_lt (Heap.lt_size e)) e
 exact h pins _ σ H xs _ Q I1 (by simpa using rv) hw
def yT (to ti : TE) (t : TSet) : TG := fun v σ H Q => to σ H fun o H1 => ti σ H1 fun i H2 => t o i v H2 fun H3 => Q σ H3
theorem oA {o i : Expr} {to ti : TE} {t : TSet} (ho : PE X o to) (hi : PE X i ti) (hs : yL X t)
  (ha : ∀ v, assign (.Subscript o i pos) X.env v = (do
   let ov <- holding [v] (eval o X.env)
   let iv <- holding [v, ov] (eval i X.env)
   standAt pos
   holding [v, ov, iv] (setItem ov iv v)
   release [v, ov, iv] []) := by intro _; rfl) : PG X (.Subscript o i pos) (yT to ti t) := by
 intro pins s σ H v u Q I r h
 rw [ha]
 refine wpAny_bind (wpAny_holding (aV (ho pins s σ H _ I h) fun ov s1 ⟨x, H1, I1, r1, q1⟩ => ?_))
 refine wpAny_bind (wpAny_holding (aV (hi pins s1 σ H1 _ I1 q1) fun iv s2 ⟨y, H2, I2, r2, q2⟩ => ?_))
 refine wpAny_bind (wpAny_standAt (wpAny_bind (wpAny_holding (aV (hs pins s2 σ H2 x y v ov iv u _ I2 r1 r2 r q2) fun _ s3 ⟨H3, I3, q3⟩ => ?_))))
 exact wpAny_release ⟨σ, H3, I3, q3⟩
def ou (te : TE) (g : TG) : TS := fun D σ H => te σ H fun x H1 => g x σ H1 D.nx
theorem kI {tg e : Expr} {te : TE} {g : TG} (he : PE X e te) (hg : PG X tg g) (hs : swapsWithSole [tg] e pos.line X.env = pure false := by rfl) (hw : swappedStores [tg] e X.env = pure none := by rfl)
  (h1 : (assignEach [tg] X.env).map (·.2) = [assign tg X.env] := by rfl) : PS X (.Assign [tg] e pos) (ou te g) := by
 intro pins s σ H D I h
 refine wpAny_Assign_stores (aV (he pins s σ H _ I h) fun v s1 ⟨x, H1, I1, r1, q1⟩ => ?_) hs hw
 rw [h1]
 exact aV (hg pins s1 σ H1 x v _ I1 r1 q1) fun _ s2 q => q
theorem ao {i : Nat} {x : Str} {e : Expr} {te : TE} {pos' : Pos} (hN : X.N.Nodup) (hi : X.N[i]? = some x) (hx : yx X.env.scope x) (he : PE X e te) (hs : swapsWith e (some (.Name x pos')) pos.line X.env = pure false := by rfl) (hf : X.fn x = true ∨ X.env.scope.names.lookup x = some .local := by first | exact .inl rfl | exact .inr rfl | assumption) :
  PS X (.Assign [.Name x pos'] e pos) (ou te (dm i)) := by
 intro pins s σ H D I h
 refine wpAny_Assign_Name (aV (he pins s σ H _ I h) fun v s1 ⟨y, H1, I1, r1, q1⟩ => ?_) hs
 exact fB I1 hN hi hx r1 (fun s2 I2 => ⟨_, H1, I2, q1⟩) hf
def xO (i j : Nat) (ta : TA) : TS := fun D σ H => ta σ H fun vs H1 => ∃ v w, vs = [v, w] /\ D.nx ((σ.set i (some v)).set j (some w)) H1
def yK (i : Nat) (te : TE) (ti : TIp) : TS := fun D σ H => ∃ x, σ[i]? = some (some x) /\ te σ H fun y H1 => ti x y H1 fun z H2 => D.nx (σ.set i (some z)) H2
theorem va {i : Nat} {x : Str} {e : Expr} {te : TE} {op : Operator} {ti : TIp} {pos' : Pos} (hN : X.N.Nodup) (hi : X.N[i]? = some x) (hx : yx X.env.scope x) (he : PE X e te) (ho : PIp X op ti) (hf : X.fn x = true ∨ X.env.scope.names.lookup x = some .local := by first | exact .inl rfl | exact .inr rfl | assumption) :
  PS X (.AugAssign (.Name x pos') op e pos) (yK i te ti) := by
 intro pins s σ H D I h
 obtain ⟨v, e1, h⟩ := h
 obtain ⟨m, hn, hl⟩ := I.loc
 have vis : wG X.env.scope x := by rcases hx with k | k; exact .inl k; exact .inr (.inl k)
 obtain ⟨u, r, l⟩ := hl i x v hi e1 vis
 refine wpAny_AugAssign_Name ?_
 have go : wpAny (model X.prog X.w) X.A (eval e X.env) (fun w s₂ => wpAny (model X.prog X.w) X.A (inplaceOp op u w) (fun r s₃ => wpAny (model X.prog X.w) X.A (storeName X.env x r) (fun _ => SP X pins D .next) X.xe s₃) X.xe s₂) X.xe s := by
  refine aV (he pins s σ H _ I h) fun w s1 ⟨y, H1, I1, r1, q1⟩ => ?_
  refine aV (ho pins s1 σ H1 v y u w _ I1 r r1 q1) fun z s2 ⟨zv, H2, I2, r2, q2⟩ => ?_
  exact fB I2 hN hi hx r2 (fun s3 I3 => ⟨_, H2, I3, q2⟩) hf
 rcases l with ⟨hk, hm⟩ | ⟨hk, c, hc, hcell⟩
 ·exact wpAny_loadName_local I.ok.kind hk hn hm go
 ·rcases hk with hk | hk
  ·exact wpAny_loadName_cell I.ok.kind hk hc hcell go
  ·rcases hx with k | k
   ·have : X.env.scope.names.lookup x = some .free := hk
    rw [k] at this; cases this
   ·have : X.env.scope.names.lookup x = some .free := hk
    rw [k] at this; cases this
def ipI (f : Int -> Int -> Int) : TIp := fun x y H Q => ∃ i j, x = .int i /\ y = .int j /\ Q (.int (f i j)) H
theorem vd : PIp X .Add (ipI fun i j => i + j) := by
 intro pins s σ H x y v u Q I r1 r2 h
 obtain ⟨i, j, e1, e2, q⟩ := h
 subst e1; subst e2
 obtain ⟨t, rfl⟩ := r1
 obtain ⟨t', rfl⟩ := r2
 exact iadd_int ⟨.int _, H, I.tok _, ⟨_, rfl⟩, q⟩
end
section
variable {X : Cx} {pos : Pos}
end
structure It where
 go : Nat -> Hp -> Prop
 yld : Nat -> Hp -> V -> Hp -> Prop
 stop : Nat -> Hp -> Prop
def dL (X : Cx) (pins : Pn) (H : Hp) (b : Addr) : Prop :=
 H b = none /\ b ≠ X.env.locals /\ b ∉ X.fs /\ (b ∈ X.ex ∨ X.s₀.heap.objs.size <= b) /\ (∀ x c, X.env.cells.lookup x = some c -> c ≠ b) /\ ∀ p ∈ X.pn ++ pins, p.1 ≠ b
theorem ae.fpOk {X : Cx} {pins : Pn} {σ : St} {H H' : Hp} {s : Shared} {b : Addr} (I : ae X pins σ H s) (hb : s.heap.objs.size <= b) (hn : H' b = none) : dL X pins H' b := by
 refine ⟨hn, Nat.ne_of_gt (Nat.lt_of_lt_of_le I.lt hb), I.nofs hb, .inr (Nat.le_trans I.sz hb), fun x c e z => ?_, fun p hp z => ?_⟩
 ·obtain ⟨v, q⟩ := I.cell x c e
  exact absurd (Nat.lt_of_lt_of_le q.lt (by rw [z]; exact hb)) (Nat.lt_irrefl _)
 ·exact absurd (Nat.lt_of_lt_of_le (Heap.lt_size (I.pin p hp).1) (by rw [z]; exact hb)) (Nat.lt_irrefl _)
structure mf (P : Program) (w : World) (K : Fg) (tg : Expr) (J : It) (fp : List Addr) (it : Addr) (tn : Nat -> Heap -> Prop) : Prop where
 mem : it ∈ fp
 obj : ∀ i h, tn i h -> ∀ b ∈ fp, ∃ o, h.get? b = some o /\ ∀ v, o.data ≠ .cell v
 keep : ∀ i h h', tn i h -> (∀ b ∈ fp, ∀ o, h.get? b = some o -> h'.get? b = some o) -> tn i h'
 item : ∀ (X : Cx), X.prog = P -> X.w = w -> X.K = K -> X.calm = true -> ∀ (i : Nat) (pins : Pn) (s : Shared) (σ : St) (H : Hp) (E : Value -> Shared -> Prop), ae X pins σ H s -> (∀ b ∈ fp, dL X pins H b) -> tn i s.heap -> J.go i H ->
  wpAny (model P w) X.A (pyNext (.ref it)) (fun r s1 => ∃ u, r = some u /\
   wpAny (model P w) X.A (letOwnedTupleGo tg (.ref it) u) (fun _ s2 => ∃ x H', ae X pins σ H' s2 /\ aw x u /\ J.yld i H x H' /\ tn (i + 1) s2.heap /\ ∀ b ∈ fp, H' b = none) E s1) E s
 done : ∀ (X : Cx), X.prog = P -> X.w = w -> X.K = K -> X.calm = true -> ∀ (i : Nat) (pins : Pn) (s : Shared) (σ : St) (H : Hp) (E : Value -> Shared -> Prop), ae X pins σ H s -> (∀ b ∈ fp, dL X pins H b) -> tn i s.heap -> J.stop i H ->
  wpAny (model P w) X.A (pyNext (.ref it)) (fun r s1 => r = none /\ ae X pins σ H s1) E s
 self : ∀ (A : Around) (i : Nat) (s : Shared) (Q : Value -> Shared -> Prop) (E : Value -> Shared -> Prop), tn i s.heap -> Q (.ref it) s -> wpAny (model P w) A (pyIter (.ref it)) Q E s
abbrev TI := St -> Hp -> (It -> Hp -> Prop) -> Prop
def PIE (X : Cx) (pins : Pn) (σ : St) (tg : Expr) (R : It -> Hp -> Prop) (itv : Value) (s2 : Shared) : Prop :=
 ∃ (it : Addr) (fp : List Addr) (tn : Nat -> Heap -> Prop) (J : It) (H' : Hp), itv = .ref it /\ ae X pins σ H' s2 /\ mf X.prog X.w X.K tg J fp it tn /\ tn 0 s2.heap /\ (∀ b ∈ fp, dL X pins H' b) /\ R J H'
def PI (X : Cx) (tg iter : Expr) (wi : TI) : Prop :=
 ∀ (pins : Pn) (s : Shared) (σ : St) (H : Hp) (R : It -> Hp -> Prop), ae X pins σ H s -> wi σ H R ->
  wpAny (model X.prog X.w) X.A (eval iter X.env) (fun v s1 => wpAny (model X.prog X.w) X.A (pyIter v) (PIE X pins σ tg R) X.xe s1) X.xe s
theorem lh {M : Model} {A : Around} {E : Value -> Shared -> Prop} {s : Shared} {tg : Expr} {it : Addr} {u : Value} {o : Obj} {n : String} {vs : Array Value} {Q : Unit -> Shared -> Prop} (ho : s.heap.get? it = some o) (hc : o.cls = .type n) (hd : o.data = .fields vs)
    (hn : ["enumerate", "zip", "dict_itemiterator", "dict_reverseitemiterator", "odict_iterator", "itertools.zip_longest", "itertools.pairwise"].contains n = false) (hQ : Q () s) : wpAny M A (letOwnedTupleGo tg (.ref it) u) Q E s := by
  unfold letOwnedTupleGo
  cases tg <;> first
    | exact wpAny_pure hQ
    | (cases u <;> first
        | exact wpAny_pure hQ
        | (refine wpAny_bind (wpAny_load ho ?_)
           rw [hc, hd]
           show wpAny M A (if (["enumerate", "zip", "dict_itemiterator", "dict_reverseitemiterator", "odict_iterator", "itertools.zip_longest", "itertools.pairwise"].contains n && vs[0]? == some (rawInt _)) = true then _ else _) Q E s
           rw [if_neg (by intro h; rw [hn, Bool.false_and] at h; cases h)]
           exact wpAny_pure hQ))
def vQ (K : Fg) (a : Addr) : It :=
 ⟨fun i H => ∃ xs x, ak K H a xs /\ xs[i]? = some x, fun i H x H' => H' = H /\ ∀ xs, ak K H a xs -> xs[i]? = some x, fun i H => ∃ xs, ak K H a xs /\ xs.length <= i⟩
def zt (K : Fg) (a : Addr) : It :=
 ⟨fun i H => ∃ xs x, aH K H a xs /\ xs[i]? = some x, fun i H x H' => H' = H /\ ∀ xs, aH K H a xs -> xs[i]? = some x, fun i H => ∃ xs, aH K H a xs /\ xs.length <= i⟩
def ni (lo : Int) (n : Nat) : It := ⟨fun i _ => i < n, fun i H x H' => H' = H /\ x = .int (lo + i), fun i _ => n <= i⟩
theorem lV {P : Program} {w : World} {K : Fg} {tg : Expr} (a it : Addr) : mf P w K tg (vQ K a) [it] it (fun i h => h.IsListIter it a i) where
 mem := by simp
 obj := fun i h st b hb => by
  have e : b = it := by simpa using hb
  subst e
  obtain ⟨o, e, c, d⟩ := st
  exact ⟨o, e, fun v z => by rw [d] at z; cases z⟩
 keep := fun i h h' st k => st.at fun o e => k it (by simp) o e
 item := by
  intro X hP hw hK hc i pins s σ H E I hf st hg
  subst hP hw hK
  obtain ⟨xs, x, hq, hx⟩ := hg
  obtain ⟨its, rv, p, hz⟩ := I.list hq
  obtain ⟨u, hu, ru⟩ := rv.get hx
  obtain ⟨f0, f1, f2, f3, f4, f5⟩ := hf it (by simp)
  refine wpAny_pyNext_list_item st p.isList (x := u) (by simpa using hu) fun h' st' sb => ?_
  have I1 : ae X pins σ H { s with heap := h' } := I.turned (t' := s.toks) (fun b o hb e => (sb.2 b hb).trans e) f0 f1 f3 f4 f5
  obtain ⟨o, e, c, d⟩ := id st'
  exact ⟨u, rfl, lh (s := { s with heap := h' }) e c d (by decide) ⟨x, H, I1, ru, ⟨rfl, fun ys hy => by rw [I.list_inj hy hq]; exact hx⟩, st', fun b hb => (hf b hb).1⟩⟩
 done := by
  intro X hP hw hK hc i pins s σ H E I hf st hg
  subst hP hw hK
  obtain ⟨xs, hq, hx⟩ := hg
  obtain ⟨its, rv, p, hz⟩ := I.list hq
  obtain ⟨f0, f1, f2, f3, f4, f5⟩ := hf it (by simp)
  have hl := rv.length
  exact wpAny_pyNext_list_end (I.ok.hd hc) st p.isList (by simp; omega) fun h' eb => ⟨rfl, I.turned (t' := s.toks) (fun b o hb e => eb b o hb e) f0 f1 f3 f4 f5⟩
 self := fun _ _ _ _ _ st h => wpAny_pyIter_listiter st h
theorem jT {P : Program} {w : World} {K : Fg} {tg : Expr} (a it : Addr) : mf P w K tg (zt K a) [it] it (fun i h => h.IsTupleIter it a i) where
 mem := by simp
 obj := fun i h st b hb => by
  have e : b = it := by simpa using hb
  subst e
  obtain ⟨o, e, c, d⟩ := st
  exact ⟨o, e, fun v z => by rw [d] at z; cases z⟩
 keep := fun i h h' st k => st.at fun o e => k it (by simp) o e
 item := by
  intro X hP hw hK hc i pins s σ H E I hf st hg
  subst hP hw hK
  obtain ⟨xs, x, hq, hx⟩ := hg
  obtain ⟨its, rv, p, hz⟩ := I.tuple hq
  obtain ⟨u, hu, ru⟩ := rv.get hx
  obtain ⟨f0, f1, f2, f3, f4, f5⟩ := hf it (by simp)
  refine wpAny_pyNext_tuple_item st (show s.heap.IsTuple a its.toArray from p) (x := u) (by simpa using hu) fun h' st' sb => ?_
  have I1 : ae X pins σ H { s with heap := h' } := I.turned (t' := s.toks) (fun b o hb e => (sb.2 b hb).trans e) f0 f1 f3 f4 f5
  obtain ⟨o, e, c, d⟩ := id st'
  exact ⟨u, rfl, lh (s := { s with heap := h' }) e c d (by decide) ⟨x, H, I1, ru, ⟨rfl, fun ys hy => by rw [I.tuple_inj hy hq]; exact hx⟩, st', fun b hb => (hf b hb).1⟩⟩
 done := by
  intro X hP hw hK hc i pins s σ H E I hf st hg
  subst hP hw hK
  obtain ⟨xs, hq, hx⟩ := hg
  obtain ⟨its, rv, p, hz⟩ := I.tuple hq
  obtain ⟨f0, f1, f2, f3, f4, f5⟩ := hf it (by simp)
  have hl := rv.length
  exact wpAny_pyNext_tuple_end (I.ok.hd hc) st (show s.heap.IsTuple a its.toArray from p) (by simp; omega) fun h' eb => ⟨rfl, I.turned (t' := s.toks) (fun b o hb e => eb b o hb e) f0 f1 f3 f4 f5⟩
 self := fun _ _ _ _ _ st h => wpAny_pyIter_tupleiter st h
theorem km {P : Program} {w : World} {K : Fg} {tg : Expr} (it : Addr) (lo : Int) (n : Nat) : mf P w K tg (ni lo n) [it] it (fun i h => IsRangeIter h it (lo + (i : Nat) * 1) ((n : Int) - (i : Nat)) 1) where
 mem := by simp
 obj := fun i h st b hb => by
  have e : b = it := by simpa using hb
  subst e
  exact ⟨_, st, fun v z => by
   have z' : Data.fields _ = Data.cell v := z
   cases z'⟩
 keep := fun i h h' st k => k it (by simp) _ st
 item := by
  intro X hP hw hK hc i pins s σ H E I hf st hg
  subst hP hw hK
  obtain ⟨f0, f1, f2, f3, f4, f5⟩ := hf it (by simp)
  have W := Walks.range (prog := X.prog) (w := X.w) (I.ok.hd hc) it lo 1 n
  refine W.item i s _ _ hg st fun v h' tk hv st' kk => ?_
  obtain ⟨t, rfl⟩ := hv
  have I1 : ae X pins σ H { s with heap := h', toks := tk } := I.turned (fun b o hb e => kk b o (by simpa using hb) e) f0 f1 f3 f4 f5
  refine ⟨_, rfl, lh (s := { s with heap := h', toks := tk }) (n := "range_iterator") st' rfl rfl (by decide) ⟨.int (lo + i), H, I1, ⟨t, ?_⟩, ⟨rfl, rfl⟩, st', fun b hb => (hf b hb).1⟩⟩
  rw [Int.mul_one]
 done := by
  intro X hP hw hK hc i pins s σ H E I hf st hg
  subst hP hw hK
  obtain ⟨f0, f1, f2, f3, f4, f5⟩ := hf it (by simp)
  exact wpAny_pyNext_range_end (I.ok.hd hc) st (by have : n <= i := hg; omega) fun h' eb => ⟨rfl, I.turned (t' := s.toks) (fun b o hb e => eb b o hb e) f0 f1 f3 f4 f5⟩
 self := fun _ _ _ _ _ st h => wpAny_pyIter_rangeiter st h
end L2
namespace L2
open PySem PySem.Spec PyProof.Rows
section
variable {X : Cx} {tg : Expr}
def nU (K : Fg) (tl : TE) : TI := fun σ H R => tl σ H fun x H1 => ∃ a, x = .ref a /\ (∃ xs, ak K H1 a xs) /\ R (vQ K a) H1
def uI (K : Fg) (tl : TE) : TI := fun σ H R => tl σ H fun x H1 => ∃ a, x = .ref a /\ (∃ xs, aH K H1 a xs) /\ R (zt K a) H1
theorem gH {l : Expr} {tl : TE} (hl : PE X l tl) : PI X tg l (nU X.K tl) := by
 intro pins s σ H R I h
 refine aV (hl pins s σ H _ I h) fun v s1 ⟨x, H1, I1, r1, q1⟩ => ?_
 obtain ⟨a, e, ⟨xs, hq⟩, q⟩ := q1
 subst e
 cases r1
 obtain ⟨its, rv, p, hz⟩ := I1.list hq
 refine wpAny_pyIter_list p.isList ?_
 refine ⟨s1.heap.objs.size, [s1.heap.objs.size], _, _, H1, rfl, I1.kept (t' := s1.toks) fun b o e => Heap.get?_push_of_some _ e, lV a _, ⟨_, Heap.get?_push_size _ rfl, rfl, rfl⟩, fun b hb => ?_, q⟩
 have e : b = s1.heap.objs.size := by simpa using hb
 subst e
 exact I1.fpOk (Nat.le_refl _) (I1.hok.fresh (Nat.le_refl _))
theorem vW {l : Expr} {tl : TE} (hl : PE X l tl) : PI X tg l (uI X.K tl) := by
 intro pins s σ H R I h
 refine aV (hl pins s σ H _ I h) fun v s1 ⟨x, H1, I1, r1, q1⟩ => ?_
 obtain ⟨a, e, ⟨xs, hq⟩, q⟩ := q1
 subst e
 cases r1
 obtain ⟨its, rv, p, hz⟩ := I1.tuple hq
 refine wpAny_pyIter_tuple (show s1.heap.IsTuple a its.toArray from p) ?_
 refine ⟨s1.heap.objs.size, [s1.heap.objs.size], _, _, H1, rfl, I1.kept (t' := s1.toks) fun b o e => Heap.get?_push_of_some _ e, jT a _, ⟨_, Heap.get?_push_size _ rfl, rfl, rfl⟩, fun b hb => ?_, q⟩
 have e : b = s1.heap.objs.size := by simpa using hb
 subst e
 exact I1.fpOk (Nat.le_refl _) (I1.hok.fresh (Nat.le_refl _))
theorem iH {pins : Pn} {σ : St} {H : Hp} {s : Shared} {R : It -> Hp -> Prop} {E : Value -> Shared -> Prop} {lo hi : Int} {t u v : Tok} {tk : Nat} (I : ae X pins σ H s) (h1 : -(2 ^ 62) <= lo) (h2 : lo < 2 ^ 62) (h3 : -(2 ^ 62) <= hi) (h4 : hi < 2 ^ 62)
  (q : R (ni lo (hi - lo).toNat) H) : wpAny (model X.prog X.w) X.A (pyIter (.ref s.heap.objs.size)) (PIE X pins σ tg R) E { s with heap := s.heap.push { cls := .type "range", data := .fields #[.int lo t, .int hi u, .int 1 v] }, toks := tk } := by
 refine wpAny_pyIter_range (IsRange.new ..) (small_one h1 h2 h3 h4) ?_
 have I1 : ae X pins σ H { s with heap := s.heap.push { cls := .type "range", data := .fields #[.int lo t, .int hi u, .int 1 v] }, toks := tk } := I.kept fun b o e => Heap.get?_push_of_some _ e
 refine ⟨(s.heap.push { cls := .type "range", data := .fields #[.int lo t, .int hi u, .int 1 v] }).objs.size, [(s.heap.push { cls := .type "range", data := .fields #[.int lo t, .int hi u, .int 1 v] }).objs.size], _, _, H, rfl,
  I1.kept (t' := tk) fun b o e => Heap.get?_push_of_some _ e, km _ lo (hi - lo).toNat, ?_, fun b hb => ?_, q⟩
 ·have e1 : lo + ((0 : Nat) : Int) * 1 = lo := by simp
  have e2 : (((hi - lo).toNat : Nat) : Int) - ((0 : Nat) : Int) = Builtin.Range.rangeSize lo hi 1 := by rw [rangeSize_one]; split <;> omega
  show IsRangeIter _ _ (lo + ((0 : Nat) : Int) * 1) ((((hi - lo).toNat : Nat) : Int) - ((0 : Nat) : Int)) 1
  rw [e1, e2]
  exact Heap.get?_push_size _ rfl
 ·have e : b = (s.heap.push { cls := .type "range", data := .fields #[.int lo t, .int hi u, .int 1 v] }).objs.size := by simpa using hb
  subst e
  exact I1.fpOk (Nat.le_refl _) (I1.hok.fresh (Nat.le_refl _))
def oa (ta : TA) : TI := fun σ H R => ta σ H fun vs H1 => ∃ j : Int, vs = [.int j] /\ -(2 ^ 62) <= j /\ j < 2 ^ 62 /\ R (ni 0 j.toNat) H1
def pK (ta : TA) : TI := fun σ H R => ta σ H fun vs H1 => ∃ i j : Int, vs = [.int i, .int j] /\ (-(2 ^ 62) <= i /\ i < 2 ^ 62 /\ -(2 ^ 62) <= j /\ j < 2 ^ 62) /\ R (ni i (j - i).toNat) H1
theorem eh {a : Expr} {ta : TA} {p pos : Pos} (hg : Gl X "range") (hm : X.mg "range" = none) (ha : PA X [a] ta) (hs : starEach [a] X.env = [(false, eval a X.env)] := by rfl) : PI X tg (.Call (.Name "range" p) [a] [] pos) (oa ta) := by
 intro pins s σ H R I h
 refine Call_ (eF I hg hm boot_range (PyProof.Rows.callWith_type1 (aV (ha pos pins s σ H _ I h) fun us s1 ⟨vs, H1, I1, r1, q1⟩ => ?_) hs rfl))
 obtain ⟨j, e, q1, q2, q⟩ := q1
 subst e
 cases r1 with
 | cons r rr =>
  cases rr
  obtain ⟨t, rfl⟩ := r
  exact call_range_1 (iH I1 (by omega) (by omega) q1 q2 (by simpa using q))
theorem gc {a b : Expr} {ta : TA} {p pos : Pos} (hg : Gl X "range") (hm : X.mg "range" = none) (ha : PA X [a, b] ta) (hs : starEach [a, b] X.env = [(false, eval a X.env), (false, eval b X.env)] := by rfl) (hs2 : starEach [b] X.env = [(false, eval b X.env)] := by rfl) :
  PI X tg (.Call (.Name "range" p) [a, b] [] pos) (pK ta) := by
 intro pins s σ H R I h
 refine Call_ (eF I hg hm boot_range (PyProof.Rows.callWith_type1 (aV (ha pos pins s σ H _ I h) fun us s1 ⟨vs, H1, I1, r1, q1⟩ => ?_) (by rw [hs, hs2]) (by rw [hs2]; rfl)))
 obtain ⟨i, j, e, ⟨q1, q2, q3, q4⟩, q⟩ := q1
 subst e
 cases r1 with
 | cons r rr =>
  cases rr with
  | cons r' rr =>
   cases rr
   obtain ⟨t, rfl⟩ := r
   obtain ⟨t', rfl⟩ := r'
   exact call_range_2 (iH I1 q1 q2 q3 q4 q)
def tz (wi : TI) (g : TG) (tb : TS) : TS := fun D σ H => wi σ H fun J H1 => ∃ W : Nat -> Nat -> St -> Hp -> Prop, (∃ m, W 0 m σ H1) /\ ∀ i m σ H, W i m σ H ->
 (J.stop i H /\ D.nx σ H) ∨ (J.go i H /\ ∃ N : St -> Hp -> Prop, (∀ σ' H', N σ' H' -> ∃ m', m' < m /\ W (i + 1) m' σ' H') /\ ∀ x H', J.yld i H x H' -> g x σ H' fun σ2 H2 => tb { D with nx := N, ct := N, bk := D.nx } σ2 H2)
def gK (fp : List Addr) (h : Heap) : Pn := fp.filterMap fun b => (h.get? b).map fun o => (b, o)
theorem bC {fp : List Addr} {h : Heap} {b : Addr} {o : Obj} (hb : b ∈ fp) (e : h.get? b = some o) : (b, o) ∈ gK fp h := List.mem_filterMap.mpr ⟨b, hb, by rw [e]; rfl⟩
theorem lY {fp : List Addr} {h : Heap} {p : Addr × Obj} (hp : p ∈ gK fp h) : p.1 ∈ fp /\ h.get? p.1 = some p.2 := by
 obtain ⟨b, hb, e⟩ := List.mem_filterMap.mp hp
 cases q : h.get? b with
 | none => rw [q] at e; cases e
 | some o =>
  rw [q] at e
  have e' : (b, o) = p := Option.some.inj e
  subst e'
  exact ⟨hb, q⟩
theorem ae.pinned {pins : Pn} {σ : St} {H : Hp} {s : Shared} {fp : List Addr} (I : ae X pins σ H s) (hf : ∀ b ∈ fp, dL X pins H b) (ho : ∀ b ∈ fp, ∃ o, s.heap.get? b = some o /\ ∀ v, o.data ≠ .cell v) : ae X (pins ++ gK fp s.heap) σ H s :=
 I.pins_of fun p hp => (List.mem_append.mp hp).elim (fun z => I.pin p (List.mem_append_right _ z)) fun z => by
  obtain ⟨hb, e⟩ := lY z
  obtain ⟨f0, f1, f2, _⟩ := hf p.1 hb
  obtain ⟨o, e', d⟩ := ho p.1 hb
  rw [e] at e'; cases e'
  exact ⟨e, f0, f1, f2, d⟩
theorem ae.unpinned {pins pl : Pn} {σ : St} {H : Hp} {s : Shared} (I : ae X (pins ++ pl) σ H s) : ae X pins σ H s := I.pins_of fun p hp => I.pin p (List.mem_append_right _ (List.mem_append_left _ hp))
theorem cL {iter : Expr} {body : List Stmt} {wi : TI} {g : TG} {tb : TS} {pos : Pos} (hp : PassesOwn (model X.prog X.w) X.A X.env X.xe) (hc : X.calm = true) (hi : PI X tg iter wi) (hg : PG X tg g) (hb : nA X body tb)
  (hs : ∀ x, foldedSetIterable iter X.env x = pure x := by intro _; rfl) : PS X (.For tg iter body [] pos) (tz wi g tb) := by
 intro pins s σ H D I h
 refine wpAny_For (aV (hi pins s σ H _ I h) fun v s1 h1 => aV h1 fun itv s2 h2 => ?_) hs
 obtain ⟨it, fp, tn, J, H2, e, I2, T, st2, f2, W, ⟨m0, w0⟩, turn⟩ := h2
 subst e
 have stat : ∀ {H' : Hp}, (∀ b ∈ fp, H' b = none) -> ∀ b ∈ fp, dL X pins H' b := fun hn b hb => ⟨hn b hb, (f2 b hb).2⟩
 refine codeAny_forLoop_any (fun n s' => ∃ i σ' H', ae X pins σ' H' s' /\ tn i s'.heap /\ (∀ b ∈ fp, H' b = none) /\ W i n σ' H') ?_ m0 ⟨0, σ, H2, I2, st2, fun b hb => (f2 b hb).1, w0⟩
 rintro n s3 ⟨i, σ3, H3, I3, st3, fr3, w3⟩
 rcases turn i n σ3 H3 w3 with ⟨stop, qn⟩ | ⟨go, N, hN, step⟩
 ·refine wpAny_passesOwn hp (aV (T.done X rfl rfl rfl hc i pins s3 σ3 H3 X.xe I3 (stat fr3) st3 stop) fun r s4 ⟨hr, I4⟩ => ?_)
  subst hr
  exact wpAny_execs_nil ⟨σ3, H3, I4, qn⟩
 ·refine wpAny_passesOwn hp (aV (T.item X rfl rfl rfl hc i pins s3 σ3 H3 X.xe I3 (stat fr3) st3 go) fun r s4 ⟨u, hr, h4⟩ => ?_)
  subst hr
  refine wpAny_passesOwn hp (aV h4 fun _ s5 ⟨x, H5, I5, r5, y5, st5, fr5⟩ => ?_)
  have I5' := I5.pinned (stat fr5) (T.obj _ _ st5)
  refine wpAny_passesOwn hp (aV (hg _ s5 σ3 H5 x u _ I5' r5 (step x H5 y5)) fun _ s6 ⟨σ6, H6, I6, q6⟩ => ?_)
  refine wpAny_passesOwn hp (aV (hb _ s6 σ6 H6 _ I6 q6) fun f s7 q7 => ?_)
  have again : ∀ {σ7 : St} {H7 : Hp}, ae X (pins ++ gK fp s5.heap) σ7 H7 s7 -> N σ7 H7 -> ∃ m, m < n /\ ∃ i σ' H', ae X pins σ' H' s7 /\ tn i s7.heap /\ (∀ b ∈ fp, H' b = none) /\ W i m σ' H' := fun {σ7 H7} I7 n7 => by
   obtain ⟨m', hm, w7⟩ := hN σ7 H7 n7
   refine ⟨m', hm, i + 1, σ7, H7, I7.unpinned, T.keep _ _ _ st5 fun b hb o e => (I7.pin (b, o) (List.mem_append_right _ (List.mem_append_right _ (bC hb e)))).1, fun b hb => ?_, w7⟩
   obtain ⟨o, e, d⟩ := T.obj _ _ st5 b hb
   exact (I7.pin (b, o) (List.mem_append_right _ (List.mem_append_right _ (bC hb e)))).2.1
  cases f with
  | next => obtain ⟨σ7, H7, I7, n7⟩ := q7; exact again I7 n7
  | cont => obtain ⟨σ7, H7, I7, n7⟩ := q7; exact again I7 n7
  | brk => obtain ⟨σ7, H7, I7, q7⟩ := q7; exact ⟨σ7, H7, I7.unpinned, q7⟩
  | ret v => obtain ⟨x7, σ7, H7, I7, r7, q7⟩ := q7; exact ⟨x7, σ7, H7, I7.unpinned, r7, q7⟩
end
theorem og {K : Fg} {a : Addr} {xs : List V} {g : TG} {tb : TS} {D : cP} {σ : St} {H : Hp} (Pv : Nat -> St -> Hp -> Prop) (h0 : Pv 0 σ H) (hl : ∀ i σ H, i <= xs.length -> Pv i σ H -> ak K H a xs)
  (hs : ∀ i x σ H, xs[i]? = some x -> Pv i σ H -> g x σ H fun σ2 H2 => tb { D with nx := Pv (i + 1), ct := Pv (i + 1), bk := D.nx } σ2 H2) (hd : ∀ σ H, Pv xs.length σ H -> D.nx σ H) :
  ∃ W : Nat -> Nat -> St -> Hp -> Prop, (∃ m, W 0 m σ H) /\ ∀ i m σ H, W i m σ H ->
   ((vQ K a).stop i H /\ D.nx σ H) ∨ ((vQ K a).go i H /\ ∃ N : St -> Hp -> Prop, (∀ σ' H', N σ' H' -> ∃ m', m' < m /\ W (i + 1) m' σ' H') /\ ∀ x H', (vQ K a).yld i H x H' -> g x σ H' fun σ2 H2 => tb { D with nx := N, ct := N, bk := D.nx } σ2 H2) := by
 refine ⟨fun i m σ H => m = xs.length - i /\ i <= xs.length /\ Pv i σ H, ⟨xs.length, by simp, Nat.zero_le _, h0⟩, ?_⟩
 rintro i m σ H ⟨rfl, hi, p⟩
 have q := hl i σ H hi p
 by_cases hlt : i < xs.length
 ·refine .inr ⟨⟨xs, xs[i], q, by simp [hlt]⟩, Pv (i + 1), fun σ' H' p' => ⟨xs.length - (i + 1), by omega, rfl, hlt, p'⟩, fun x H' y => ?_⟩
  obtain ⟨e, y⟩ := y
  subst e
  exact hs i x σ _ (y xs q) p
 ·have e : i = xs.length := by omega
  subst e
  exact .inl ⟨⟨xs, q, Nat.le_refl _⟩, hd σ H p⟩
theorem mq {lo : Int} {n : Nat} {g : TG} {tb : TS} {D : cP} {σ : St} {H : Hp} (Pv : Nat -> St -> Hp -> Prop) (h0 : Pv 0 σ H)
  (hs : ∀ i σ H, i < n -> Pv i σ H -> g (.int (lo + i)) σ H fun σ2 H2 => tb { D with nx := Pv (i + 1), ct := Pv (i + 1), bk := D.nx } σ2 H2) (hd : ∀ σ H, Pv n σ H -> D.nx σ H) :
  ∃ W : Nat -> Nat -> St -> Hp -> Prop, (∃ m, W 0 m σ H) /\ ∀ i m σ H, W i m σ H ->
   ((ni lo n).stop i H /\ D.nx σ H) ∨ ((ni lo n).go i H /\ ∃ N : St -> Hp -> Prop, (∀ σ' H', N σ' H' -> ∃ m', m' < m /\ W (i + 1) m' σ' H') /\ ∀ x H', (ni lo n).yld i H x H' -> g x σ H' fun σ2 H2 => tb { D with nx := N, ct := N, bk := D.nx } σ2 H2) := by
 refine ⟨fun i m σ H => m = n - i /\ i <= n /\ Pv i σ H, ⟨n, by simp, Nat.zero_le _, h0⟩, ?_⟩
 rintro i m σ H ⟨rfl, hi, p⟩
 by_cases hlt : i < n
 ·refine .inr ⟨hlt, Pv (i + 1), fun σ' H' p' => ⟨n - (i + 1), by omega, rfl, hlt, p'⟩, fun x H' y => ?_⟩
  obtain ⟨e, y⟩ := y
  subst e y
  exact hs i σ _ hlt p
 ·have e : i = n := by omega
  subst e
  exact .inl ⟨Nat.le_refl _, hd σ H p⟩
end L2
namespace L2
open PySem PySem.Spec PyProof.Rows
abbrev R2 := V -> V -> Hp -> VK -> Prop
def eQ (X : Cx) (f : Value -> Value -> Sem Value) (r : R2) : Prop :=
 ∀ (pins : Pn) (s : Shared) (σ : St) (H : Hp) (x y : V) (v u : Value) (Q : VK), ae X pins σ H s -> aw x v -> aw y u -> r x y H Q ->
  wpAny (model X.prog X.w) X.A (f v u) (EP X pins σ Q) X.xe s
def cq (X : Cx) (f : Value) (r : List V -> Hp -> VK -> Prop) : Prop :=
 ∀ (pins : Pn) (s : Shared) (σ : St) (H : Hp) (xs : List V) (us : List Value) (Q : VK), ae X pins σ H s -> am xs us -> r xs H Q ->
  wpAny (model X.prog X.w) X.A (call f us) (EP X pins σ Q) X.xe s
def tL (r : R2) (ta tb : TE) : TE := fun σ H Q => ta σ H fun x H1 => tb σ H1 fun y H2 => r x y H2 Q
def tUn (r : V -> Hp -> VK -> Prop) (ta : TE) : TE := fun σ H Q => ta σ H fun x H1 => r x H1 Q
def rI (C : Int -> Int -> Prop) (g : Int -> Int -> V) : R2 := fun x y H Q => ∃ i j, x = .int i /\ y = .int j /\ C i j /\ Q (g i j) H
def qc (g : Int -> Int -> V) : R2 := fun x y H Q => ∃ i j, x = .int i /\ y = .int j /\ Q (g i j) H
def rU (g : Int -> V) : V -> Hp -> VK -> Prop := fun x H Q => ∃ i, x = .int i /\ Q (g i) H
section
variable {X : Cx} {a b c : Expr} {ta tb tc : TE} {pos : Pos}
theorem tT (ha : PE X a ta) (hb : PE X b tb) {pins : Pn} {s : Shared} {σ : St} {H : Hp} {R : V -> V -> Hp -> Prop} (I : ae X pins σ H s)
  (h : ta σ H fun x H1 => tb σ H1 fun y H2 => R x y H2) {Q : Value -> Shared -> Prop} {f : Value -> Value -> Sem Value}
  (hf : ∀ v u s2 x y H2, ae X pins σ H2 s2 -> aw x v -> aw y u -> R x y H2 -> wpAny (model X.prog X.w) X.A (f v u) Q X.xe s2) :
  wpAny (model X.prog X.w) X.A (eval a X.env) (fun v s₁ => wpAny (model X.prog X.w) X.A (eval b X.env) (fun u s₂ => wpAny (model X.prog X.w) X.A (f v u) Q X.xe s₂) X.xe s₁) X.xe s := by
 refine aV (ha pins s σ H _ I h) fun v s1 ⟨x, H1, I1, r1, q1⟩ => ?_
 refine aV (hb pins s1 σ H1 _ I1 q1) fun u s2 ⟨y, H2, I2, r2, q2⟩ => ?_
 exact hf v u s2 x y H2 I2 r1 r2 q2
theorem aq {op : Operator} {r : R2} (ho : eQ X (binaryOp op) r) (ha : PE X a ta) (hb : PE X b tb) : PE X (.BinOp a op b pos) (tL r ta tb) := by
 intro pins s σ H Q I h
 exact wpAny_BinOp (tT ha hb I h fun v u s2 x y H2 I2 rx ry q => ho pins s2 σ H2 x y v u Q I2 rx ry q)
theorem wK {f : Value -> Value -> Sem Value} {C : Int -> Int -> Prop} {g : Int -> Int -> Int}
  (rule : ∀ (i j : Int) (t u : Tok) (s : Shared) (Q : Value -> Shared -> Prop) (E : Value -> Shared -> Prop), C i j -> Q (.int (g i j) s.toks) { s with toks := s.toks + 1 } -> wpAny (model X.prog X.w) X.A (f (.int i t) (.int j u)) Q E s) :
  eQ X f (rI C fun i j => .int (g i j)) := by
 intro pins s σ H x y v u Q I rx ry h
 obtain ⟨i, j, rfl, rfl, hc, q⟩ := h
 obtain ⟨t, rfl⟩ := rx
 obtain ⟨t', rfl⟩ := ry
 exact rule i j t t' s _ _ hc ⟨.int (g i j), H, I.tok _, ⟨_, rfl⟩, q⟩
theorem yd {f : Value -> Value -> Sem Value} {g : Int -> Int -> Int}
  (rule : ∀ (i j : Int) (t u : Tok) (s : Shared) (Q : Value -> Shared -> Prop) (E : Value -> Shared -> Prop), Q (.int (g i j) s.toks) { s with toks := s.toks + 1 } -> wpAny (model X.prog X.w) X.A (f (.int i t) (.int j u)) Q E s) :
  eQ X f (qc fun i j => .int (g i j)) := by
 intro pins s σ H x y v u Q I rx ry h
 obtain ⟨i, j, rfl, rfl, q⟩ := h
 obtain ⟨t, rfl⟩ := rx
 obtain ⟨t', rfl⟩ := ry
 exact rule i j t t' s _ _ ⟨.int (g i j), H, I.tok _, ⟨_, rfl⟩, q⟩
theorem ur {f : Value -> Value -> Sem Value} {g : Int -> Int -> Bool}
  (rule : ∀ (i j : Int) (t u : Tok) (s : Shared) (Q : Value -> Shared -> Prop) (E : Value -> Shared -> Prop), Q (.bool (g i j)) s -> wpAny (model X.prog X.w) X.A (f (.int i t) (.int j u)) Q E s) :
  eQ X f (qc fun i j => .bl (g i j)) := by
 intro pins s σ H x y v u Q I rx ry h
 obtain ⟨i, j, rfl, rfl, q⟩ := h
 obtain ⟨t, rfl⟩ := rx
 obtain ⟨t', rfl⟩ := ry
 exact rule i j t t' s _ _ ⟨.bl (g i j), H, I, rfl, q⟩
def zl (i j : Int) : Prop := 0 <= j /\ j <= 1000000 /\ i.natAbs < 2 ^ 64
def yb (i j : Int) : Prop := (-(2 ^ 64) < i /\ i < 2 ^ 64) ∨ (-(2 ^ 64) < j /\ j < 2 ^ 64)
theorem yb.ok {i j : Int} (h : yb i j) : IntMulOk i j := by
 rcases h with ⟨h1, h2⟩ | ⟨h1, h2⟩
 ·exact .of_left (intBits_le_64 h1 h2)
 ·exact .of_right (intBits_le_64 h1 h2)
theorem ca : eQ X (binaryOp .Add) (qc fun i j => .int (i + j)) := yd fun _ _ _ _ _ _ _ q => add_int q
theorem nD : eQ X (binaryOp .Sub) (qc fun i j => .int (i - j)) := yd fun _ _ _ _ _ _ _ q => sub_int q
theorem cN : eQ X (binaryOp .Mod) (rI (fun _ j => 0 < j) fun i j => .int (i % j)) := wK fun i j _ _ _ _ _ hc q => by
 have h1 : (0 : Int) < j := hc
 exact mod_int' (by omega) (by rw [Int.fmod_eq_emod_of_nonneg i (by omega)]; exact q)
theorem tG : eQ X (binaryOp .Pow) (rI zl fun i j => .int (i ^ j.toNat)) := wK fun _ _ _ _ _ _ _ hc q => pow_int_small hc.1 hc.2.1 hc.2.2 q
end
def yB : V -> V -> Bool
 | .non, .non => true | .non, .int _ => true | .int _, .non => true | .non, .bl _ => true | .bl _, .non => true | .non, .str _ => true | .str _, .non => true
 | .int _, .int _ => true | .bl _, .bl _ => true | .str _, .str _ => true | .byt _, .byt _ => true
 | .int _, .str _ => true | .str _, .int _ => true | .bl _, .str _ => true | .str _, .bl _ => true
 | _, _ => false
def rEq : R2 := fun x y H Q => yB x y = true /\ Q (.bl (decide (x = y))) H
def wD : R2 := fun x y H Q => yB x y = true /\ Q (.bl (!decide (x = y))) H
theorem qL {i j : Int} : decide (V.int i = V.int j) = (i == j) := by
 rw [Bool.eq_iff_iff]
 simp
theorem uS {i j : Bool} : decide (V.bl i = V.bl j) = (i == j) := by
 rw [Bool.eq_iff_iff]
 simp
theorem qj {i j : Str} : decide (V.str i = V.str j) = (i == j) := by
 rw [Bool.eq_iff_iff]
 simp
theorem rL {i j : Array UInt8} : decide (V.byt i = V.byt j) = (i.toList == j.toList) := by
 rw [Bool.eq_iff_iff]
 cases i
 cases j
 simp
section
variable {X : Cx} {a b c : Expr} {ta tb tc : TE} {pos : Pos}
theorem be {pins : Pn} {σ : St} {H : Hp} {s : Shared} {Q : VK} {k k' : Bool} (I : ae X pins σ H s) (q : Q (.bl k) H) (e : k = k') : EP X pins σ Q (.bool k') s := by
 subst e
 exact ⟨.bl k, H, I, rfl, q⟩
theorem eL : eQ X (compareOp .Eq) rEq := by
 intro pins s σ H x y v u Q I rx ry h
 obtain ⟨hs, q⟩ := h
 cases x with
 | non =>
  cases rx
  cases y with
  | non => cases ry; exact PySem.EqNone.eq_none_none (be I q (by simp))
  | bl j => cases ry; exact PySem.EqNone.eq_none_bool (be I q (by simp))
  | int j => obtain ⟨t', rfl⟩ := ry; exact PySem.EqNone.eq_none_int (be I q (by simp))
  | str j => obtain ⟨t', rfl⟩ := ry; exact PySem.EqNone.eq_none_str (be I q (by simp))
  | _ => exact absurd (show false = true from hs) Bool.false_ne_true
 | bl i =>
  cases rx
  cases y with
  | non => cases ry; exact PySem.EqNone.eq_bool_none (be I q (by simp))
  | bl j => cases ry; exact eq_bool (be I q uS)
  | str j => obtain ⟨t', rfl⟩ := ry; exact PySem.EqMixed.eq_bool_str (be I q (by simp))
  | _ => exact absurd (show false = true from hs) Bool.false_ne_true
 | int i =>
  obtain ⟨t, rfl⟩ := rx
  cases y with
  | non => cases ry; exact PySem.EqNone.eq_int_none (be I q (by simp))
  | int j => obtain ⟨t', rfl⟩ := ry; exact eq_int (be I q qL)
  | str j => obtain ⟨t', rfl⟩ := ry; exact PySem.EqMixed.eq_int_str (be I q (by simp))
  | _ => exact absurd (show false = true from hs) Bool.false_ne_true
 | str i =>
  obtain ⟨t, rfl⟩ := rx
  cases y with
  | non => cases ry; exact PySem.EqNone.eq_str_none (be I q (by simp))
  | bl j => cases ry; exact PySem.EqMixed.eq_str_bool (be I q (by simp))
  | int j => obtain ⟨t', rfl⟩ := ry; exact PySem.EqMixed.eq_str_int (be I q (by simp))
  | str j => obtain ⟨t', rfl⟩ := ry; exact eq_str (be I q qj)
  | _ => exact absurd (show false = true from hs) Bool.false_ne_true
 | byt i =>
  obtain ⟨t, rfl⟩ := rx
  cases y with
  | byt j => obtain ⟨t', rfl⟩ := ry; exact PySem.W.eq_bytes (be I q rL)
  | _ => exact absurd (show false = true from hs) Bool.false_ne_true
 | _ => cases y <;> exact absurd (show false = true from hs) Bool.false_ne_true
theorem yy : eQ X (compareOp .Lt) (qc fun i j => .bl (decide (i < j))) := ur fun _ _ _ _ _ _ _ q => lt_int q
theorem pi : eQ X (compareOp .Gt) (qc fun i j => .bl (decide (j < i))) := ur fun _ _ _ _ _ _ _ q => gt_int q
theorem yg : eQ X (compareOp .GtE) (qc fun i j => .bl (decide (j <= i))) := ur fun _ _ _ _ _ _ _ q => ge_int q
theorem aJ (b : Expr) {op : CmpOp} (h : op ≠ .In := by decide) (h2 : op ≠ .NotIn := by decide) : behindInMarks op b = false := by
 have e1 : (op == CmpOp.In) = false := by cases op <;> first | rfl | exact absurd rfl h
 have e2 : (op == CmpOp.NotIn) = false := by cases op <;> first | rfl | exact absurd rfl h2
 cases b <;> simp [behindInMarks, e1, e2]
theorem dR {op : CmpOp} {r : R2} (ho : eQ X (compareOp op) r) (ha : PE X a ta) (hb : PE X b tb) (hm : behindInMarks op b = false) : PE X (.Compare a [op] [b] pos) (tL r ta tb) := by
 intro pins s σ H Q I h
 exact wpAny_Compare1 (tT ha hb I h fun v u s2 x y H2 I2 rx ry q => ho pins s2 σ H2 x y v u Q I2 rx ry q) hm
def pY (t : TE) : TT := fun σ H Q => t σ H fun x H' => ∃ k, x = .bl k /\ Q k H'
theorem aA {op : CmpOp} {r : R2} (ho : eQ X (compareOp op) r) (ha : PE X a ta) (hb : PE X b tb) (hm : behindInMarks op b = false) : PT X (.Compare a [op] [b] pos) (pY (tL r ta tb)) := by
 intro pins s σ H Q I h
 refine wpAny_isTrue_Compare1 (aV (ha pins s σ H _ I h) fun v s1 ⟨x, H1, I1, r1, q1⟩ => aV (hb pins s1 σ H1 _ I1 q1) fun u s2 ⟨y, H2, I2, r2, q2⟩ =>
  aV (ho pins s2 σ H2 x y v u _ I2 r1 r2 q2) fun c s3 ⟨z, H3, I3, r3, k, e, q3⟩ => ?_) hm
 subst e
 cases r3
 exact wpAny_truthy_bool ⟨H3, I3, q3⟩
def oR (r r' : R2) (ta tb tc : TE) : TE := fun σ H Q => ta σ H fun x H1 => tb σ H1 fun y H2 => r x y H2 fun z H3 => ∃ k, z = .bl k /\
 (if k = true then tc σ H3 fun w' H4 => r' y w' H4 Q else Q (.bl false) H3)
theorem gC : (sizeLine : Nat) < 2 ^ 63 := by rw [sizeLine_eq]; decide
theorem kQ {x : V} {us : List Value} (r : am [x] us) : ∃ u, us = [u] /\ aw x u := by
 cases r with
 | cons r1 r2 => cases r2; exact ⟨_, rfl, r1⟩
theorem oV {x y : V} {us : List Value} (r : am [x, y] us) : ∃ u w', us = [u, w'] /\ aw x u /\ aw y w' := by
 cases r with
 | cons r1 r2 =>
  cases r2 with
  | cons r3 r4 => cases r4; exact ⟨_, _, rfl, r1, r3⟩
theorem md (hc : X.calm = true) : cq X (.builtin "max") (fun xs H Q => ∃ i j, xs = [.int i, .int j] /\ Q (.int (if j > i then j else i)) H) := by
 intro pins s σ H xs us Q I r h
 obtain ⟨i, j, rfl, q⟩ := h
 obtain ⟨u, w', rfl, ⟨t, rfl⟩, ⟨t', rfl⟩⟩ := oV r
 refine max_two_ints (I.ok.hd hc) fun h' tk k => ⟨_, H, I.kept k, ?_, q⟩
 by_cases hj : j > i
 ·rw [if_pos hj, if_pos hj]; exact ⟨_, rfl⟩
 ·rw [if_neg hj, if_neg hj]; exact ⟨_, rfl⟩
theorem lU (hc : X.calm = true) : cq X (.builtin "min") (fun xs H Q => ∃ i j, xs = [.int i, .int j] /\ Q (.int (if j < i then j else i)) H) := by
 intro pins s σ H xs us Q I r h
 obtain ⟨i, j, rfl, q⟩ := h
 obtain ⟨u, w', rfl, ⟨t, rfl⟩, ⟨t', rfl⟩⟩ := oV r
 refine min_two_ints (I.ok.hd hc) fun h' tk k => ⟨_, H, I.kept k, ?_, q⟩
 by_cases hj : j < i
 ·rw [if_pos hj, if_pos hj]; exact ⟨_, rfl⟩
 ·rw [if_neg hj, if_neg hj]; exact ⟨_, rfl⟩
theorem gq : cq X (.type "int") (fun xs H Q => (∃ i, xs = [.int i] /\ Q (.int i) H) ∨ ∃ k, xs = [.bl k] /\ Q (.int (if k then 1 else 0)) H) := by
 intro pins s σ H xs us Q I r h
 rcases h with ⟨i, rfl, q⟩ | ⟨k, rfl, q⟩
 ·obtain ⟨u, rfl, t, rfl⟩ := kQ r
  exact call_int_int ⟨.int i, H, I, ⟨_, rfl⟩, q⟩
 ·obtain ⟨u, rfl, r1⟩ := kQ r
  cases r1
  exact call_int_bool ⟨.int (if k then 1 else 0), H, I.tok _, ⟨_, rfl⟩, q⟩
end
end L2
namespace L2
open PySem PySem.Spec PyProof.Rows
structure yz (h : Heap) (x dx C : Addr) (mA : Str -> Option Value) : Prop where
 obj : h.get? x = some (PySem.W.instObj C dx)
 ns : h.Ns1 dx mA
 ne : dx ≠ x
theorem mo {h : Heap} {dx : Addr} {mA : Str -> Option Value} (n : h.Ns1 dx mA) : ∃ od, h.get? dx = some od /\ ∀ name, PySem.W.lookIn name od = some (mA name) := by
 obtain ⟨o, es, ep, ho, hd, hk, _, hm⟩ := n
 refine ⟨o, ho, fun name => ?_⟩
 have e := hm name
 unfold nsFind findBy at e
 rw [<- Array.find?_toList] at e
 unfold PySem.W.lookIn
 rw [hd]
 dsimp only
 split
 ·rename_i y q
  rw [q] at e
  exact congrArg some e
 ·rename_i q
  rw [q] at e
  have a : es.toList.any (·.refKey) = false := by
   rw [List.any_eq_false]
   intro y hy
   obtain ⟨z, t, hkey⟩ := hk y (Array.mem_toList_iff.mp hy)
   simp [DictEntry.refKey, hkey]
  have a' : ¬ es.toList.any (·.refKey) = true := by rw [a]; exact Bool.false_ne_true
  rw [if_neg a']
  exact congrArg some e
theorem yz.look {h : Heap} {x dx C : Addr} {mA : Str -> Option Value} (I : yz h x dx C mA) : ∃ od, PySem.W.InstAt h x (PySem.W.instObj C dx) C (some od) /\ ∀ name, PySem.W.lookIn name od = some (mA name) :=
 let ⟨od, ho, hl⟩ := mo I.ns
 ⟨od, ⟨I.obj, rfl, rfl, ho⟩, hl⟩
section
variable {prog : Program} {w : World} {A : Around} {E : Value -> Shared -> Prop} {s : Shared} {K : Fg} {x dx C f : Addr} {mA : Str -> Option Value} {name : Str} {v : Value}
end
section
variable {P : Program} {w : World} {H H' : Hp} {h h' : Heap} {a C dx : Addr} {fs fs' : List (Str × V)}
end
structure Cls (K : Fg) (C : Addr) : Prop where
 pg : PySem.W.plainGet K C Str.empty = true
 hd : PySem.W.hasDictIn K C = true
 po : PySem.W.plainOver K C = true
 sa : PySem.W.findIn K (.ref C) "__setattr__" = some (some (.builtin "object.__setattr__"))
theorem Cls.get {K : Fg} {C : Addr} (c : Cls K C) (f : Str) : PySem.W.plainGet K C f = true := c.pg
section
variable {X : Cx} {pins : Pn} {σ : St} {H : Hp} {s : Shared} {a C dx : Addr} {fs : List (Str × V)} {f : Str} {v : V} {A : Around} {E : Value -> Shared -> Prop}
theorem ae.made (I : ae X pins σ H s) : ae X pins σ (upd (upd H s.heap.objs.size (.own (s.heap.objs.size + 1))) (s.heap.objs.size + 1) (.ins C s.heap.objs.size []))
  { s with heap := (s.heap.push PySem.W.emptyDict).push (PySem.W.instObj C s.heap.objs.size) } := by
 have e1 : (s.heap.push PySem.W.emptyDict).get? s.heap.objs.size = some PySem.W.emptyDict := Heap.get?_push_size s.heap rfl
 have e2 : ((s.heap.push PySem.W.emptyDict).push (PySem.W.instObj C s.heap.objs.size)).get? (s.heap.objs.size + 1) = some (PySem.W.instObj C s.heap.objs.size) := by
  have := Heap.get?_push_size (s.heap.push PySem.W.emptyDict) (o := PySem.W.instObj C s.heap.objs.size) rfl
  rwa [Heap.size_push] at this
 have e3 : (s.heap.push PySem.W.emptyDict).Ns s.heap.objs.size (fun _ => none) := ⟨PySem.W.emptyDict, #[], _, e1, rfl, (fun e he => absurd he (by simp)), fun _ => rfl⟩
 have I1 := I.laid (a := s.heap.objs.size) (o := .own (s.heap.objs.size + 1)) (h' := s.heap.push PySem.W.emptyDict) (t' := s.toks) (fun b u q => Heap.get?_push_of_some _ q) (Nat.le_refl _) ⟨_, e1⟩
 refine I1.laid (a := s.heap.objs.size + 1) (o := .ins C s.heap.objs.size []) (t' := s.toks) (fun b u q => Heap.get?_push_of_some _ q) (Nat.le_of_eq (Heap.size_push _ _)) ?_
 have ne : s.heap.objs.size ≠ s.heap.objs.size + 1 := Nat.ne_of_lt (Nat.lt_succ_self _)
 refine ⟨by rw [ac ne, ad], Nat.zero_le _, ne, e2, fun _ => none, (Heap.Ns1.of_empty e3).at fun o q => Heap.get?_push_of_some _ q, fun _ => True.intro, fun y hy => absurd rfl hy⟩
end
section
variable {X : Cx} {o e value : Expr} {f : Str} {pos pos' tpos : Pos} {ta tv : TE}
end
section
variable {X : Cx} {pins : Pn} {σ : St} {H : Hp} {s : Shared} {A : Around} {E : Value -> Shared -> Prop} {Q : Value -> Shared -> Prop} {c : Value} {b : Bool}
end
end L2
namespace L2
open PySem PySem.Spec PyProof.Rows
structure bL (k : Nat) (A : Around) : Prop where
 hd : A.handled = none
 dp : A.depth + 3 * k + 5 < recursionLimit
 un : A.units + 16 * k + 200 < cLine
theorem bL.mono {j k : Nat} {A : Around} (r : bL k A) (h : j <= k) : bL j A := ⟨r.hd, by have := r.dp; omega, by have := r.un; omega⟩
theorem bL.deeper {k : Nat} {A : Around} (r : bL (k + 1) A) (env : Env) : bL k (A.deeper env) :=
 ⟨r.hd, by have := r.dp; show A.depth + 1 + 3 * k + 5 < _; omega, by have := r.un; show A.units + 3 + 16 * k + 200 < _; omega⟩
theorem bL.in1 {k : Nat} {A : Around} (r : bL (k + 1) A) : bL k A.in1 :=
 ⟨r.hd, by have := r.dp; show A.depth + 3 * k + 5 < _; omega, by have := r.un; show A.units + 1 + 16 * k + 200 < _; omega⟩
theorem bL.depth {k : Nat} {A : Around} (r : bL k A) : A.depth < recursionLimit := by have := r.dp; omega
theorem bL.units {k : Nat} {A : Around} (r : bL k A) : A.units + 64 < cLine := by have := r.un; omega
theorem bL.units0 {k : Nat} {A : Around} (r : bL k A) : A.units < cLine := by have := r.un; omega
def tNil : TA := fun _ H Q => Q [] H
def br (ta : TE) (tr : TA) : TA := fun σ H Q => ta σ H fun x H1 => tr σ H1 fun xs H2 => Q (x :: xs) H2
section
variable {X : Cx} {e : Expr} {es : List Expr} {te : TE} {t : TA} {pos : Pos}
theorem aB : PA X [] tNil := fun _ _ _ _ H Q I h => Calls.spliced_nil ⟨[], H, I, .nil, h⟩
theorem af (ha : PE X e te) (hr : PA X es t) (hs : starEach (e :: es) X.env = (false, eval e X.env) :: starEach es X.env := by rfl) : PA X (e :: es) (br te t) := by
 intro pos pins s σ H Q I h
 rw [hs]
 show wpAny _ _ (spliced ((false, eval e X.env) :: backTo pos (starEach es X.env))) _ _ s
 refine Calls.spliced_cons (aV (ha pins s σ H _ I h) fun u s1 ⟨x, H1, I1, r1, q1⟩ => ?_)
 exact aV (hr pos pins s1 σ H1 _ I1 q1) fun us s2 ⟨xs, H2, I2, r2, q2⟩ => ⟨x :: xs, H2, I2, .cons r1 r2, q2⟩
def qr (t : TA) : TE := fun σ H Q => t σ H fun xs H1 => xs.length <= sizeLine /\ ∀ p, H1 p = none -> Q (.ref p) (upd H1 p (.tup xs))
def rR (t : TA) : TE := fun σ H Q => t σ H fun xs H1 => xs.length <= sizeLine /\ ∀ p, H1 p = none -> Q (.ref p) (upd H1 p (.lst xs))
theorem aS {x1} (h : PA X es t) : PE X (.Tuple es x1 pos) (qr t) := by
 intro pins s σ H Q I hq
 refine wpAny_Tuple_spliced (aV (h pos pins s σ H _ I hq) fun us s1 ⟨xs, H1, I1, r, z, q⟩ => ⟨by rw [<- r.length]; exact z, ?_⟩)
 have hf : H1 s1.heap.objs.size = none := I1.hok.fresh (Nat.le_refl _)
 refine ⟨.ref s1.heap.objs.size, upd H1 s1.heap.objs.size (.tup xs), I1.laid (t' := s1.toks) (fun b u e => Heap.get?_push_of_some _ e) (Nat.le_refl _) ?_, rfl, q _ hf⟩
 exact ⟨z, us, r, ⟨_, Heap.get?_push_size _ rfl, rfl, _, rfl⟩⟩
theorem ay (h : PA X es t) : PE X (.List es pos) (rR t) := by
 intro pins s σ H Q I hq
 refine wpAny_List_spliced (aV (h pos pins s σ H _ I hq) fun us s1 ⟨xs, H1, I1, r, z, q⟩ => ⟨by rw [<- r.length]; exact z, ?_⟩)
 have hf : H1 s1.heap.objs.size = none := I1.hok.fresh (Nat.le_refl _)
 refine ⟨.ref s1.heap.objs.size, upd H1 s1.heap.objs.size (.lst xs), I1.laid (t' := s1.toks) (fun b u e => Heap.get?_push_of_some _ e) (Nat.le_refl _) ?_, rfl, q _ hf⟩
 exact ⟨z, us, 0, r, Heap.get?_push_size _ rfl⟩
end
abbrev Sp := List V -> Hp -> VK -> XK -> Prop
abbrev CXT := List Env -> Hp -> Shared -> XK -> Value -> Shared -> Prop
structure jU (P : Program) (w : World) (K : Fg) (mg : Str -> Option Value) (base : Heap) (A : Around) (outer : List Env) (s : Shared) (H : Hp) : Prop where
 frames : A.frames = some outer
 mod : Mod K mg base
 bs : ∀ b o, base.get? b = some o -> s.heap.get? b = some o /\ H b = none
 bsz : base.objs.size <= s.heap.objs.size
 funs : s.heap.FunFrames base outer
 frf : ∀ b ∈ gB outer, H b = none
 hok : eP P w H s.heap
 bare : AllBare s.gens
def CE (outer : List Env) (P : Program) (w : World) (H : Hp) (s : Shared) (Q : VK) (u : Value) (s' : Shared) : Prop :=
 ∃ v H', s'.os = s.os /\ AllBare s'.gens /\ Un (gB outer) [] H H' s.heap s'.heap /\ eP P w H' s'.heap /\ aw v u /\ Q v H'
def CR (CX : CXT) (outer : List Env) (P : Program) (w : World) (H : Hp) (s : Shared) (Q : VK) (E : XK) (r : Result) (s' : Shared) : Prop :=
 match r with
 | .ok (.ret u) => CE outer P w H s Q u s'
 | .ok _ => False
 | .error e => CX outer H s E e s'
structure bA (P : Program) (w : World) (K : Fg) (mg : Str -> Option Value) (base : Heap) (CX : CXT) (k : Nat) (f : Addr) (fd : FuncData) (ps : List Str) (sp : Sp) : Prop where
 len : ∀ vs H Q E, sp vs H Q E -> vs.length = ps.length
 run : ∀ (A : Around) (outer : List Env) (s : Shared) (H : Hp) (args : Args) (us : List Value) (vs : List V) (Q : VK) (E : XK), bL k A -> jU P w K mg base A outer s H -> BindsTo s fd args (ps.zip us) -> am vs us -> sp vs H Q E ->
  codeAny (model P w) A (.call (.ref f) args) (CR CX outer P w H s Q E) s
theorem bA.mono {P : Program} {w : World} {K : Fg} {mg : Str -> Option Value} {base : Heap} {CX : CXT} {j k : Nat} {f : Addr} {fd : FuncData} {ps : List Str} {sp : Sp} (F : bA P w K mg base CX j f fd ps sp) (h : j <= k) :
  bA P w K mg base CX k f fd ps sp := ⟨F.len, fun A outer s H args us vs Q E hr => F.run A outer s H args us vs Q E (hr.mono h)⟩
theorem bA.imp {P : Program} {w : World} {K : Fg} {mg : Str -> Option Value} {base : Heap} {CX : CXT} {k : Nat} {f : Addr} {fd : FuncData} {ps : List Str} {sp sp' : Sp} (F : bA P w K mg base CX k f fd ps sp)
  (h : ∀ vs H Q E, sp' vs H Q E -> sp vs H Q E) : bA P w K mg base CX k f fd ps sp' :=
 ⟨fun vs H Q E q => F.len vs H Q E (h _ _ _ _ q), fun A outer s H args us vs Q E hr he hb hv hs => F.run A outer s H args us vs Q E hr he hb hv (h _ _ _ _ hs)⟩
theorem jU.in1 {P : Program} {w : World} {K : Fg} {mg : Str -> Option Value} {base : Heap} {A : Around} {outer : List Env} {s : Shared} {H : Hp} (e : jU P w K mg base A outer s H) :
  jU P w K mg base A.in1 outer s H := ⟨e.frames, e.mod, e.bs, e.bsz, e.funs, e.frf, e.hok, e.bare⟩
section
variable {X : Cx} {pins : Pn} {σ : St} {H : Hp} {s s' : Shared}
theorem ae.env0 (I : ae X pins σ H s) : jU X.prog X.w X.K X.mg X.base X.A X.stack s H :=
 ⟨I.ok.frames, I.ok.mod, I.bs, Nat.le_trans I.ok.bsz I.sz, I.stack, I.stkFree, I.hok, I.bare⟩
theorem ae.after {Q : VK} {u : Value} (I : ae X pins σ H s) (h : CE X.stack X.prog X.w H s Q u s') : EP X pins σ Q u s' := by
 obtain ⟨v, H', os, bare, un, hok, r, q⟩ := h
 obtain ⟨hh, g, d, t, os'⟩ := s'
 obtain rfl : os' = s.os := os
 exact ⟨v, H', I.call (h' := hh) (g' := g) (d' := d) (t' := t) (ch := []) un hok bare (fun b z => absurd z (by simp)), r, q⟩
end
def dO (sp : Sp) (dvs : List V) (E : XK) (t : TA) : TE := fun σ H Q => t σ H fun vs H1 => sp (vs ++ dvs) H1 Q E
def bF (K : Fg) (fd : FuncData) (ps : List Str) (ds : List Value) : Prop :=
 ∀ (s : Shared) (us : List Value), K.In s.heap -> (us ++ ds).length = ps.length -> BindsTo s fd ⟨us, []⟩ (ps.zip (us ++ ds))
theorem bF.all {K : Fg} {fd : FuncData} {ps : List Str} (h : ∀ us : List Value, us.length = ps.length -> bindArgs fd ⟨us, []⟩ = pure (ps.zip us)) : bF K fd ps [] := fun s us _ hl => by
 rw [List.append_nil] at hl ⊢
 exact .of_eq (h us hl)
def jW (CX : CXT) (X : Cx) (E : XK) : Prop := ∀ (pins : Pn) (σ : St) (H : Hp) (s : Shared) (e : Value) (s' : Shared), ae X pins σ H s -> CX X.stack H s E e s' -> X.xe e s'
section
variable {X : Cx} {CX : CXT} {k : Nat} {f C : Addr} {fd : FuncData} {ps : List Str} {sp : Sp} {dvs : List V} {ds : List Value} {E : XK} {x m : Str} {p pos apos : Pos} {e o : Expr} {es : List Expr} {ta : TE} {t : TA}
theorem tS {pins : Pn} {σ : St} {H : Hp} {s : Shared} {Q : VK} {us : List Value} {vs : List V} (F : bA X.prog X.w X.K X.mg X.base CX k f fd ps sp) (hr : bL k X.A) (hb : bF X.K fd ps ds) (hd : am dvs ds) (hx : jW CX X E)
  (I : ae X pins σ H s) (r : am vs us) (h : sp (vs ++ dvs) H Q E) : wpAny (model X.prog X.w) X.A (call (.ref f) us) (EP X pins σ Q) X.xe s := by
 have r2 : am (vs ++ dvs) (us ++ ds) := r.append hd
 have hl : (us ++ ds).length = ps.length := by rw [<- r2.length]; exact F.len _ _ _ _ h
 refine wpAny_call (codeAny_mono (F.run X.A X.stack s H ⟨us, []⟩ (us ++ ds) (vs ++ dvs) Q E hr I.env0 (hb s us I.kIn hl) r2 h) fun r s' hq => ?_)
 cases r with
 | error e => exact hx pins σ H s e s' I hq
 | ok fl =>
  cases fl with
  | ret u => exact I.after hq
  | next => exact False.elim hq
  | brk => exact False.elim hq
  | cont => exact False.elim hq
theorem au (F : bA X.prog X.w X.K X.mg X.base CX k f fd ps sp) (hr : bL k X.A) (hg : Gl X x) (hm : X.mg x = some (.ref f)) (hk : PySem.W.keepIn X.K (.ref f) = true) (hb : bF X.K fd ps ds) (hd : am dvs ds) (hx : jW CX X E)
  (ha : PA X (e :: es) t) (hdb : (x == ("__debug__" : Str)) = false := by decide) (he : starEach (e :: es) X.env = (false, eval e X.env) :: starEach es X.env := by rfl) (hpl : (backTo pos (starEach es X.env)).any (·.1) = false := by rfl) :
  PE X (.Call (.Name x p) (e :: es) [] pos) (dO sp dvs E t) := by
 intro pins s σ H Q I h
 refine wpAny_Call_Name_kw (lI I hg hm ?_ hdb)
 refine PySem.W.callWith_K (h₀ := X.base) I.ok.mod.kin hk (aV (ha pos pins s σ H _ I h) fun us s1 ⟨vs, H1, I1, r, q⟩ => ⟨I1.kIn, ?_⟩) he hpl
 exact tS F hr hb hd hx I1 r q
end
section
variable {X : Cx} {CX : CXT} {k : Nat} {f C : Addr} {fd : FuncData} {ps ks : List Str} {sp : Sp} {E : XK} {x m : Str} {p pos apos kpos : Pos} {e o : Expr} {es : List Expr} {kws : List Keyword} {te ta : TE} {t tk : TA} {nm : Option Str}
variable {g : List Value -> List Value -> List Value} {gV : List V -> List V -> List V}
end
structure aM (N P : List Str) (sc : Scope) : Prop where
 kind : sc.kind = .function
 co : sc.isCoroutine = false
 gen : sc.isGenerator = false
 nd : N.Nodup
 pre : N.take P.length = P
 par : ∀ x ∈ P, sc.names.lookup x = some .local ∨ sc.names.lookup x = some .cell
 nofree : ∀ y ∈ sc.names, y.2 ≠ .free
theorem gg {kindOf : Str -> Option NameKind} {x : Str} : ∀ {binds : List (Str × Value)} {m : Str -> Option Value}, (∀ v, (x, v) ∉ binds) -> bindL kindOf binds m x = m x
 | [], _, _ => rfl
 | (n, v) :: r, m, h => by
  unfold bindL
  rw [gg fun w hw => h w (List.mem_cons_of_mem _ hw)]
  split
  ·have : x ≠ n := by rintro rfl; exact h v List.mem_cons_self
   simp [this]
  ·rfl
theorem gw {kindOf : Str -> Option NameKind} {x : Str} : ∀ {binds : List (Str × Value)} {m : Str -> Option Value}, (∀ v, (x, v) ∉ binds) -> bindC kindOf binds m x = m x
 | [], _, _ => rfl
 | (n, v) :: r, m, h => by
  unfold bindC
  rw [gw fun w hw => h w (List.mem_cons_of_mem _ hw)]
  split
  ·rfl
  ·have : x ≠ n := by rintro rfl; exact h v List.mem_cons_self
   simp [this]
theorem gf {kindOf : Str -> Option NameKind} {x : Str} {v : Value} : ∀ {P : List Str} {vs : List Value} {i : Nat} {m : Str -> Option Value}, P.Nodup -> P[i]? = some x -> vs[i]? = some v -> kindOf x = some .local ->
  bindL kindOf (P.zip vs) m x = some v
 | [], _, _, _, _, h, _, _ => by simp at h
 | _ :: _, [], _, _, _, _, h, _ => by simp at h
 | p :: P, w :: vs, 0, m, nd, h1, h2, hk => by
  simp at h1 h2; subst h1; subst h2
  show bindL kindOf ((p, w) :: P.zip vs) m p = _
  unfold bindL
  rw [gg fun v hv => (List.nodup_cons.mp nd).1 (List.of_mem_zip hv).1, if_pos hk]
  simp
 | p :: P, w :: vs, i + 1, m, nd, h1, h2, hk => by
  show bindL kindOf ((p, w) :: P.zip vs) m x = _
  unfold bindL
  exact gf (i := i) (List.nodup_cons.mp nd).2 (by simpa using h1) (by simpa using h2) hk
theorem gk {kindOf : Str -> Option NameKind} {x : Str} {v : Value} : ∀ {P : List Str} {vs : List Value} {i : Nat} {m : Str -> Option Value}, P.Nodup -> P[i]? = some x -> vs[i]? = some v -> kindOf x ≠ some .local ->
  bindC kindOf (P.zip vs) m x = some v
 | [], _, _, _, _, h, _, _ => by simp at h
 | _ :: _, [], _, _, _, _, h, _ => by simp at h
 | p :: P, w :: vs, 0, m, nd, h1, h2, hk => by
  simp at h1 h2; subst h1; subst h2
  show bindC kindOf ((p, w) :: P.zip vs) m p = _
  unfold bindC
  rw [gw fun v hv => (List.nodup_cons.mp nd).1 (List.of_mem_zip hv).1, if_neg hk]
  simp
 | p :: P, w :: vs, i + 1, m, nd, h1, h2, hk => by
  show bindC kindOf ((p, w) :: P.zip vs) m x = _
  unfold bindC
  exact gk (i := i) (List.nodup_cons.mp nd).2 (by simpa using h1) (by simpa using h2) hk
def bS (N : List Str) (vs : List V) : St := vs.map some ++ List.replicate (N.length - vs.length) none
def iQ (CX : CXT) (P : Program) (w : World) (K : Fg) (mg : Str -> Option Value) (base : Heap) (N : List Str) (qual : Str) (scope : Scope) (f : Addr) (cd : Value) (A : Around) (outer : List Env) (s : Shared) (H : Hp) (E : XK) : Cx where
 prog := P
 w := w
 K := K
 mg := mg
 base := base
 A := A.deeper (envOfC qual scope s.heap.objs.size f cd)
 N := N
 s₀ := s
 H₀ := H
 env := envOfC qual scope s.heap.objs.size f cd
 outer := outer
 stack := envOfC qual scope s.heap.objs.size f cd :: outer
 ex := []
 calm := true
 fn := fun _ => true
 pn := []
 xe := fun e s' => wpAny (model P w) (A.deeper (envOfC qual scope s.heap.objs.size f cd)) (leaving (envOfC qual scope s.heap.objs.size f cd) e) (fun _ s'' => CX outer H s E e s'') (fun e' s'' => CX outer H s E e' s'') s'
theorem iY {sc : Scope} {n : Nat} {x : Str} (h : sc.names.lookup x = some .cell) : ∃ c, (cellsFrom n sc.names []).lookup x = some c := by
 have q := PySem.W.cellsFrom_some sc.names n [] (.inl h)
 exact Option.isSome_iff_exists.mp q
theorem lR {CX : CXT} {P : Program} {w : World} {K : Fg} {mg : Str -> Option Value} {base : Heap} {N ps : List Str} {qual : Str} {scope : Scope} {f : Addr} {cd : Value} {A : Around} {outer : List Env} {s s1 : Shared} {H : Hp} {E : XK} {us : List Value} {vs : List V}
  (S : aM N ps scope) (hd : A.handled = none) (e0 : jU P w K mg base A outer s H) (hl : vs.length = ps.length) (r : am vs us)
  (x : InCallC s s.heap.objs.size (bindL (envOfC qual scope s.heap.objs.size f cd).kindOf (ps.zip us) fun _ => none) (cellsFrom (s.heap.objs.size + 1) scope.names []) (bindC (envOfC qual scope s.heap.objs.size f cd).kindOf (ps.zip us) fun _ => none) s1) :
  ae (iQ CX P w K mg base N qual scope f cd A outer s H E) [] (bS N vs) H s1 := by
 have hpl : ps.length <= N.length := by have := congrArg List.length S.pre; rw [List.length_take] at this; omega
 obtain ⟨h1, tk, rfl, hk⟩ := x.done
 have noA : ∀ b : Addr, b ∉ (iQ CX P w K mg base N qual scope f cd A outer s H E).ex := fun b z => absurd (show b ∈ ([] : List Addr) from z) (by simp)
 refine ⟨⟨e0.mod, S.kind, rfl, rfl, Nat.le_refl _, fun y z c h1 h2 => ?_, fun y hy => ?_, fun y c _ h => ?_, fun _ => hd, Around.frames_deeper e0.frames, .inr ⟨rfl, rfl⟩, fun b z => absurd z (noA b), e0.bs, e0.bsz, fun b _ _ => noA b, fun b z => absurd z (noA b), e0.funs, e0.frf⟩,
  rfl, e0.bare, Un.kept hk, ⟨_, x.toInCall.ns, fun i y v h1 h2 h3 => ?_⟩, fun y c h => ⟨_, x.cell y c h⟩, e0.hok.fresh (Nat.le_refl _), fun y c h => ?_, fun p hp => absurd (show p ∈ ([] : Pn) from hp) (by simp), e0.hok.kept hk, ?_⟩
 ·exact name_of_addr x.apart (PySem.mem_of_lookup h1) (PySem.mem_of_lookup h2)
 ·have hy : scope.names.lookup y = some .cell ∨ scope.names.lookup y = some .free := hy
  rcases hy with hy | hy
  ·exact iY hy
  ·exact absurd rfl (S.nofree _ (PySem.mem_of_lookup hy))
 ·exact Nat.le_of_lt (x.above y c (PySem.mem_of_lookup h))
 ·have hi : i < vs.length := by
   unfold bS at h2
   by_cases hi : i < vs.length
   ·exact hi
   ·rw [List.getElem?_append_right (by simpa using hi)] at h2
    rw [List.getElem?_replicate] at h2
    split at h2 <;> cases h2
  have ha : vs[i]? = some v := by
   unfold bS at h2
   rw [List.getElem?_append_left (by simpa using hi), List.getElem?_map] at h2
   cases e : vs[i]? with
   | none => rw [e] at h2; cases h2
   | some a => rw [e] at h2; cases h2; rfl
  obtain ⟨u, hu, rv⟩ := r.get ha
  have hp : ps[i]? = some y := by
   rw [<- S.pre, List.getElem?_take_of_lt (by omega)]; exact h1
  have ndP : ps.Nodup := by rw [<- S.pre]; exact S.nd.sublist (List.take_sublist _ _)
  refine ⟨u, rv, ?_⟩
  rcases S.par y (List.mem_of_getElem? hp) with k | k
  ·exact .inl ⟨k, gf ndP hp hu k⟩
  ·obtain ⟨c, e⟩ := iY (n := s.heap.objs.size + 1) k
   refine .inr ⟨.inl k, c, e, ?_⟩
   have q := x.cell y c e
   rw [gk ndP hp hu (by show scope.names.lookup y ≠ _; rw [k]; decide)] at q
   exact q
 ·exact e0.hok.fresh (Nat.le_of_lt (x.above y c (PySem.mem_of_lookup h)))
 ·unfold bS
  show _ = N.length
  rw [List.length_append, List.length_map, List.length_replicate]
  omega
theorem yG {CX : CXT} {P : Program} {w : World} {K : Fg} {mg : Str -> Option Value} {base : Heap} {k : Nat} {f : Addr} {name qual : Str} {params : Arguments} {body : List Stmt} {scope : Scope} {dV kV doc pm cdv ct oc : Value} {an od : Option Addr}
  {osl : Array (Option Value)} {N ps : List Str} {sp : Sp} (lk : K.lookup f = some ⟨oc, od, .func (PySem.W.fnOf name qual params body scope dV kV doc pm an cdv ct), osl⟩) (hcd : PySem.W.codeIn K cdv qual = true) (S : aM N ps scope)
  (len : ∀ vs H Q E, sp vs H Q E -> vs.length = ps.length)
  (hbody : ∀ (A : Around) (outer : List Env) (s : Shared) (H : Hp) (vs : List V) (Q : VK) (E : XK), bL k (A.deeper (envOfC qual scope s.heap.objs.size f cdv)) -> sp vs H Q E ->
   ∃ t, nA (iQ CX P w K mg base N qual scope f cdv A outer s H E) body t /\ t { nx := fun _ H' => Q .non H', rt := Q } (bS N vs) H) :
  bA P w K mg base CX (k + 1) f (PySem.W.fnOf name qual params body scope dV kV doc pm an cdv ct) ps sp := by
 refine ⟨len, fun A outer s H args us vs Q E hr e0 hb r hsp => ?_⟩
 have hl := len _ _ _ _ hsp
 have KX : K.In s.heap := e0.mod.kin.keeps fun b o e => (e0.bs b o e).1
 have lim : s.heap.NoLimit := e0.mod.nolimit.keeps fun b o e => (e0.bs b o e).1
 have hkind : ∀ y ∈ ps.zip us, scope.names.lookup y.1 = some .local ∨ (scope.names.lookup y.1 = some .cell /\ ((cellsFrom (s.heap.objs.size + 1) scope.names []).lookup y.1).isSome = true) := fun ⟨n, v⟩ hy => by
  rcases S.par n (List.of_mem_zip hy).1 with q | q
  ·exact .inl q
  ·exact .inr ⟨q, PySem.W.cellsFrom_some _ _ _ (.inl q)⟩
 refine codeAny_call_function hr.depth (KX _ _ lk) rfl S.co S.gen rfl (PySem.W.codeRec_of KX hcd) (hb _ _ _ _ ?_)
 refine wpAny_newFunctionEnv_cells S.kind hkind fun env he s1 x => ?_
 subst he
 refine ⟨lim.keeps x.toInCall.keep, codeAny_func ?_⟩
 obtain ⟨t, ht, hq⟩ := hbody A outer s H vs Q E (hr.deeper _) hsp
 have I : ae (iQ CX P w K mg base N qual scope f cdv A outer s H E) [] (bS N vs) H s1 := lR S hr.hd e0 hl r x
 refine wpAny_mono (ht [] s1 (bS N vs) H _ I hq) (fun fl s' hs => ?_) fun e s' hs => hs
 have fin : ∀ {σ' : St} {H' : Hp} {v : V} {u : Value}, ae (iQ CX P w K mg base N qual scope f cdv A outer s H E) [] σ' H' s' -> aw v u -> Q v H' -> CE outer P w H s Q u s' :=
  fun {σ' H' v u} J rv q => ⟨v, H', J.os, J.bare, J.base, J.hok, rv, q⟩
 cases fl with
 | ret u =>
  obtain ⟨v, σ', H', J, rv, q⟩ := hs
  exact fin J rv q
 | next =>
  obtain ⟨σ', H', J, q⟩ := hs
  exact fin (v := V.non) (u := Value.none) J rfl q
 | brk =>
  obtain ⟨_, _, _, q⟩ := hs
  exact False.elim q
 | cont =>
  obtain ⟨_, _, _, q⟩ := hs
  exact False.elim q
end L2
namespace L2
open PySem PySem.Spec PyProof.Rows
section
variable {X : Cx} {x : Str} {p pos : Pos} {e : Expr} {es : List Expr} {t : TA} {id T : String} {r : List V -> Hp -> VK -> Prop}
def sy (r : List V -> Hp -> VK -> Prop) (t : TA) : TE := fun σ H Q => t σ H fun vs H1 => r vs H1 Q
theorem aX (hc : cq X (.builtin id) r) (hg : Gl X x) (hm : X.mg x = none) (hv : bootBuiltins x = some (.builtin id)) (ha : PA X (e :: es) t) (hn : x ≠ "__name__" := by decide) (hdb : (x == ("__debug__" : Str)) = false := by decide)
  (he : starEach (e :: es) X.env = (false, eval e X.env) :: starEach es X.env := by rfl) (hpl : (backTo pos (starEach es X.env)).any (·.1) = false := by rfl) : PE X (.Call (.Name x p) (e :: es) [] pos) (sy r t) := by
 intro pins s σ H Q I h
 refine wpAny_Call_Name_kw (eF I hg hm hv ?_ hn hdb)
 exact PyProof.Rows.callWith_builtin1 (aV (ha pos pins s σ H _ I h) fun us s1 ⟨vs, H1, I1, r1, q1⟩ => hc pins s1 σ H1 vs us Q I1 r1 q1) he hpl
theorem cU (hc : cq X (.type T) r) (hg : Gl X x) (hm : X.mg x = none) (hv : bootBuiltins x = some (.type T)) (ha : PA X (e :: es) t) (hn : x ≠ "__name__" := by decide) (hdb : (x == ("__debug__" : Str)) = false := by decide)
  (he : starEach (e :: es) X.env = (false, eval e X.env) :: starEach es X.env := by rfl) (hpl : (backTo pos (starEach es X.env)).any (·.1) = false := by rfl) : PE X (.Call (.Name x p) (e :: es) [] pos) (sy r t) := by
 intro pins s σ H Q I h
 refine wpAny_Call_Name_kw (eF I hg hm hv ?_ hn hdb)
 exact PyProof.Rows.callWith_type1 (aV (ha pos pins s σ H _ I h) fun us s1 ⟨vs, H1, I1, r1, q1⟩ => hc pins s1 σ H1 vs us Q I1 r1 q1) he hpl
end
end L2
namespace HT
open PySem PyProof.Rows
section
open PySem.SeqAt
open PySem.AutoSeq1 (wpAny_loadPart')
open PySem.MeetsSeq PySem.MeetsSeq2 PySem.MeetsSeq3
end
section
variable {prog : Program} {w : World} {A : Around} {E : Value -> Shared -> Prop} {s : Shared}
def sIx (n d : Nat) : Option Int -> Nat
 | none => d
 | some v => if v < 0 then (v + (n : Int)).toNat else min v.toNat n
end
end HT
namespace L2
open PySem PySem.Spec PyProof.Rows
abbrev TO := St -> Hp -> (Option Int -> Hp -> Prop) -> Prop
def PO (X : Cx) (e : Option Expr) (t : TO) : Prop :=
 ∀ (pins : Pn) (s : Shared) (σ : St) (H : Hp) (Q : Option Int -> Hp -> Prop), ae X pins σ H s -> t σ H Q ->
  wpAny (model X.prog X.w) X.A (evalPart e X.env) (fun u s' => ∃ o H', ae X pins σ H' s' /\ IsPart u o /\ Q o H') X.xe s
def tNoPart : TO := fun _ H Q => Q none H
def pe (t : TE) : TO := fun σ H Q => t σ H fun x H1 => ∃ i, x = .int i /\ Q (some i) H1
section
variable {X : Cx} {e : Expr} {te : TE} {lo hi : Option Expr} {tl th : TO} {pos p2 : Pos}
theorem hZ : PO X none tNoPart := by
 intro pins s σ H Q I h
 rw [evalPart_none]
 exact wpAny_pure ⟨none, H, I, .none, h⟩
theorem gW (h : PE X e te) : PO X (some e) (pe te) := by
 intro pins s σ H Q I hw
 rw [evalPart_some]
 refine aV (h pins s σ H _ I hw) fun u s1 ⟨x, H1, I1, r1, q1⟩ => ?_
 obtain ⟨i, rfl, q⟩ := q1
 obtain ⟨t, rfl⟩ := r1
 exact ⟨some i, H1, I1, .int i t, q⟩
def SlR (X : Cx) (r : V -> Option Int -> Option Int -> Hp -> VK -> Prop) : Prop :=
 ∀ (pins : Pn) (s : Shared) (σ : St) (H : Hp) (x : V) (v vl vu : Value) (lo hi : Option Int) (sl : Addr) (Q : VK), ae X pins σ H s -> aw x v -> s.heap.IsSliceOf sl vl vu .none -> IsPart vl lo -> IsPart vu hi -> r x lo hi H Q ->
  ∃ T id, typeLookup (.type T) "__getitem__" = pure (some (.builtin id)) /\ s.TypeIs v T /\ wpAny (model X.prog X.w) X.A (getItem v (.ref sl)) (EP X pins σ Q) X.xe s
def zP (r : V -> Option Int -> Option Int -> Hp -> VK -> Prop) (te : TE) (tl th : TO) : TE := fun σ H Q => te σ H fun x H1 => tl σ H1 fun l H2 => th σ H2 fun u H3 => r x l u H3 Q
theorem fE {r : V -> Option Int -> Option Int -> Hp -> VK -> Prop} (hr : SlR X r) (he : PE X e te) (hl : PO X lo tl) (hu : PO X hi th) : PE X (.Subscript e (.Slice lo hi none p2) pos) (zP r te tl th) := by
 intro pins s σ H Q I h
 refine Subscript_ (aV (he pins s σ H _ I h) fun v s1 ⟨x, H1, I1, r1, q1⟩ => ?_)
 refine wpAny_Slice (aV (hl pins s1 σ H1 _ I1 q1) fun vl s2 ⟨l, H2, I2, pl, q2⟩ => aV (hu pins s2 σ H2 _ I2 q2) fun vu s3 ⟨u, H3, I3, pu, q3⟩ => ?_)
 rw [evalPart_none]
 refine wpAny_pure ?_
 have I4 : ae X pins σ H3 { s3 with heap := s3.heap.push { cls := .type "slice", data := .fields #[vl, vu, .none] } } := I3.kept (t' := s3.toks) fun b ob q => Heap.get?_push_of_some _ q
 obtain ⟨T, id, hT, ht, hg⟩ := hr pins { s3 with heap := s3.heap.push { cls := .type "slice", data := .fields #[vl, vu, .none] } } σ H3 x v vl vu l u s3.heap.objs.size Q I4 r1 (Heap.IsSliceOf.new ..) pl pu q3
 show wpAny (model X.prog X.w) X.A (subscriptTail e (.Slice lo hi none p2) v (.ref s3.heap.objs.size)) (EP X pins σ Q) X.xe { s3 with heap := s3.heap.push { cls := .type "slice", data := .fields #[vl, vu, .none] } }
 exact tail_any (ops := [.ref s3.heap.objs.size, v]) ht hT hg (by with_unfolding_all rfl)
def jd (xs : List V) (lo hi : Option Int) : List V := (xs.drop (HT.sIx xs.length 0 lo)).take (HT.sIx xs.length xs.length hi - HT.sIx xs.length 0 lo)
theorem jq (xs : List V) (lo hi : Option Int) : (jd xs lo hi).length <= xs.length := by
 unfold jd
 rw [List.length_take, List.length_drop]
 omega
end
end L2
namespace L2
open PySem PySem.Spec PyProof.Rows
def qD (n : Nat) (i : Int) : Option Nat := if 0 <= i then (if i < n then some i.toNat else none) else if -(n : Int) <= i then some (i + n).toNat else none
def fW {α : Type} (xs : List α) (i : Int) : Option α := (qD xs.length i).bind fun j => xs[j]?
theorem lC {n : Nat} {i : Int} {j : Nat} (h : qD n i = some j) : seqIndex? i n = some j /\ j < n /\ -(n : Int) <= i /\ i < n := by
 unfold qD at h
 by_cases h0 : 0 <= i
 ·rw [if_pos h0] at h
  by_cases h1 : i < n
  ·rw [if_pos h1] at h
   have e : i.toNat = j := Option.some.inj h
   exact ⟨by rw [seqIndex_of h0 h1, e], by omega, by omega, h1⟩
  ·rw [if_neg h1] at h; cases h
 ·rw [if_neg h0] at h
  by_cases h1 : -(n : Int) <= i
  ·rw [if_pos h1] at h
   have e : (i + n).toNat = j := Option.some.inj h
   exact ⟨by rw [seqIndex_neg (by omega) h1, e], by omega, h1, by omega⟩
  ·rw [if_neg h1] at h; cases h
theorem kY {α : Type} {xs : List α} {i : Int} {v : α} (h : fW xs i = some v) : ∃ j, seqIndex? i xs.length = some j /\ xs[j]? = some v /\ j < xs.length /\ -(xs.length : Int) <= i /\ i < xs.length := by
 unfold fW at h
 cases e : qD xs.length i with
 | none => rw [e] at h; cases h
 | some j =>
  rw [e] at h
  obtain ⟨h1, h2, h3, h4⟩ := lC e
  exact ⟨j, h1, h, h2, h3, h4⟩
theorem bi {α : Type} {xs : List α} {j : Nat} {v : α} (h : xs[j]? = some v) : fW xs (j : Int) = some v := by
 have hj : j < xs.length := (List.getElem?_eq_some_iff.mp h).1
 have e : qD xs.length (j : Int) = some j := by
  unfold qD
  rw [if_pos (by omega), if_pos (by omega)]; simp
 unfold fW; rw [e]; exact h
def rM (b : Expr) : Prop := ∀ o i, subscripted b false o i = operate [o, i] (getItem o i)
def Ah (X : Cx) (r : R2) : Prop :=
 ∀ (value slice : Expr) (pins : Pn) (s : Shared) (σ : St) (H : Hp) (x y : V) (v u : Value) (Q : VK), ae X pins σ H s -> aw x v -> aw y u -> r x y H Q ->
  subscripted slice false v u = operate [v, u] (getItem v u) -> wpAny (model X.prog X.w) X.A (subscriptTail value slice v u) (EP X pins σ Q) X.xe s
def MtR (X : Cx) (id : String) (r : V -> List V -> Hp -> VK -> Prop) : Prop :=
 ∀ (pins : Pn) (s : Shared) (σ : St) (H : Hp) (x : V) (xs : List V) (v : Value) (us : List Value) (Q : VK), ae X pins σ H s -> aw x v -> am xs us -> r x xs H Q ->
  wpAny (model X.prog X.w) X.A (call (.builtin id) (v :: us)) (EP X pins σ Q) X.xe s
section
variable {X : Cx} {a b : Expr} {ta tb : TE} {pos : Pos}
theorem aT {r : R2} (hr : Ah X r) (ha : PE X a ta) (hb : PE X b tb) (hs : rM b) : PE X (.Subscript a b pos) (tL r ta tb) := by
 intro pins s σ H Q I h
 exact Subscript_ (tT ha hb I h fun v u s2 x y H2 I2 rx ry q => hr a b pins s2 σ H2 x y v u Q I2 rx ry q (hs _ _))
def wx (K : Fg) : R2 := fun x y H Q => ∃ p xs i v, x = .ref p /\ y = .int i /\ ak K H p xs /\ fW xs i = some v /\ Q v H
def uW (K : Fg) : R2 := fun x y H Q => ∃ p xs i v, x = .ref p /\ y = .int i /\ aH K H p xs /\ fW xs i = some v /\ Q v H
theorem ga : Ah X (wx X.K) := by
 intro value slice pins s σ H x y v u Q I rx ry h hs
 obtain ⟨p, xs, i, z, rfl, rfl, hq, he, q⟩ := h
 cases rx
 obtain ⟨t, rfl⟩ := ry
 obtain ⟨its, r, pl, hz⟩ := I.list hq
 obtain ⟨j, h1, h2, h3, h4, h5⟩ := kY he
 obtain ⟨w, ew, rw'⟩ := r.get h2
 have hl := r.length
 have hn := gC
 have fin : EP X pins σ Q w s := ⟨z, H, I, rw', q⟩
 by_cases h0 : 0 <= i
 ·have hj : i.toNat = j := by
   rw [seqIndex_of h0 h5] at h1
   exact Option.some.inj h1
  exact item_listR pl.isList h0 (by omega) (by rw [hj]; simpa using ew) fin hs
 ·have hj : (i + (its.toArray.size : Int)).toNat = j := by
   rw [seqIndex_neg (by omega) h4] at h1
   rw [List.size_toArray, <- hl]
   exact Option.some.inj h1
  exact subscriptTail_builtinR (x := w) pl.isList.typeIs slot_list_getitem.lookup
   (wpAny_getItem_list_neg (Q := fun r s' => r = w /\ EP X pins σ Q r s') pl.isList (by omega) (by rw [List.size_toArray] <;> omega) (by omega) (by rw [hj]; simpa using ew) ⟨rfl, fin⟩) hs
theorem yW : Ah X (uW X.K) := by
 intro value slice pins s σ H x y v u Q I rx ry h hs
 obtain ⟨p, xs, i, z, rfl, rfl, hq, he, q⟩ := h
 cases rx
 obtain ⟨t, rfl⟩ := ry
 obtain ⟨its, r, pl, hz⟩ := I.tuple hq
 obtain ⟨j, h1, h2, h3, h4, h5⟩ := kY he
 obtain ⟨w, ew, rw'⟩ := r.get h2
 have hl := r.length
 have hn := gC
 have fin : EP X pins σ Q w s := ⟨z, H, I, rw', q⟩
 exact subscriptTail_builtinR (x := w) pl.typeIs slot_tuple_getitem.lookup
  (getItem_tuple (j := j) (Q := fun r s' => r = w /\ EP X pins σ Q r s') pl (by omega) (by omega) (by rw [List.size_toArray, <- hl]; exact h1) (by simpa using ew) ⟨rfl, fin⟩) hs
theorem jG (its : List Value) (n j : Nat) (u : Value) : Obj.mapSeq (·.setIfInBounds j u) { cls := .type "list", data := .seq its.toArray n } = { cls := .type "list", data := .seq (its.set j u).toArray n } := by
 simp [Obj.mapSeq]
theorem ae.lst {pins : Pn} {σ : St} {H : Hp} {s : Shared} {p : Addr} {xs : List V} (I : ae X pins σ H s) (h : H p = some (.lst xs)) :
  ∃ (its : List Value) (n : Nat), am xs its /\ s.heap.get? p = some { cls := .type "list", data := .seq its.toArray n } /\ xs.length <= sizeLine := by
 obtain ⟨z, its, n, r, e⟩ := I.hok p _ h
 exact ⟨its, n, r, e, z⟩
theorem ae.lstUpd {pins : Pn} {σ : St} {H : Hp} {s : Shared} {p : Addr} {xs ys : List V} {its its' : List Value} {n n' : Nat} {f : Obj -> Obj} (I : ae X pins σ H s) (h : H p = some (.lst xs))
  (ho : s.heap.get? p = some { cls := .type "list", data := .seq its.toArray n }) (hf : f { cls := .type "list", data := .seq its.toArray n } = { cls := .type "list", data := .seq its'.toArray n' }) (r : am ys its') (hz : ys.length <= sizeLine) (t : Nat) :
  ae X pins σ (upd H p (.lst ys)) { s with heap := s.heap.update p f, toks := t } := by
 have e : (s.heap.update p f).get? p = some { cls := .type "list", data := .seq its'.toArray n' } := by
  rw [Heap.get?_update_self f ho (by rw [hf] <;> rfl), hf]
 refine I.write (x := p) (e := p) (by rw [h]; trivial) (.inl rfl) (fun b u hb q => (Heap.get?_update_other _ _ (Ne.symm hb)).trans q) ⟨_, e⟩ ?_
 exact ⟨hz, its', n', r, e⟩
def rSetL : V -> V -> V -> Hp -> (Hp -> Prop) -> Prop := fun o i v H Q => ∃ p xs k j, o = .ref p /\ i = .int k /\ H p = some (.lst xs) /\ qD xs.length k = some j /\ Q (upd H p (.lst (xs.set j v)))
theorem iX : yL X rSetL := by
 intro pins s σ H o i v ov iv u Q I ro ri rv h
 obtain ⟨p, xs, k, j, rfl, rfl, hp, hj, q⟩ := h
 cases ro
 obtain ⟨t, rfl⟩ := ri
 obtain ⟨its, n, r, ho, hz⟩ := I.lst hp
 obtain ⟨h1, h2, h3, h4⟩ := lC hj
 have hl := r.length
 have hn := gC
 have I' : ae X pins σ (upd H p (.lst (xs.set j v))) { s with heap := s.heap.update p (Obj.mapSeq (·.setIfInBounds j u)) } :=
  I.lstUpd hp ho (jG its n j u) (r.set rv j) (by rw [List.length_set]; exact hz) s.toks
 by_cases h0 : 0 <= k
 ·have hk : k.toNat = j := by
   rw [seqIndex_of h0 h4] at h1
   exact Option.some.inj h1
  exact PySem.W.ki_setAt ho h0 (by omega) (by rw [List.size_toArray, <- hl]; exact h4) (by rw [hk]; exact ⟨_, I', q⟩)
 ·have hk : (k + (its.toArray.size : Int)).toNat = j := by
   rw [seqIndex_neg (by omega) h3] at h1
   rw [List.size_toArray, <- hl]
   exact Option.some.inj h1
  exact PySem.W.ki_setBack ho (by omega) (by rw [List.size_toArray, <- hl]; exact h3) (by omega) (by rw [hk]; exact ⟨_, I', q⟩)
theorem gL (lo hi : Option Int) (n : Nat) : (sliceBounds lo hi none n).1 = ((HT.sIx n 0 lo : Nat) : Int) /\ (sliceBounds lo hi none n).2.1 = ((HT.sIx n n hi : Nat) : Int) /\ (sliceBounds lo hi none n).2.2 = 1 := by
 refine ⟨?_, ?_, rfl⟩
 ·cases lo with
  | none => simp [sliceBounds, HT.sIx]
  | some i =>
   simp only [sliceBounds, HT.sIx, Option.getD_none, show (1 : Int) > 0 by decide, if_true]
   by_cases h : i < 0
   ·simp only [h, if_true] <;> omega
   ·simp only [h, if_false] <;> omega
 ·cases hi with
  | none => simp [sliceBounds, HT.sIx]
  | some i =>
   simp only [sliceBounds, HT.sIx, Option.getD_none, show (1 : Int) > 0 by decide, if_true]
   by_cases h : i < 0
   ·simp only [h, if_true] <;> omega
   ·simp only [h, if_false] <;> omega
theorem fY (its : List Value) (lo hi : Option Int) : slicePick its.toArray lo hi none = ((its.drop (HT.sIx its.length 0 lo)).take (HT.sIx its.length its.length hi - HT.sIx its.length 0 lo)).toArray := by
 obtain ⟨h1, h2, h3⟩ := gL lo hi its.toArray.size
 unfold slicePick
 rw [h1, h2, h3]
 simp only [sliceRange_one, pick_run, List.size_toArray] <;> rfl
def xF (K : Fg) : V -> Option Int -> Option Int -> Hp -> VK -> Prop := fun x lo hi H Q => ∃ a xs, x = .ref a /\ ak K H a xs /\ ∀ p, H p = none -> Q (.ref p) (upd H p (.lst (jd xs lo hi)))
theorem gQ : SlR X (xF X.K) := by
 intro pins s σ H x v vl vu lo hi sl Q I rx hs pl pu h
 obtain ⟨a, xs, rfl, hx, q⟩ := h
 cases rx
 obtain ⟨its, r, ht, hz⟩ := I.list hx
 have hlen := r.length
 refine ⟨"list", _, slot_list_getitem.lookup, ht.isList.typeIs, ?_⟩
 refine wpAny_getItem_list_slice ht.isList hs pl pu .none (by simp) ?_ (by rw [List.size_toArray] <;> omega)
 rw [fY, <- hlen]
 refine ⟨.ref s.heap.objs.size, _, I.laid (t' := s.toks) (o := .lst (jd xs lo hi)) (fun b ob q => Heap.get?_push_of_some _ q) (Nat.le_refl _) ?_, rfl, q _ (I.hok.fresh (Nat.le_refl _))⟩
 exact ⟨Nat.le_trans (jq xs lo hi) hz, _, 0, (r.drop (HT.sIx xs.length 0 lo)).take (HT.sIx xs.length xs.length hi - HT.sIx xs.length 0 lo), Heap.get?_push_size _ rfl⟩
def dq : V -> Bool
 | .non => true
 | .bl _ => true
 | .int _ => true
 | .str _ => true
 | _ => false
def sA : V -> V -> Bool
 | .non, .non => true
 | .bl a, .bl b => a == b
 | .bl a, .int b => (if a then 1 else 0) == b
 | .int a, .bl b => a == (if b then 1 else 0)
 | .int a, .int b => a == b
 | .str a, .str b => a == b
 | _, _ => false
theorem uH {A : Around} {s : Shared} {y x : V} {u v : Value} (ry : aw y u) (rx : aw x v) (fy : dq y = true) (fx : dq x = true) : SeqAt.EqAt A s u v (sA y x) := by
 cases y with
 | non =>
  cases ry
  cases x with
  | non => cases rx; exact SeqAt.EqAt.same _
  | bl b => cases rx; exact SeqAt.EqAt.none_bool b
  | int b => obtain ⟨t, rfl⟩ := rx; exact SeqAt.EqAt.none_int b t
  | str b => obtain ⟨t, rfl⟩ := rx; exact SeqAt.EqAt.none_str b t
  | _ => exact absurd (show false = true from fx) Bool.false_ne_true
 | bl a =>
  cases ry
  cases x with
  | non => cases rx; exact SeqAt.EqAt.bool_none a
  | bl b => cases rx; exact SeqAt.EqAt.bool_bool a b
  | int b => obtain ⟨t, rfl⟩ := rx; exact SeqAt.EqAt.bool_int a b t
  | str b => obtain ⟨t, rfl⟩ := rx; exact SeqAt.EqAt.bool_str a b t
  | _ => exact absurd (show false = true from fx) Bool.false_ne_true
 | int a =>
  obtain ⟨t', rfl⟩ := ry
  cases x with
  | non => cases rx; exact SeqAt.EqAt.int_none a t'
  | bl b => cases rx; exact SeqAt.EqAt.int_bool a t' b
  | int b => obtain ⟨t, rfl⟩ := rx; exact SeqAt.EqAt.int_int a t' b t
  | str b => obtain ⟨t, rfl⟩ := rx; exact SeqAt.EqAt.int_str a t' b t
  | _ => exact absurd (show false = true from fx) Bool.false_ne_true
 | str a =>
  obtain ⟨t', rfl⟩ := ry
  cases x with
  | non => cases rx; exact SeqAt.EqAt.str_none a t'
  | bl b => cases rx; exact SeqAt.EqAt.str_bool a t' b
  | int b => obtain ⟨t, rfl⟩ := rx; exact SeqAt.EqAt.str_int a t' b t
  | str b => obtain ⟨t, rfl⟩ := rx; exact SeqAt.EqAt.str_str a t' b t
  | _ => exact absurd (show false = true from fx) Bool.false_ne_true
 | _ => exact absurd (show false = true from fy) Bool.false_ne_true
def kC (x : V) (u : Value) : Bool := match u with
 | .none => sA .non x
 | .bool b => sA (.bl b) x
 | .int i _ => sA (.int i) x
 | .str z _ => sA (.str z) x
 | _ => false
theorem nH {x y : V} {u : Value} (r : aw y u) (f : dq y = true) : kC x u = sA y x := by
 cases y with
 | non => cases r; rfl
 | bl b => cases r; rfl
 | int i => obtain ⟨t, rfl⟩ := r; rfl
 | str z => obtain ⟨t, rfl⟩ := r; rfl
 | _ => exact absurd (show false = true from f) Bool.false_ne_true
theorem dG {x : V} : ∀ {xs : List V} {us : List Value}, am xs us -> xs.all dq = true -> us.any (kC x) = xs.any fun y => sA y x
 | _, _, .nil, _ => rfl
 | y :: xs, u :: us, .cons r t, f => by
  rw [List.all_cons, Bool.and_eq_true] at f
  rw [List.any_cons, List.any_cons, nH r f.1, dG t f.2]
theorem cD {A : Around} {s : Shared} {x : V} {v : Value} (rx : aw x v) (fx : dq x = true) : ∀ {xs : List V} {us : List Value}, am xs us -> xs.all dq = true -> ∀ u ∈ us, SeqAt.EqAt A s u v (kC x u)
 | _, _, .nil, _ => fun u hu => by cases hu
 | y :: xs, u :: us, .cons r t, f => fun u' hu => by
  rw [List.all_cons, Bool.and_eq_true] at f
  rcases List.mem_cons.mp hu with rfl | hu
  ·rw [nH r f.1]; exact uH r rx f.1 fx
  ·exact cD rx fx t f.2 u' hu
def wH (x : V) (xs : List V) : Bool := xs.any fun y => sA y x
def wB (K : Fg) (neg : Bool) : R2 := fun x y H Q => ∃ p xs, y = .ref p /\ (ak K H p xs ∨ aH K H p xs) /\ dq x = true /\ xs.all dq = true /\ Q (.bl (if neg then !wH x xs else wH x xs)) H
theorem mW : eQ X (compareOp .In) (wB X.K false) := by
 intro pins s σ H x y v u Q I rx ry h
 obtain ⟨p, xs, rfl, hq, fx, fs, q⟩ := h
 cases ry
 rcases hq with hq | hq
 ·obtain ⟨its, r, pl, hz⟩ := I.list hq
  refine SeqAt.in_listAt (kC x) pl.isList (fun w hw => cD rx fx r fs w (by simpa using hw)) ⟨.bl _, H, I, rfl, ?_⟩
  rw [show its.toArray.any (kC x) = its.any (kC x) by simp, dG r fs]
  exact q
 ·obtain ⟨its, r, pl, hz⟩ := I.tuple hq
  refine SeqAt.in_tupleAt (kC x) pl (fun w hw => cD rx fx r fs w (by simpa using hw)) ⟨.bl _, H, I, rfl, ?_⟩
  rw [show its.toArray.any (kC x) = its.any (kC x) by simp, dG r fs]
  exact q
theorem cw : eQ X (compareOp .NotIn) (wB X.K true) := by
 intro pins s σ H x y v u Q I rx ry h
 obtain ⟨p, xs, rfl, hq, fx, fs, q⟩ := h
 cases ry
 rcases hq with hq | hq
 ·obtain ⟨its, r, pl, hz⟩ := I.list hq
  refine SeqAt.notIn_listAt (kC x) pl.isList (fun w hw => cD rx fx r fs w (by simpa using hw)) ⟨.bl _, H, I, rfl, ?_⟩
  rw [show its.toArray.any (kC x) = its.any (kC x) by simp, dG r fs]
  exact q
 ·obtain ⟨its, r, pl, hz⟩ := I.tuple hq
  refine SeqAt.notIn_tupleAt (kC x) pl (fun w hw => cD rx fx r fs w (by simpa using hw)) ⟨.bl _, H, I, rfl, ?_⟩
  rw [show its.toArray.any (kC x) = its.any (kC x) by simp, dG r fs]
  exact q
theorem aK : cq X (.builtin "len") (fun xs H Q => ∃ p ys, xs = [.ref p] /\ (ak X.K H p ys ∨ aH X.K H p ys) /\ Q (.int ys.length) H) := by
 intro pins s σ H xs us Q I r h
 obtain ⟨p, ys, rfl, hq, q⟩ := h
 obtain ⟨u, rfl, rx⟩ := kQ r
 cases rx
 have hn := gC
 rcases hq with hq | hq
 ·obtain ⟨its, r', pl, hz⟩ := I.list hq
  have hlen := r'.length
  exact Calls.call_len_list pl.isList (by simp only [List.size_toArray] <;> omega) ⟨.int ys.length, H, I.tok _, ⟨s.toks + 1, by rw [List.size_toArray, hlen]⟩, q⟩
 ·obtain ⟨its, r', pl, hz⟩ := I.tuple hq
  have hlen := r'.length
  exact len_tuple pl (by simp only [List.size_toArray] <;> omega) ⟨.int ys.length, H, I.tok _, ⟨s.toks + 1, by rw [List.size_toArray, hlen]⟩, q⟩
theorem dr : cq X (.type "tuple") (fun xs H Q => ∃ p ys, xs = [.ref p] /\ ((ak X.K H p ys /\ ∀ l, H l = none -> Q (.ref l) (upd H l (.tup ys))) ∨ (aH X.K H p ys /\ Q (.ref p) H))) := by
 intro pins s σ H xs us Q I r h
 obtain ⟨p, ys, rfl, h⟩ := h
 obtain ⟨u, rfl, rx⟩ := kQ r
 cases rx
 rcases h with ⟨hq, q⟩ | ⟨hq, q⟩
 ·obtain ⟨its, r', pl, hz⟩ := I.list hq
  have hlen := r'.length
  refine call_tuple_list pl.isList (fun h' kp => ?_) (by simp only [List.size_toArray] <;> omega)
  have I1 : ae X pins σ H { s with heap := h' } := I.kept (t' := s.toks) kp
  have I2 : ae X pins σ (upd H h'.objs.size (.tup ys)) { s with heap := h'.push { cls := .type "tuple", data := .seq its.toArray } } :=
   I1.laid (t' := s.toks) (fun b o e => Heap.get?_push_of_some _ e) (Nat.le_refl _) (show bh X.prog X.w _ _ _ (.tup ys) from ⟨hz, its, r', IsTup.new _ _⟩)
  exact ⟨.ref h'.objs.size, _, I2, rfl, q _ (I1.hok.fresh (Nat.le_refl _))⟩
 ·obtain ⟨its, r', pl, hz⟩ := I.tuple hq
  exact call_tuple_same pl ⟨.ref p, H, I, rfl, q⟩
def wE (K : Fg) (T : String) (x : V) (H : Hp) : Prop := match x with
 | .str _ => T = "str"
 | .int _ => T = "int"
 | .ref p => (T = "list" /\ ∃ xs, ak K H p xs) ∨ (T = "tuple" /\ ∃ o, K.lookup p = some o /\ o.cls = .type "tuple" /\ o.dict = none) ∨
   (T = "dict" /\ ((∃ kvs, H p = some (.dK kvs)) ∨ ∃ kvs, H p = some (.dT kvs))) ∨ (T = "set" /\ ∃ S n, H p = some (.set S n))
 | _ => False
theorem uu {pins : Pn} {σ : St} {H : Hp} {s : Shared} {T : String} {x : V} {v : Value} (I : ae X pins σ H s) (r : aw x v) (ty : wE X.K T x H) :
  s.TypeIs v T /\ ∀ a, v = .ref a -> ∃ ob, s.heap.get? a = some ob /\ ob.dict = none := by
 cases x with
 | str z =>
  obtain ⟨t, rfl⟩ := r
  cases (show T = "str" from ty)
  exact ⟨typeIs_str s z t, fun _ e => nomatch e⟩
 | int i =>
  obtain ⟨t, rfl⟩ := r
  cases (show T = "int" from ty)
  exact ⟨typeIs_int s i t, fun _ e => nomatch e⟩
 | ref p =>
  cases r
  rcases ty with ⟨rfl, xs, hq⟩ | ⟨rfl, o, hk, hc, hd⟩ | ⟨rfl, hk⟩ | ⟨rfl, S, n, hk⟩
  ·obtain ⟨its, _, pl, _⟩ := I.list hq
   refine ⟨pl.isList.typeIs, fun a e => ?_⟩
   cases e
   obtain ⟨o, n, e, c, hd, _⟩ := pl
   exact ⟨o, e, hd⟩
  ·refine ⟨⟨o, I.kIn p o hk, hc⟩, fun a e => ?_⟩
   cases e
   exact ⟨o, I.kIn _ o hk, hd⟩
  ·have z : ∃ o, s.heap.get? p = some o /\ o.ExactDict := by
    rcases hk with ⟨kvs, hk⟩ | ⟨kvs, hk⟩
    ·obtain ⟨_, _, _, _, o, _, _, e, ex, _⟩ := I.hok p _ hk
     exact ⟨o, e, ex⟩
    ·obtain ⟨_, _, _, _, o, _, _, e, ex, _⟩ := I.hok p _ hk
     exact ⟨o, e, ex⟩
   obtain ⟨o, e, ex⟩ := z
   refine ⟨⟨o, e, ex.1⟩, fun a e2 => ?_⟩
   cases e2
   exact ⟨o, e, ex.2.1⟩
  ·obtain ⟨o, _, _, _, e, ex, _⟩ := I.hok p _ hk
   refine ⟨⟨o, e, ex.1⟩, fun a e2 => ?_⟩
   cases e2
   exact ⟨o, e, ex.2.1⟩
 | _ => exact False.elim ty
def zA (K : Fg) (T : String) (r : V -> List V -> Hp -> VK -> Prop) (to : TE) : TE := fun σ H Q => to σ H fun x H1 => wE K T x H1 /\ r x [] H1 Q
def Au (K : Fg) (T : String) (r : V -> List V -> Hp -> VK -> Prop) (to : TE) (t : TA) : TE := fun σ H Q => to σ H fun x H1 => wE K T x H1 /\ t σ H1 fun xs H2 => r x xs H2 Q
variable {o e : Expr} {es : List Expr} {to : TE} {t : TA} {name : Str} {apos cpos : Pos} {T id : String} {r : V -> List V -> Hp -> VK -> Prop}
theorem eM (pa : PlainAttrs T) (slot : Slot T name id) (hty : typeOf (.builtin id) = pure (.type "method_descriptor")) (hm : MtR X id r) (ho : PE X o to) (ha : PA X (e :: es) t)
  (hbase : attributeBase o name X.env (eval o X.env) = eval o X.env := by rfl)
  (hfew : ((backTo cpos (starEach (e :: es) X.env)).all (fun x => !x.1) && (backToKw cpos (keywordEach [] X.env)).all (fun x => x.1.isSome)
   && decide ((e :: es).length + ([] : List Keyword).length + (if ([] : List Keyword).isEmpty then 0 else 1) < 30)) = true := by rfl)
  (hline : (apos.endLine == cpos.line) = true := by rfl) (hs : starEach (e :: es) X.env = (false, eval e X.env) :: starEach es X.env := by rfl) (hplain : (backTo cpos (starEach es X.env)).any (·.1) = false := by rfl) :
  PE X (.Call (.Attribute o name apos) (e :: es) [] cpos) (Au X.K T r to t) := by
 intro pins s σ H Q I h
 refine wpAny_Call_method_late hbase hfew hline rfl (aV (ho pins s σ H _ I h) fun v s1 ⟨x, H1, I1, r1, ty, q1⟩ => ?_)
 obtain ⟨h1, h2⟩ := uu I1 r1 ty
 refine ⟨T, id, pa, slot, hty, h1, h2, ?_⟩
 have hA := ha cpos pins s1 σ H1 _ I1 q1
 rw [hs] at hA ⊢
 refine Calls.callWith_builtin (by show (false || (backTo cpos (starEach es X.env)).any (·.1)) = false; rw [hplain] <;> rfl) (Calls.evalArgs_plain ?_)
 exact aV hA fun us s2 ⟨vs, H2, I2, r2, q2⟩ => hm pins s2 σ H2 x vs v us Q I2 r1 r2 q2
end
end L2
namespace L2
open PySem PySem.Spec PyProof.Rows
def MtM (X : Cx) (id : String) (r : V -> List V -> Hp -> VK -> Prop) : Prop :=
 ∀ (pins : Pn) (s : Shared) (σ : St) (H : Hp) (x : V) (xs : List V) (v : Value) (us : List Value) (Q : VK), ae X pins σ H s -> aw x v -> am xs us -> r x xs H Q ->
  wpAny (model X.prog X.w) X.A (call (.builtin id) (v :: us)) (EP X pins σ Q) X.xe s
theorem am.one : ∀ {x : V} {us : List Value}, am [x] us -> ∃ u, us = [u] /\ aw x u
 | _, _, .cons r .nil => ⟨_, rfl, r⟩
theorem am.two : ∀ {x y : V} {us : List Value}, am [x, y] us -> ∃ u v, us = [u, v] /\ aw x u /\ aw y v
 | _, _, _, .cons r (.cons q .nil) => ⟨_, _, rfl, r, q⟩
theorem am.zero : ∀ {us : List Value}, am [] us -> us = []
 | _, .nil => rfl
theorem am.reverse {xs : List V} {us : List Value} (h : am xs us) : am xs.reverse us.reverse := by
 induction h with
 | nil => exact .nil
 | cons r t ih => rw [List.reverse_cons, List.reverse_cons]; exact am.append ih (.cons r .nil)
section
variable {X : Cx} {pins : Pn} {σ : St} {H : Hp} {s : Shared} {l b : Addr} {xs ys zs : List V}
theorem ae.lset {its its' : List Value} {n : Nat} {f : Array Value -> Array Value} {t' : Nat} (I : ae X pins σ H s) (hH : H l = some (.lst xs))
  (e : s.heap.get? l = some { cls := .type "list", data := .seq its.toArray n }) (hf : f its.toArray = its'.toArray) (hv : am ys its') (hz : ys.length <= sizeLine) :
  ae X pins σ (upd H l (.lst ys)) { s with heap := s.heap.update l (Obj.mapSeq f), toks := t' } := by
 have q := PySem.IsL.update e f
 rw [hf] at q
 refine I.write (x := l) (e := l) (by rw [hH]; exact trivial) (.inl rfl) (fun b' u hb hu => (Heap.get?_update_other s.heap (Obj.mapSeq f) (Ne.symm hb)).trans hu) ⟨_, q⟩ ?_
 exact ⟨hz, its', _, hv, q⟩
theorem ae.lnew {its : List Value} {t' : Nat} (I : ae X pins σ H s) (hv : am ys its) (hz : ys.length <= sizeLine) :
  ae X pins σ (upd H s.heap.objs.size (.lst ys)) { s with heap := s.heap.push { cls := .type "list", data := .seq its.toArray }, toks := t' } :=
 I.laid (fun _ _ q => Heap.get?_push_of_some _ q) (Nat.le_refl _) ⟨hz, its, 0, hv, Heap.get?_push_size _ rfl⟩
theorem ae.fresh (I : ae X pins σ H s) : H s.heap.objs.size = none := I.hok.fresh (Nat.le_refl _)
theorem ae.lstM (I : ae X pins σ H s) (hH : H l = some (.lst xs)) : xs.length <= sizeLine /\ ∃ (its : List Value) (n : Nat), am xs its /\ xs.length = its.length /\ s.heap.get? l = some { cls := .type "list", data := .seq its.toArray n } := by
 obtain ⟨z, its, n, r, e⟩ := I.hok l _ hH
 exact ⟨z, its, n, r, r.length, e⟩
end
section
variable {X : Cx}
def rAppend : V -> List V -> Hp -> VK -> Prop := fun x vs H Q => ∃ l xs y, x = .ref l /\ vs = [y] /\ H l = some (.lst xs) /\ xs.length < sizeLine /\ Q .non (upd H l (.lst (xs ++ [y])))
theorem aQ : MtM X "list.append" rAppend := by
 intro pins s σ H x vs v us Q I rx rv h
 obtain ⟨l, xs, y, rfl, rfl, hH, hz, q⟩ := h
 cases rx
 obtain ⟨u, rfl, ru⟩ := rv.one
 obtain ⟨z, its, n, r, hl, e⟩ := I.lstM hH
 refine call_meets F.slot_list_append ⟨_, e, rfl⟩ F.entry_list_append (F.args_list_append_2 _ _) (PySem.list_append l its.toArray n u (by rw [List.size_toArray]; omega)) ⟨e, ?_⟩
 refine ⟨.non, _, I.lset (its' := its ++ [u]) hH e (by simp) (r.append (.cons ru .nil)) ?_, rfl, q⟩
 rw [List.length_append, List.length_singleton]
 omega
def pq : V -> List V -> Hp -> VK -> Prop := fun x vs H Q => ∃ l xs, x = .ref l /\ vs = [] /\ H l = some (.lst xs) /\ Q .non (upd H l (.lst xs.reverse))
def uh : V -> List V -> Hp -> VK -> Prop := fun x vs H Q => ∃ l xs, x = .ref l /\ vs = [] /\ H l = some (.lst xs) /\ Q .non (upd H l (.lst []))
def Ak : R2 := fun x y H Q => ∃ l k xs, x = .ref l /\ y = .int k /\ H l = some (.lst xs) /\ -(2 ^ 63) <= k /\ k < 2 ^ 63 /\ xs.length * k.toNat <= sizeLine /\
 ∀ p, H p = none -> Q (.ref p) (upd H p (.lst (List.replicate k.toNat xs).flatten))
end
section
variable {prog : Program} {w : World} {A : Around} {E : Value -> Shared -> Prop} {s : Shared}
set_option maxRecDepth 100000 in
end
section
variable {X : Cx}
end
end L2
namespace Att
open PySem PySem.W PySem.Calls PyProof.Rows
theorem ints_of_wellAll {P : Params} {h : Heap} : ∀ (ns : List Int) (vs : List Value), WellAll P h vs (ns.map WData.int) -> IntsAre vs ns := by
 intro ns
 induction ns with
 | nil =>
  intro vs w
  rw [List.map_nil] at w
  cases w
  exact .nil
 | cons n ns ih =>
  intro vs w
  rw [List.map_cons] at w
  cases w with
  | cons a b =>
   cases a
   exact .cons _ _ (ih _ b)
theorem script_of {l : OpenLaw} {n : Nat} (hn : l.most = some n) {P : Params} {h : Heap} {args : List WData} {vals : List Value}
  (hpre : l.row.toRowW.claim.pre args = true) (hwl : WellAll P h vals args) :
  ∃ a vs ns, vals = [Value.ref a] /\ args = [WData.list (ns.map WData.int)] /\ h.get? a = some { cls := .type "list", data := .seq vs.toArray } /\ IntsAre vs ns /\ ns.length <= n := by
 have hsh : WShape.hasAll [] args [.list .int] = true := (pre_splitW hpre).1
 have hc : l.pre.holds [] { args := args } = true := (pre_splitW hpre).2
 obtain ⟨d, r, rfl, h1, h2⟩ := hasAllW_cons hsh
 obtain rfl := hasAllW_nil h2
 obtain ⟨xs, rfl, h3⟩ := hasW_list h1
 obtain ⟨ns, rfl⟩ := items_int h3
 have hlen : ns.length <= n := by
  unfold OpenLaw.pre at hc
  have h4 : (WTm.not (.lt (.lit (.int (n : Int))) (.len (.arg 0)))).holds [] { args := [.list (ns.map .int)] } = true := by
   have h4 := (holds_andW hc).1
   rw [hn] at h4
   exact h4
  have h5 := condW_of h4 (w_not (w_lt w_lit (w_len_list (w_arg rfl))))
  rw [List.length_map] at h5
  refine Nat.le_of_not_lt fun q => ?_
  have q' : (n : Int) < ((ns.length : Nat) : Int) := by omega
  first
   | (rw [decide_eq_true q'] at h5; exact absurd h5 (by decide))
   | (simp at h5; omega)
 cases hwl with
 | cons w1 w2 =>
  cases w2
  cases w1 with
  | list ho hall => exact ⟨_, _, ns, rfl, rfl, ho, ints_of_wellAll ns _ hall, hlen⟩
theorem post_true (l : OpenLaw) (args : List WData) : l.row.toRowW.claim.post args (.bool true) args = true :=
 postW_of (r := l.row.toRowW) (X := (true == true))
  (show WShape.has [] (.bool true) .bool = true by first | rfl | decide | simp [WShape.has, WShape.arms, WShape.armsAll])
  (show (WTm.eq .res (.lit (.bool true))).value [] { args := args, res := some (.bool true), after := args } = some (.bool (true == true)) from w_eq_bool (w_res rfl) w_lit) rfl
theorem attach_call {l : OpenLaw} {n : Nat} {q : Program} {loose : List Str} {XP : (Str -> Option Value) -> Heap -> Prop} {YP : World -> Heap -> Prop} {d : DefRec}
  (hn : l.most = some n) (hdf : d.params.defaults = [])
  (call : ∀ (w : World) (s₀ s₁ : Shared) (mg mb : Str -> Option Value) (fa : Addr) (o : Obj) (pm cd doc : Value) (a : Addr) (vs : List Value) (ns : List Int),
   Ground q loose [] XP w s₀ mg mb s₁.heap -> YP w s₁.heap ->
   s₁.heap.get? fa = some o -> o.data = .func (docDef d.name d.params d.body d.scope pm cd doc) -> s₁.heap.CodeRec cd d.name -> mg d.name = some (.ref fa) ->
   s₁.heap.get? a = some { cls := .type "list", data := .seq vs.toArray } -> IntsAre vs ns -> ns.length <= n -> s₁.gens = #[] ->
   codeAny (model l.prog w) callerA (.call (.ref fa) ⟨[.ref a], []⟩) (fun r s' => r = .ok (.ret (.bool true)) /\ OldK s₁.heap s'.heap /\ s'.os = s₁.os /\ AllBare s'.gens) s₁) :
  WalkO q loose XP YP l.row.toRowW d [] (fun f vs => PySem.call f vs) := by
 intro w s₀ s₁ mg mb G Y fa o pm cd doc dV kV ho hd hcd hD hmg hg args vals as hpre hlay hrd hwl hlo
 obtain rfl : dV = .none := Dflts.none hD hdf
 obtain rfl : kV = .none := Dflts.noKw hD
 obtain ⟨a, vs, ns, rfl, rfl, hobj, hints, hlen⟩ := script_of hn hpre hwl
 refine enter_call (codeAny_mono (call w s₀ s₁ mg mb fa o pm cd doc a vs ns G Y ho (fd_plain hd) hcd hmg hobj hints hlen hg) fun r s' hq => ?_)
 obtain ⟨rfl, h2, h3, h4⟩ := hq
 exact ⟨.inl ⟨.bool true, .bool true, [], rfl, fun _ => rfl, .bool true, post_true l _, fun _ => ⟨List.Pairwise.nil, fun _ hm => (nomatch hm)⟩⟩, h2, h3, h4⟩
section
variable {prog : Program} {w : World} {A : Around} {E : Value -> Shared -> Prop} {s : Shared} {K : Frag}
end
end Att
namespace L2
open PySem PySem.Spec PyProof.Rows
theorem gu : ∀ {vs : List Value} {ns : List Int}, IntsAre vs ns -> am (ns.map V.int) vs
 | _, _, .nil => .nil
 | _, _, .cons n t h => .cons ⟨t, rfl⟩ (gu h)
def qo (H : Hp) : Prop := ∀ b, H b = none ∨ ∃ o xs, H b = some (.frz o (.lst xs))
theorem iw {P : Program} {w : World} {K : Fg} {mg mb : Str -> Option Value} {CX : CXT} {k : Nat} {fa a : Addr} {fd : FuncData} {x : Str} {sp : Sp} {s₁ : Shared} {vs : List Value} {ns : List Int}
  (KX : K.In s₁.heap) (hns : s₁.heap.Ns mainGlobals mg) (hb : s₁.heap.Ns builtinsNs mb) (hbb : ∀ x : Str, x ≠ "__name__" -> mb x = bootBuiltins x) (hlim : s₁.heap.NoLimit) (hg : s₁.gens = #[])
  (ha : s₁.heap.get? a = some { cls := .type "list", data := .seq vs.toArray }) (hi : IntsAre vs ns) (hl : ns.length <= sizeLine) (hr : bL k callerA)
  (F : ∀ base : Heap, K.In base -> base.Ns mainGlobals mg -> bA P w K mg base CX k fa fd [x] sp) (hbind : ∀ (s : Shared) (u : Value), BindsTo s fd ⟨[u], []⟩ [(x, u)])
  (hsp : ∀ H : Hp, qo H -> ak K H a (ns.map V.int) -> sp [.ref a] H (fun v _ => v = .bl true) fun _ _ _ => False)
  (hCX : ∀ H e s', CX [] H s₁ (fun _ _ _ => False) e s' -> False) :
  codeAny (model P w) callerA (.call (.ref fa) ⟨[.ref a], []⟩) (fun r s' => r = .ok (.ret (.bool true)) /\ OldK s₁.heap s'.heap /\ s'.os = s₁.os /\ AllBare s'.gens) s₁ := by
 have rv := gu hi
 have lenV := hi.length
 have core : ∀ H : Hp, qo H -> ak K H a (ns.map V.int) -> eP P w H s₁.heap -> (∀ b, H b ≠ none -> b = a) -> (H a ≠ none -> K.lookup a = none) ->
   codeAny (model P w) callerA (.call (.ref fa) ⟨[.ref a], []⟩) (fun r s' => r = .ok (.ret (.bool true)) /\ OldK s₁.heap s'.heap /\ s'.os = s₁.os /\ AllBare s'.gens) s₁ := by
  intro H hO hS hok hA hK
  have base_of : ∀ {b : Addr} {o : Obj}, s₁.heap.get? b = some o -> H b = none -> (hX s₁.heap H).get? b = some o := fun e n => oO e n
  have noA : ∀ {b : Addr} {o : Obj} {es : Array DictEntry} {ep : Nat}, s₁.heap.get? b = some o -> o.data = .dict es ep -> H b = none := fun {b o es ep} e d => by
   cases q : H b with
   | none => rfl
   | some u =>
    have e' : b = a := hA b (by rw [q]; simp)
    subst e'
    rw [ha] at e; cases e
    have d' : Data.seq vs.toArray _ = Data.dict es ep := d
    cases d'
  have nsK : ∀ {b : Addr} {m : Str -> Option Value}, s₁.heap.Ns b m -> (hX s₁.heap H).Ns b m := fun {b m} ⟨o, es, ep, e, d, r⟩ => ⟨o, es, ep, base_of e (noA e d), d, r⟩
  have hKb : K.In (hX s₁.heap H) := fun b o e => base_of (KX b o e) (by
   cases q : H b with
   | none => rfl
   | some u =>
    have e' : b = a := hA b (by rw [q]; simp)
    subst e'
    rw [hK (by rw [q]; simp)] at e; cases e)
  have hM : Mod K mg (hX s₁.heap H) := ⟨hKb, nsK hns, ⟨mb, nsK hb, hbb⟩, let ⟨mc, h1, h2⟩ := hlim; ⟨mc, nsK h1, h2⟩⟩
  have e0 : jU P w K mg (hX s₁.heap H) callerA [] s₁ H := ⟨rfl, hM, fun b o e => qU e, Nat.le_of_eq (mT _ _), trivial, fun b hb => absurd (show b ∈ ([] : List Addr) from hb) (by simp), hok, .of_eq hg⟩
  refine codeAny_mono ((F _ hKb (nsK hns)).run callerA [] s₁ H ⟨[.ref a], []⟩ [.ref a] [.ref a] _ _ hr e0 (hbind s₁ (.ref a)) (.cons rfl .nil) (hsp H hO hS)) fun r s' h => ?_
  cases r with
  | error e => exact (hCX H e s' h).elim
  | ok fl =>
   cases fl with
   | next => exact False.elim h
   | brk => exact False.elim h
   | cont => exact False.elim h
   | ret u =>
    obtain ⟨v, H', os, bare, un, hok', r', q⟩ := h
    have q' : v = .bl true := q
    subst q'
    obtain rfl : u = Value.bool true := r'
    refine ⟨rfl, OldK.of_keep fun b o e => ?_, os, bare⟩
    cases q : H b with
    | none => exact un.keep b o e q (by intro z; exact absurd (show b ∈ ([] : List Addr) from z) (by simp)) (by simp)
    | some u =>
     rcases hO b with z | ⟨ob, xs, z⟩
     ·rw [q] at z; cases z
     ·have z2 := un.frzs b ob _ z
      obtain ⟨e1, _⟩ := hok b _ z
      obtain ⟨e2, _⟩ := hok' b _ z2
      rw [e] at e1; cases e1
      exact e2
 cases hk : K.lookup a with
 | some o =>
  have e := KX a o hk
  rw [ha] at e
  cases e
  refine core (fun _ => none) (fun _ => .inl rfl) (.inr ⟨_, vs.toArray, _, hk, rfl, rfl, rfl, by rw [List.size_toArray, lenV]; exact hl, by simpa using rv⟩) (fun b u z => by have z' : (none : Option HO) = some u := z; cases z') (fun b z => absurd rfl z) fun z => absurd rfl z
 | none =>
  refine core (fun b => if b = a then some (.frz { cls := .type "list", data := .seq vs.toArray } (.lst (ns.map V.int))) else none) (fun b => ?_) (.inl (.inr ⟨{ cls := .type "list", data := .seq vs.toArray }, if_pos rfl⟩)) (fun b u z => ?_) (fun b z => ?_) fun _ => hk
  ·by_cases hb : b = a
   ·exact .inr ⟨_, _, if_pos hb⟩
   ·exact .inl (if_neg hb)
  ·by_cases hb : b = a
   ·have z' := (if_pos hb).symm.trans z
    cases z'
    subst hb
    exact ⟨ha, by rw [List.length_map]; exact hl, vs, _, rv, ha⟩
   ·have z' := (if_neg hb).symm.trans z
    cases z'
  ·by_cases hb : b = a
   ·exact hb
   ·exact absurd (if_neg hb) z
end L2
namespace L2
open PySem PySem.Spec PyProof.Rows
abbrev KOf {K : Fg} {h : Heap} (_ : K.In h) : Fg := K
theorem yX {l : PySem.W.OpenLaw} {n k : Nat} {q : Program} {loose : List Str} {XP : (Str -> Option Value) -> Heap -> Prop} {YP : World -> Heap -> Prop} {d : DefRec} {K : Params -> Fg} {CX : World -> CXT} {sp : World -> Sp} {x : Str}
  (hn : l.most = some n) (hn2 : n <= sizeLine) (hdf : d.params.defaults = []) (hr : bL k callerA)
  (hY : ∀ (w : World) (h : Heap), YP w h -> (K w.params).In h)
  (F : ∀ (w : World) (mg : Str -> Option Value) (fa : Addr) (h : Heap), (K w.params).In h -> h.Ns mainGlobals mg -> mg d.name = some (.ref fa) ->
   ∃ fd : FuncData, (∀ (s : Shared) (u : Value), BindsTo s fd ⟨[u], []⟩ [(x, u)]) /\
    ∀ base : Heap, (K w.params).In base -> base.Ns mainGlobals mg -> bA l.prog w (K w.params) mg base (CX w) k fa fd [x] (sp w))
  (hsp : ∀ (w : World) (H : Hp) (a : Addr) (ns : List Int), ns.length <= n -> qo H -> ak (K w.params) H a (ns.map V.int) -> sp w [.ref a] H (fun v _ => v = .bl true) fun _ _ _ => False)
  (hCX : ∀ (w : World) (H : Hp) (s : Shared) (e : Value) (s' : Shared), CX w [] H s (fun _ _ _ => False) e s' -> False) :
  PySem.W.WalkO q loose XP YP l.row.toRowW d [] (fun f vs => PySem.call f vs) := by
 refine Att.attach_call hn hdf fun w s₀ s₁ mg mb fa o pm cd doc a vs ns G Y ho hd hcd hmg hobj hints hlen hg => ?_
 have KX := hY w _ Y
 obtain ⟨fd, hb, hF⟩ := F w mg fa _ KX G.T.g hmg
 exact iw KX G.T.g G.T.b G.T.builtins G.T.nolimit hg hobj hints (Nat.le_trans hlen hn2) hr hF hb (fun H hO hS => hsp w H a ns hlen hO hS) fun H e s' => hCX w H s₁ e s'
end L2
namespace L2
open PySem PySem.Spec PyProof.Rows
def cS (s : Stmt) : Arguments := match s with
 | .FunctionDef _ a _ _ _ _ _ _ _ _ => a
 | _ => { posonlyargs := [], args := [], vararg := none, kwonlyargs := [], kw_defaults := [], kwarg := none, defaults := [] }
def cv (s : Stmt) : List Stmt := match s with
 | .FunctionDef _ _ b _ _ _ _ _ _ _ => b
 | _ => []
def ai (s : Stmt) : Scope := match s with
 | .FunctionDef _ _ _ _ _ _ sc _ _ _ => sc
 | _ => { kind := .function, names := [], isGenerator := false, isCoroutine := false }
abbrev iq : CXT := fun _ _ _ _ _ _ => False
abbrev E0 : XK := fun _ _ _ => False
theorem aU {X : Cx} : jW iq X E0 := fun _ _ _ _ _ _ _ h => h.elim
structure iW (K : Fg) (x qual : Str) (st : Stmt) (f : Addr) (fd : FuncData) : Prop where
 ex : ∃ (oc : Value) (od : Option Addr) (kV doc pm : Value) (an : Option Addr) (cdv ct : Value) (osl : Array (Option Value)),
  fd = PySem.W.fnOf x qual (cS st) (cv st) (ai st) .none kV doc pm an cdv ct /\ K.lookup f = some ⟨oc, od, .func fd, osl⟩ /\ PySem.W.codeIn K cdv qual = true
 kp : PySem.W.keepIn K (.ref f) = true
section
variable {P : Program} {w : World} {K : Fg} {mg : Str -> Option Value} {base : Heap}
theorem iW.ok {x qual : Str} {st : Stmt} {f : Addr} {fd : FuncData} {N ps : List Str} {k : Nat} {sp : Sp} (F : iW K x qual st f fd) (S : aM N ps (ai st)) (len : ∀ vs H Q E, sp vs H Q E -> vs.length = ps.length)
  (hbody : ∀ (cdv : Value) (A : Around) (outer : List Env) (s : Shared) (H : Hp) (vs : List V) (Q : VK) (E : XK), bL k (A.deeper (envOfC qual (ai st) s.heap.objs.size f cdv)) -> sp vs H Q E ->
   ∃ t, nA (iQ iq P w K mg base N qual (ai st) f cdv A outer s H E).nox (cv st) t /\ t { nx := fun _ H' => Q .non H', rt := Q } (bS N vs) H) : bA P w K mg base iq (k + 1) f fd ps sp := by
 obtain ⟨oc, od, kV, doc, pm, an, cdv, ct, osl, rfl, lk, hcd⟩ := F.ex
 refine yG lk hcd S len fun A outer s H vs Q E hr hsp => ?_
 obtain ⟨t, h, q⟩ := hbody cdv A outer s H vs Q E hr hsp
 exact ⟨t, h.nox, q⟩
theorem iW.binds {x qual : Str} {st : Stmt} {f : Addr} {fd : FuncData} {ps : List Str} (F : iW K x qual st f fd)
  (h : ∀ (kV doc pm : Value) (an : Option Addr) (cdv ct : Value) (us : List Value), us.length = ps.length -> bindArgs (PySem.W.fnOf x qual (cS st) (cv st) (ai st) .none kV doc pm an cdv ct) ⟨us, []⟩ = pure (ps.zip us)) : bF K fd ps [] := by
 obtain ⟨oc, od, kV, doc, pm, an, cdv, ct, osl, rfl, lk, hcd⟩ := F.ex
 exact .all (h kV doc pm an cdv ct)
theorem bK {x qual : Str} {st : Stmt} {f : Addr} {oc : Value} {od an : Option Addr} {osl : Array (Option Value)} {kV doc pm cdv ct : Value} (l : K.lookup f = some ⟨oc, od, .func (PySem.W.fnOf x qual (cS st) (cv st) (ai st) .none kV doc pm an cdv ct), osl⟩)
  (c : PySem.W.codeIn K cdv qual = true) (k : PySem.W.keepIn K (.ref f) = true) : iW K x qual st f (PySem.W.fnOf x qual (cS st) (cv st) (ai st) .none kV doc pm an cdv ct) := ⟨⟨oc, od, kV, doc, pm, an, cdv, ct, osl, rfl, l, c⟩, k⟩
end
section
variable {X : Cx}
theorem pv (i : Nat) {x : Str} {pos : Pos} (hN : X.N[i]? = some x := by rfl) (hv : wG X.env.scope x := by first | exact Or.inl rfl | exact Or.inr (Or.inl rfl) | exact Or.inr (Or.inr rfl)) (hd : (x == ("__debug__" : Str)) = false := by decide)
  (hcd : (x == ("__classdict__" : Str)) = false := by decide) : PE X (.Name x pos) (ku i) := tF hN hv hd hcd
end
theorem mM {A B : Prop} (h : B) : if false = true then A else B := by
 rw [if_neg Bool.false_ne_true]
 exact h
theorem mN {A B : Prop} (h : A) : if true = true then A else B := by
 rw [if_pos rfl]
 exact h
theorem Aw {c A B : Prop} [Decidable c] (h1 : c -> A) (h2 : ¬ c -> B) : if c then A else B := by
 by_cases h : c
 ·rw [if_pos h]
  exact h1 h
 ·rw [if_neg h]
  exact h2 h
def aa (H H' : Hp) : Prop := ∀ b o, H b = some o -> H' b = some o
theorem aa.refl (H : Hp) : aa H H := fun _ _ h => h
theorem aa.trans {H H1 H2 : Hp} (a : aa H H1) (b : aa H1 H2) : aa H H2 := fun c o h => b c o (a c o h)
theorem aa.free {H H' : Hp} (e : aa H H') {l : Addr} (h : H' l = Option.none) : H l = Option.none := by
 cases q : H l with
 | none => rfl
 | some o =>
  rw [e l o q] at h
  cases h
theorem aa.seq {K : Fg} {H H' : Hp} {a : Addr} {xs : List V} (e : aa H H') (h : ak K H a xs) : ak K H' a xs := by
 rcases h with (h | ⟨o, h⟩) | h
 ·exact .inl (.inl (e _ _ h))
 ·exact .inl (.inr ⟨o, e _ _ h⟩)
 ·exact .inr h
end L2
set_option maxHeartbeats 4000000
namespace My
def Bd (n : Nat) (x : Int) : Prop := x.natAbs < 2 ^ n
theorem Bd.mono {m n : Nat} {x : Int} (h : Bd m x) (hn : m <= n) : Bd n x := Nat.lt_of_lt_of_le h (Nat.pow_le_pow_right (by decide) hn)
theorem Bd.neg {n : Nat} {x : Int} (h : Bd n x) : Bd n (-x) := by unfold Bd at *; rw [Int.natAbs_neg]; exact h
theorem Bd.mul {m n : Nat} {x y : Int} (h : Bd m x) (g : Bd n y) : Bd (m + n) (x * y) := by
 unfold Bd at *
 rw [Int.natAbs_mul, Nat.pow_add]
 exact Nat.mul_lt_mul'' h g
theorem Bd.add {n : Nat} {x y : Int} (h : Bd n x) (g : Bd n y) : Bd (n + 1) (x + y) := by
 unfold Bd at *
 rw [Nat.pow_succ]
 have := Int.natAbs_add_le x y
 omega
theorem Bd.sub {n : Nat} {x y : Int} (h : Bd n x) (g : Bd n y) : Bd (n + 1) (x - y) := by
 rw [Int.sub_eq_add_neg]; exact h.add g.neg
theorem Bd.mod {n : Nat} {x y : Int} (hy : 0 < y) (g : Bd n y) : Bd n (x % y) := by
 unfold Bd at *
 have h1 := Int.emod_nonneg x (Int.ne_of_gt hy)
 have h2 := Int.emod_lt_of_pos x hy
 omega
theorem Bd.of_le {n : Nat} {x y : Int} (g : Bd n y) (h0 : 0 <= x) (h : x <= y) : Bd n x := by
 unfold Bd at *
 omega
theorem jD (x y : Int) (hy : 0 < y) : y * (x / y) <= x /\ x < y * (x / y) + y := by
 have h1 := Int.mul_ediv_add_emod x y
 have h2 := Int.emod_nonneg x (Int.ne_of_gt hy)
 have h3 := Int.emod_lt_of_pos x hy
 omega
theorem Bd.div {n : Nat} {x y : Int} (hy : 0 < y) (g : Bd n x) : Bd n (x / y) := by
 unfold Bd at *
 refine Nat.lt_of_le_of_lt ?_ g
 obtain ⟨h1, h2⟩ := jD x y hy
 rcases Int.lt_or_le (x / y) 0 with h | h
 ·
  have h3 : y * (x / y + 1) <= 1 * (x / y + 1) := Int.mul_le_mul_of_nonpos_right (by omega) (by omega)
  rw [Int.mul_add, Int.mul_one, Int.one_mul] at h3
  omega
 ·have h3 : 1 * (x / y) <= y * (x / y) := Int.mul_le_mul_of_nonneg_right (by omega) h
  rw [Int.one_mul] at h3
  omega
end My
namespace My
def sg (t m : Int) : Int := if m < 0 then -((Int.gcd t m : Nat) : Int) else ((Int.gcd t m : Nat) : Int)
end My
namespace L2
open PySem PySem.Spec PyProof.Rows
abbrev yZ (x : Int) : Prop := My.Bd 4000 x
section
variable {X : Cx}
theorem eZ : eQ X (binaryOp .Mult) (rI (fun i j => yZ i /\ yZ j) fun i j => .int (i * j)) := wK fun _ _ _ _ _ _ _ hc q =>
 mul_int q (IntMulOk.of_le (PySem.intBits_le_iff.mpr hc.1) (PySem.intBits_le_iff.mpr hc.2) (by decide))
theorem iV {j : Int} (h : yZ j) : j.natAbs.log2 < 9000 := by
 by_cases h0 : j.natAbs = 0
 ·rw [h0]; decide +kernel
 ·have h1 : j.natAbs.log2 < 4000 := (Nat.log2_lt h0).mpr h
  omega
theorem dJ : eQ X (binaryOp .FloorDiv) (rI (fun _ j => 0 < j /\ yZ j) fun i j => .int (i / j)) := wK fun i j _ _ _ _ _ hc q => by
 have h1 : (0 : Int) < j := hc.1
 exact floordiv_int (by omega) (by rw [Int.fdiv_eq_ediv_of_nonneg i (by omega)]; exact q) (.inl (PyProof.noPylong_of_log2 (iV hc.2)))
end
theorem oF : bootBuiltins "int" = some (.type "int") := by decide +kernel
theorem gZ : bootBuiltins "list" = some (.type "list") := by decide +kernel
theorem jo : bootBuiltins "tuple" = some (.type "tuple") := by decide +kernel
theorem fZ : bootBuiltins "isinstance" = some (.builtin "isinstance") := by decide +kernel
inductive Tg where
 | non | bl | int | str | tup | lst | dic
def uM (K : Fg) (H : Hp) : V -> Tg -> Prop
 | .non, .non => True
 | .bl _, .bl => True
 | .int _, .int => True
 | .str _, .str => True
 | .ref a, .tup => ∃ xs, aH K H a xs
 | .ref a, .lst => ∃ xs, ak K H a xs
 | .ref a, .dic => ∃ kvs, H a = some (.dK kvs)
 | _, _ => False
def Tg.isInt : Tg -> Bool
 | .int => true | .bl => true | _ => false
def Tg.isBool : Tg -> Bool
 | .bl => true | _ => false
def Tg.isStr : Tg -> Bool
 | .str => true | _ => false
def Tg.isTup : Tg -> Bool
 | .tup => true | _ => false
def Tg.isLst : Tg -> Bool
 | .lst => true | _ => false
def fF (K : Fg) (n : String) (f : Tg -> Bool) : List V -> Hp -> VK -> Prop := fun xs H Q => ∃ x g, xs = [x, .ty n] /\ uM K H x g /\ Q (.bl (f g)) H
section
variable {X : Cx}
theorem tI {n : String} {f : Tg -> Bool}
  (h1 : ∀ {A : Around} {E : Value -> Shared -> Prop} {s : Shared} {Q : Value -> Shared -> Prop}, (∀ t, Q (.bool (f .non)) { s with toks := t }) -> wpAny (model X.prog X.w) A (call (.builtin "isinstance") [.none, .type n]) Q E s)
  (h2 : ∀ {A : Around} {E : Value -> Shared -> Prop} {s : Shared} {Q : Value -> Shared -> Prop} {b : Bool}, (∀ t, Q (.bool (f .bl)) { s with toks := t }) -> wpAny (model X.prog X.w) A (call (.builtin "isinstance") [.bool b, .type n]) Q E s)
  (h3 : ∀ {A : Around} {E : Value -> Shared -> Prop} {s : Shared} {Q : Value -> Shared -> Prop} {b : Int} {u : Tok}, (∀ t, Q (.bool (f .int)) { s with toks := t }) -> wpAny (model X.prog X.w) A (call (.builtin "isinstance") [.int b u, .type n]) Q E s)
  (h4 : ∀ {A : Around} {E : Value -> Shared -> Prop} {s : Shared} {Q : Value -> Shared -> Prop} {b : Str} {u : Tok}, (∀ t, Q (.bool (f .str)) { s with toks := t }) -> wpAny (model X.prog X.w) A (call (.builtin "isinstance") [.str b u, .type n]) Q E s)
  (h5 : ∀ {A : Around} {E : Value -> Shared -> Prop} {s : Shared} {Q : Value -> Shared -> Prop} {a : Addr} {o : Obj}, s.heap.get? a = some o -> o.cls = .type "tuple" -> (∀ t, Q (.bool (f .tup)) { s with toks := t }) -> wpAny (model X.prog X.w) A (call (.builtin "isinstance") [.ref a, .type n]) Q E s)
  (h6 : ∀ {A : Around} {E : Value -> Shared -> Prop} {s : Shared} {Q : Value -> Shared -> Prop} {a : Addr} {o : Obj}, s.heap.get? a = some o -> o.cls = .type "list" -> (∀ t, Q (.bool (f .lst)) { s with toks := t }) -> wpAny (model X.prog X.w) A (call (.builtin "isinstance") [.ref a, .type n]) Q E s)
  (h7 : ∀ {A : Around} {E : Value -> Shared -> Prop} {s : Shared} {Q : Value -> Shared -> Prop} {a : Addr} {o : Obj}, s.heap.get? a = some o -> o.cls = .type "dict" -> (∀ t, Q (.bool (f .dic)) { s with toks := t }) -> wpAny (model X.prog X.w) A (call (.builtin "isinstance") [.ref a, .type n]) Q E s) :
  cq X (.builtin "isinstance") (fF X.K n f) := by
 intro pins s σ H xs us Q I r h
 obtain ⟨x, g, rfl, e, q⟩ := h
 obtain ⟨u, w, rfl, rx, rw'⟩ := oV r
 cases rw'
 have fin : ∀ k : Bool, Q (.bl k) H -> ∀ t, EP X pins σ Q (.bool k) { s with toks := t } := fun k q t => ⟨.bl k, H, I.tok t, rfl, q⟩
 cases x with
 | non => cases g <;> first | exact (show False from e).elim | (cases rx; exact h1 (fin _ q))
 | bl b => cases g <;> first | exact (show False from e).elim | (cases rx; exact h2 (fin _ q))
 | int i => cases g <;> first | exact (show False from e).elim | (obtain ⟨t, rfl⟩ := rx; exact h3 (fin _ q))
 | str y => cases g <;> first | exact (show False from e).elim | (obtain ⟨t, rfl⟩ := rx; exact h4 (fin _ q))
 | ref a =>
  cases rx
  cases g with
  | tup =>
   obtain ⟨xs, hx⟩ := (show ∃ xs, aH X.K H a xs from e)
   obtain ⟨its, _, ⟨o, ho, hc, _⟩, _⟩ := I.tuple hx
   exact h5 ho hc (fin _ q)
  | lst =>
   obtain ⟨xs, hx⟩ := (show ∃ xs, ak X.K H a xs from e)
   obtain ⟨its, _, ⟨o, n, ho, hc, _⟩, _⟩ := I.list hx
   exact h6 ho hc (fin _ q)
  | dic =>
   obtain ⟨kvs, hx⟩ := (show ∃ kvs, H a = some (.dK kvs) from e)
   obtain ⟨_, _, vs, _, o, es, ep, ho, hc, _⟩ := (show bh X.prog X.w H s.heap a (.dK kvs) from I.hok a _ hx)
   exact h7 ho hc.1 (fin _ q)
  | non => exact (show False from e).elim
  | bl => exact (show False from e).elim
  | int => exact (show False from e).elim
  | str => exact (show False from e).elim
 | _ => exact (show False from e).elim
theorem fm : cq X (.builtin "isinstance") (fF X.K "list" Tg.isLst) := tI (fun q => IsiPair.NoneType_list (q _)) (fun q => IsiPair.bool_list (q _)) (fun q => IsiPair.int_list (q _)) (fun q => IsiPair.str_list (q _))
 (fun ho hc q => call_isinstance (isinstance_false_tuple (by decide) PySem.F.isi_meta_list PySem.F.sub_tuple_list) ⟨⟨_, ho, hc⟩, q _⟩) (fun ho hc q => call_isinstance (isinstance_true (Tx := "list") PySem.F.isi_meta_list PySem.F.sub_list_list) ⟨⟨_, ho, hc⟩, q _⟩) (fun ho hc q => call_isinstance (isinstance_false_dict (by decide) PySem.F.isi_meta_list PySem.F.sub_dict_list) ⟨⟨_, ho, hc⟩, q _⟩)
theorem ko {e : Expr} {te : TE} {n : Str} {T : String} {f : Tg -> Bool} {p p2 pos : Pos} (hc : cq X (.builtin "isinstance") (fF X.K T f)) (hg : Gl X "isinstance") (hg2 : Gl X n) (hm : X.mg "isinstance" = none) (hm2 : X.mg n = none) (hb : bootBuiltins n = some (.type T)) (he : PE X e te)
  (hn : n ≠ "__name__" := by decide) (hd : (n == ("__debug__" : Str)) = false := by decide)
  (hs1 : starEach [e, .Name n p2] X.env = (false, eval e X.env) :: starEach [.Name n p2] X.env := by rfl) (hs2 : starEach [.Name n p2] X.env = (false, eval (.Name n p2) X.env) :: starEach [] X.env := by rfl)
  (hpl : (backTo pos (starEach [.Name n p2] X.env)).any (·.1) = false := by rfl) :
  PE X (.Call (.Name "isinstance" p) [e, .Name n p2] [] pos) (sy (fF X.K T f) (br te (br (tC (.ty T)) tNil))) :=
 aX hc hg hm fZ (af he (af (qO (v := .ty T) hg2 hm2 hb rfl hn hd) aB hs2) hs1) (by decide) (by decide) hs1 hpl
end
def xp (lo c : Int) (n : Nat) : It := ⟨fun i _ => i < n, fun i H x H' => H' = H /\ x = .int (lo + (i : Nat) * c), fun i _ => n <= i⟩
def yN (i j c : Int) : Nat := (Builtin.Range.rangeSize i j c).toNat
def xI (ta : TA) : TI := fun σ H R => ta σ H fun vs H1 => ∃ i j c : Int, vs = [.int i, .int j, .int c] /\ 0 < c /\ c < 1073741824 /\ Builtin.Range.small i j c = true /\ R (xp i c (yN i j c)) H1
section
variable {X : Cx} {tg : Expr}
end
theorem aa.new {H : Hp} {p : Addr} (h : H p = none) (o : HO) : aa H (upd H p o) := fun b u q => by rw [ac (aO q h)]; exact q
theorem aa.tup {K : Fg} {H H' : Hp} {a : Addr} {xs : List V} (e : aa H H') (h : aH K H a xs) : aH K H' a xs := by
 rcases h with (h | ⟨o, h⟩) | h
 ·exact .inl (.inl (e _ _ h))
 ·exact .inl (.inr ⟨o, e _ _ h⟩)
 ·exact .inr h
section
variable {X : Cx}
end
end L2
namespace PySem
def Heap.TrX (h base : Heap) (e : Addr) (cls : Value) (dx : Option Addr) (fl : Value) : Prop :=
 ∃ (x : Obj) (vs : Array Value) (T : Addr) (y : Obj) (ts : Array Value), h.get? e = some x /\ (x.cls = cls /\ x.dict = dx /\ (dx = none -> vs[2]? = some .none)) /\ x.data = .fields vs /\ vs[1]? = some (.ref T) /\ base.get? T = none /\ T ≠ e /\
  h.get? T = some y /\ y.data = .fields ts /\ ts[3]? = some fl
def Heap.OnX (base : Heap) (l : List Env) (e : Addr) (cls : Value) (dx : Option Addr) (fl : Value) (h : Heap) : Prop := base.StaysIn h /\ base.get? e = none /\ h.FunFrames base l /\ h.TrX base e cls dx fl
abbrev Heap.FlyX (base : Heap) (l : List Env) (e : Addr) (cls : Value) (dx : Option Addr) (h : Heap) : Prop := Heap.OnX base l e cls dx .none h
section
variable {M : Model} {A : Around} {E : Value -> Shared -> Prop} {s : Shared} {base : Heap} {env : Env} {outer l : List Env} {L e : Addr} {cls : Value} {dx : Option Addr} {Q : Unit -> Shared -> Prop}
theorem Heap.OnX.there {h : Heap} {fl : Value} (z : Heap.OnX base l e cls dx fl h) : ∃ ob, h.get? e = some ob /\ ob.cls = cls := by
 obtain ⟨_, _, _, x, _, _, _, _, he, hc, _⟩ := z
 exact ⟨x, he, hc.1⟩
end
end PySem
namespace L2
open PySem PySem.Spec PyProof.Rows
def CXe (P : Program) (w : World) : CXT := fun outer H s E e s' => ∃ (a C : Addr) (dx : Option Addr) (H' : Hp) (B : Heap),
 e = .ref a /\ s'.os = s.os /\ AllBare s'.gens /\ Un (gB outer) [] H H' s.heap s'.heap /\ eP P w H' B /\ Heap.FlyX B outer a (.ref C) dx s'.heap /\
 (∀ b o, s.heap.get? b = some o -> H b = none -> b ∉ gB outer -> B.get? b = some o) /\ (∀ b o, s.heap.get? b = some o -> b ∉ gB outer -> ∃ o', B.get? b = some o') /\ E (.ref C) dx H'
section
variable {P : Program} {w : World} {K : Fg} {mg : Str -> Option Value} {base : Heap} {N : List Str} {qual : Str} {scope : Scope} {f : Addr} {cd : Value} {A : Around} {outer : List Env} {s : Shared} {H : Hp} {E : XK}
 {pins : Pn} {σ : St} {H1 : Hp} {s1 : Shared}
end
section
variable {X : Cx} {E : XK} {x : Str} {np cpos pos : Pos} {e0 : Expr} {es : List Expr} {t : TA} {C : Addr}
end
section
variable {X : Cx} {pins : Pn} {σ : St} {H H' : Hp} {s s' : Shared}
end
section
variable {X : Cx} {pins : Pn} {σ : St} {H : Hp} {s s' : Shared} {E : XK} {ex : Value} {x : Str} {T : Addr} {np hpos : Pos} {b0 : Stmt} {suite : List Stmt} {ts : TS} {D : cP} {Q0 : Hp -> Prop}
end
section
variable {X : Cx} {k : Nat} {f : Addr} {fd : FuncData} {ps : List Str} {sp : Sp} {dvs : List V} {ds : List Value} {fx x cx : Str} {p cpos px apos np hpos pos : Pos} {e : Expr} {es : List Expr} {t : TA} {T : Addr} {b0 : Stmt} {suite : List Stmt} {ts : TS} {i : Nat}
end
end L2
namespace L2
open PySem PySem.Spec PyProof.Rows
section
variable {prog : Program} {w : World} {A : Around} {R : Result -> Shared -> Prop} {s : Shared}
abbrev NB (prog : Program) (w : World) (A : Around) (env : Env) (R : Result -> Shared -> Prop) : Value -> Shared -> Prop := notedBy (model prog w) A env fun e s' => R (.error e) s'
theorem lT {elt tg iter : Expr} {scope : Scope} {pos : Pos} {itv acc : Value} {env : Env} (J : Nat -> Shared -> Prop)
  (turn : ∀ n s, J n s -> wpAny (model prog w) A (pyNext itv) (fun r s1 => match r with
   | none => R (.ok .next) s1
   | some v => wpAny (model prog w) A (letOwnedTupleGo tg itv v) (fun _ s2 => wpAny (model prog w) A (assign tg env v) (fun _ s3 => wpAny (model prog w) A (eval elt env) (fun x s4 =>
     wpAny (model prog w) A (call (.builtin "list.append") [acc, x]) (fun _ s5 => ∃ m, m < n /\ J m s5) (NB prog w A env R) s4) (NB prog w A env R) s3) (NB prog w A env R) s2) (NB prog w A env R) s1) (NB prog w A env R) s)
  (n : Nat) (h : J n s) : codeAny (model prog w) A (.compLoop (.ListComp elt [⟨tg, iter, [], 0⟩] scope pos) 0 itv acc env) R s := by
 refine codeAny_loop rfl J (fun n s hJ => ?_) n h
 show wpAny _ _ ((compTurn (.ListComp elt [⟨tg, iter, [], 0⟩] scope pos) 0 itv acc env).onRaise (fun x => do noteFrame x env; theTreesLotGoes x)) _ _ s
 refine wpAny_noted ?_
 rw [compTurn_list1]
 refine wpAny_bind (wpAny_standAt (wpAny_bind (wpAny_mono (turn n s hJ) (fun r s1 z => ?_) fun _ _ q => q)))
 match r, z with
 | none, z => exact wpAny_pure z
 | some v, z =>
  exact wpAny_bind (wpAny_mono z (fun _ s2 z => wpAny_bind (wpAny_mono z (fun _ s3 z => wpAny_bind (wpAny_bind (wpAny_mono z (fun x s4 z =>
   wpAny_bind (wpAny_mono z (fun _ s5 z => wpAny_pure (wpAny_pure ⟨rfl, z⟩)) fun _ _ q => q)) fun _ _ q => q))) fun _ _ q => q)) fun _ _ q => q)
end
theorem cu {env : Env} : ∀ (names : List (Str × NameKind)) (acc : List (Str × Addr)), (∀ y ∈ names, y.2 = .free -> ∃ c, env.cells.lookup y.1 = some c) -> (∀ x c, acc.lookup x = some c -> env.cells.lookup x = some c) ->
  ∃ cl, (forIn names acc (fun (x : Str × NameKind) cs => if (x.2 == NameKind.free) = true then (do let __do_lift <- cellOf env x.1; pure (ForInStep.yield ((x.1, __do_lift) :: cs))) else pure (ForInStep.yield cs)) : Sem (List (Str × Addr))) = pure cl /\
   (∀ x c, cl.lookup x = some c -> env.cells.lookup x = some c) /\ (∀ x, (∃ c, acc.lookup x = some c) -> ∃ c, cl.lookup x = some c) /\ ∀ y ∈ names, y.2 = .free -> ∃ c, cl.lookup y.1 = some c
 | [], acc, _, ha => ⟨acc, rfl, ha, fun _ h => h, fun _ h => nomatch h⟩
 | y :: r, acc, hn, ha => by
  by_cases hf : y.2 = .free
  ·obtain ⟨c, hc⟩ := hn y List.mem_cons_self hf
   obtain ⟨cl, e, h1, h2, h3⟩ := cu r ((y.1, c) :: acc) (fun z hz => hn z (List.mem_cons_of_mem _ hz)) (fun x d e => by
    rw [List.lookup_cons] at e
    cases q : x == y.1 with
    | true => rw [q] at e; cases e; rw [eq_of_beq q]; exact hc
    | false => rw [q] at e; exact ha x d e)
   refine ⟨cl, ?_, h1, fun x ⟨d, hd⟩ => h2 x ?_, fun z hz zf => ?_⟩
   ·rw [List.forIn_cons, if_pos (by rw [hf]; rfl)]
    have ec : cellOf env y.1 = pure c := by unfold cellOf; rw [hc]
    rw [ec]
    exact e
   ·rw [List.lookup_cons]
    cases q : x == y.1 with
    | true => exact ⟨c, rfl⟩
    | false => exact ⟨d, hd⟩
   ·rcases List.mem_cons.mp hz with z1 | z1
    ·subst z1
     exact h2 z.1 ⟨c, by rw [List.lookup_cons, beq_self_eq_true]⟩
    ·exact h3 z z1 zf
  ·obtain ⟨cl, e, h1, h2, h3⟩ := cu r acc (fun z hz => hn z (List.mem_cons_of_mem _ hz)) ha
   refine ⟨cl, ?_, h1, h2, fun z hz zf => ?_⟩
   ·rw [List.forIn_cons, if_neg (by simpa using hf)]
    exact e
   ·rcases List.mem_cons.mp hz with z1 | z1
    ·subst z1; exact absurd zf hf
    ·exact h3 z z1 zf
theorem fS {env : Env} {sc : Scope} (h : ∀ y ∈ sc.names, y.2 = .free -> ∃ c, env.cells.lookup y.1 = some c) :
  ∃ cl, closureFor sc env = pure cl /\ (∀ x c, cl.lookup x = some c -> env.cells.lookup x = some c) /\ ∀ y ∈ sc.names, y.2 = .free -> ∃ c, cl.lookup y.1 = some c := by
 obtain ⟨cl, e, h1, _, h3⟩ := cu sc.names [] h (fun x c e => by simp at e)
 refine ⟨cl, ?_, h1, h3⟩
 unfold closureFor
 simp only [e]
 rfl
structure ki (X : Cx) (tg : Str) (sc : Scope) (fr : List (Str × Nat)) : Prop where
 kind : sc.kind = .function
 nocell : ∀ y ∈ sc.names, y.2 ≠ .cell
 locs : ∀ y ∈ sc.names, y.2 = .local -> sc.names.lookup y.1 = some .local
 tgl : sc.names.lookup tg = some .local
 fre : ∀ y ∈ sc.names, y.2 = .free -> X.env.scope.names.lookup y.1 = some .cell ∨ X.env.scope.names.lookup y.1 = some .free
 nd : (tg :: fr.map (·.1)).Nodup
 vis : ∀ p ∈ fr, X.N[p.2]? = some p.1 /\ (X.env.scope.names.lookup p.1 = some .cell ∨ X.env.scope.names.lookup p.1 = some .free) /\ sc.names.lookup p.1 = some .free
abbrev Cx.blk (X : Cx) (Nc : List Str) (sc : Scope) (cl : List (Str × Addr)) (C : Addr) (s3 : Shared) (H3 : Hp) (fp : List Addr) : Cx :=
 { X with N := Nc, s₀ := s3, H₀ := H3, env := compEnvC sc cl C X.env, outer := X.stack, ex := fp, fn := fun _ => false, pn := [], xe := fun _ _ => False }
theorem bq {env : Env} : ∀ {names : List (Str × NameKind)} {x : Str} {k : NameKind}, (∀ y ∈ names, y.2 ≠ .cell) -> (k = .cell ∨ k = .free) ->
  (names.map fun (n, k) => if (k == NameKind.free && env.scope.kind == .function && env.kindOf n == some .cell) then (n, NameKind.cell) else (n, k)).lookup x = some k -> ∃ y ∈ names, y.1 = x /\ y.2 = .free
 | [], _, _, _, _, e => by simp at e
 | (n, k') :: r, x, k, hn, hk, e => by
  have ih := @bq env r x k (fun y hy => hn y (List.mem_cons_of_mem _ hy)) hk
  rw [List.map_cons] at e
  by_cases hc : (k' == NameKind.free && env.scope.kind == .function && env.kindOf n == some .cell) = true
  ·simp only [hc, if_true, List.lookup_cons] at e
   cases q : x == n with
   | true =>
    have hf : k' = .free := by
     simp only [Bool.and_eq_true, beq_iff_eq] at hc
     exact hc.1.1
    exact ⟨(n, k'), List.mem_cons_self, (eq_of_beq q).symm, hf⟩
   | false =>
    rw [q] at e
    obtain ⟨y, h1, h2⟩ := ih e
    exact ⟨y, List.mem_cons_of_mem _ h1, h2⟩
  ·simp only [hc, Bool.false_eq_true, if_false, List.lookup_cons] at e
   cases q : x == n with
   | true =>
    rw [q] at e
    have ek : k' = k := Option.some.inj e
    rcases hk with z | z
    ·exact absurd (ek.trans z) (hn (n, k') List.mem_cons_self)
    ·exact ⟨(n, k'), List.mem_cons_self, (eq_of_beq q).symm, ek.trans z⟩
   | false =>
    rw [q] at e
    obtain ⟨y, h1, h2⟩ := ih e
    exact ⟨y, List.mem_cons_of_mem _ h1, h2⟩
theorem bj {env : Env} : ∀ {names : List (Str × NameKind)} {x : Str}, names.lookup x = some .free ->
  (names.map fun (n, k) => if (k == NameKind.free && env.scope.kind == .function && env.kindOf n == some .cell) then (n, NameKind.cell) else (n, k)).lookup x = some .cell ∨
  (names.map fun (n, k) => if (k == NameKind.free && env.scope.kind == .function && env.kindOf n == some .cell) then (n, NameKind.cell) else (n, k)).lookup x = some .free
 | [], _, e => by simp at e
 | (n, k') :: r, x, e => by
  have ih := @bj env r x
  rw [List.map_cons]
  rw [List.lookup_cons] at e
  by_cases hc : (k' == NameKind.free && env.scope.kind == .function && env.kindOf n == some .cell) = true
  ·simp only [hc, if_true, List.lookup_cons]
   cases q : x == n with
   | true => exact .inl rfl
   | false => rw [q] at e; exact ih e
  ·simp only [hc, Bool.false_eq_true, if_false, List.lookup_cons]
   cases q : x == n with
   | true => rw [q] at e; exact .inr e
   | false => rw [q] at e; exact ih e
section
variable {X : Cx} {pins : Pn} {σ : St} {H : Hp} {s3 s4 : Shared} {tg : Str} {sc : Scope} {fr : List (Str × Nat)} {fp : List Addr} {cl : List (Str × Addr)}
def cO (σ : St) (fr : List (Str × Nat)) : St := fr.map fun p => (σ[p.2]?).join
theorem mE (ok : ki X tg sc fr) (I : ae X pins σ H s3) (hf : ∀ b ∈ fp, dL X pins H b) (hfo : ∀ b ∈ fp, ∃ o, s3.heap.get? b = some o) (hk : ∀ x c, cl.lookup x = some c -> X.env.cells.lookup x = some c) (hc : ∀ y ∈ sc.names, y.2 = .free -> ∃ c, cl.lookup y.1 = some c)
  {h4 : Heap} {t4 : Nat} (hns : ∃ m, h4.Ns s3.heap.objs.size m) (hkeep : ∀ b o, s3.heap.get? b = some o -> h4.get? b = some o) :
  ae (X.blk (tg :: fr.map (·.1)) sc cl s3.heap.objs.size s3 H fp) [] (none :: cO σ fr) H { s3 with heap := h4, toks := t4 } := by
 have hasc : ∀ x, ((relabel sc X.env).names.lookup x = some .cell ∨ (relabel sc X.env).names.lookup x = some .free) -> ∃ c, cl.lookup x = some c := fun x hx => by
  obtain ⟨y, h1, h2, h3⟩ : ∃ y ∈ sc.names, y.1 = x /\ y.2 = .free := by
   rcases hx with z | z
   ·exact bq ok.nocell (.inl rfl) z
   ·exact bq ok.nocell (.inr rfl) z
  subst h2
  exact hc y h1 h3
 have cell4 : ∀ x c, cl.lookup x = some c -> ∀ v, s3.heap.IsCell c v -> h4.IsCell c v := fun x c _ v ⟨o, ho, hd⟩ => ⟨o, hkeep c o ho, hd⟩
 have fresh : H s3.heap.objs.size = none := I.hok.fresh (Nat.le_refl _)
 refine ⟨⟨I.mod, ok.kind, I.ok.glob, I.ok.blt, Nat.le_refl _, fun x y c e1 e2 => I.ok.inj x y c (hk x c e1) (hk y c e2), hasc, (fun x c e => nomatch e), I.ok.hd, I.ok.frames, .inl rfl, fun b hb => ?_, I.bs, Nat.le_trans I.ok.bsz I.sz, fun b o e hb => ?_, fun b hb z => ?_, I.stack, I.stkFree⟩,
  rfl, I.bare, Un.kept hkeep, ?_, fun x c e => ?_, fresh, fun x c e => I.freeC x c (hk x c e), (fun p hp => nomatch hp), I.hok.kept hkeep, ?_⟩
 ·obtain ⟨f0, f1, f2, f3, f4, f5⟩ := hf b hb
  refine ⟨fun z => ?_, fun x c e => f4 x c (hk x c e)⟩
  obtain ⟨o, eo⟩ := hfo b hb
  have z' : b = s3.heap.objs.size := z
  rw [z'] at eo
  exact absurd (Heap.lt_size eo) (Nat.lt_irrefl _)
 ·obtain ⟨f0, f1, f2, f3, f4, f5⟩ := hf b hb
  rcases f3 with z | z
  ·exact I.ok.noex b o e z
  ·exact absurd (Nat.lt_of_lt_of_le (Nat.lt_of_lt_of_le (Heap.lt_size e) I.ok.bsz) z) (Nat.lt_irrefl _)
 ·obtain ⟨f0, f1, f2, f3, f4, f5⟩ := hf b hb
  rcases List.mem_cons.mp (I.stkSub b z) with q | q
  ·exact f1 q
  ·exact f2 q
 ·obtain ⟨m, hn⟩ := hns
  obtain ⟨m0, _, hl0⟩ := I.loc
  refine ⟨m, hn, fun i x v e1 e2 _ => ?_⟩
  cases i with
  | zero => cases e2
  | succ i =>
   have e2' : ((fr.map fun p => (σ[p.2]?).join))[i]? = some (some v) := e2
   have e1' : (fr.map (·.1))[i]? = some x := e1
   rw [List.getElem?_map] at e1' e2'
   cases q : fr[i]? with
   | none => rw [q] at e1'; cases e1'
   | some p =>
    rw [q] at e1' e2'
    have ex : p.1 = x := Option.some.inj e1'
    have ev : (σ[p.2]?).join = some v := Option.some.inj e2'
    obtain ⟨g1, g2, g3⟩ := ok.vis p (List.mem_of_getElem? q)
    have ev' : σ[p.2]? = some (some v) := by
     cases z : σ[p.2]? with
     | none => rw [z] at ev; cases ev
     | some w => rw [z] at ev; exact congrArg some ev
    have gv : wG X.env.scope p.1 := g2.elim (fun z => .inr (.inl z)) fun z => .inr (.inr z)
    obtain ⟨u, ru, lk⟩ := hl0 p.2 p.1 v g1 ev' gv
    subst ex
    refine ⟨u, ru, .inr ⟨bj g3, ?_⟩⟩
    rcases lk with ⟨k1, _⟩ | ⟨_, c, ec, hcell⟩
    ·rcases g2 with z | z
     ·have k2 : X.env.scope.names.lookup p.1 = some .local := k1
      rw [z] at k2; cases k2
     ·have k2 : X.env.scope.names.lookup p.1 = some .local := k1
      rw [z] at k2; cases k2
    ·obtain ⟨c', ec'⟩ := hasc p.1 (bj g3)
     have e3 := hk _ _ ec'
     rw [ec] at e3
     cases e3
     exact ⟨c, ec', cell4 _ c ec' _ hcell⟩
 ·obtain ⟨v, z⟩ := I.cell x c (hk x c e)
  exact ⟨v, cell4 x c e v z⟩
 ·show (none :: cO σ fr).length = (tg :: fr.map (·.1)).length
  simp [cO]
end
def xM (fr : List (Str × Nat)) (wi : TI) (te : TE) : TE := fun σ H Q => wi σ H fun J H1 => ∀ acc, H1 acc = none -> ∃ W : Nat -> Nat -> Hp -> Prop, (∃ m, W 0 m (upd H1 acc (.lst []))) /\ ∀ i m H2, W i m H2 ->
 (J.stop i H2 /\ Q (.ref acc) H2) ∨ (J.go i H2 /\ ∀ x H3, J.yld i H2 x H3 -> te (some x :: cO σ fr) H3 fun v H4 => ∃ xs m', H4 acc = some (.lst xs) /\ xs.length < sizeLine /\ m' < m /\ W (i + 1) m' (upd H4 acc (.lst (xs ++ [v]))))
section
variable {X : Cx} {elt iter : Expr} {x : Str} {px pos : Pos} {sc : Scope} {fr : List (Str × Nat)} {wi : TI} {te : TE}
theorem sw (hc : X.calm = true) (ok : ki X x sc fr) (hi : PI X (.Name x px) iter wi) (he : ∀ cl C s3 H3 fp, PE (X.blk (x :: fr.map (·.1)) sc cl C s3 H3 fp) elt te) (hs : ∀ x, foldedSetIterable iter X.env x = pure x := by intro _; rfl) :
  PE X (.ListComp elt [⟨.Name x px, iter, [], 0⟩] sc pos) (xM fr wi te) := by
 intro pins s σ H Q I h
 obtain ⟨cl, ecl, hk, hcx⟩ := fS (env := X.env) (sc := sc) (fun y hy yf => I.ok.has y.1 (ok.fre y hy yf))
 rw [eval_ListComp]
 refine wpAny_comprehension_free (use := none) rfl hs ecl ok.kind ok.locs (aV (hi pins s σ H _ I h) fun v s1 h1 => aV h1 fun itv s2 h2 => ?_)
 obtain ⟨it, fp, tn, J, H2, e, I2, T, st2, f2, q⟩ := h2
 subst e
 have hacc : H2 s2.heap.objs.size = none := I2.hok.fresh (Nat.le_refl _)
 obtain ⟨W, ⟨m0, w0⟩, turn⟩ := q s2.heap.objs.size hacc
 refine wpAny_newObj_type ?_
 have I3 := I2.laid (a := s2.heap.objs.size) (o := .lst []) (h' := s2.heap.push { cls := .type "list", data := .seq ([] : List Value).toArray }) (t' := s2.toks) (fun b u e => Heap.get?_push_of_some _ e) (Nat.le_refl _) ⟨Nat.zero_le _, [], 0, .nil, Heap.get?_push_size _ rfl⟩
 refine wpAny_newFunctionEnv ok.nocell (by intro y hy; simp at hy) (fun h4 hns4 hsb4 => ?_) ok.kind
 generalize hs3 : ({ s2 with heap := s2.heap.push { cls := .type "list", data := .seq ([] : List Value).toArray } } : Shared) = s3 at *
 have keep4 : ∀ b o, s3.heap.get? b = some o -> h4.get? b = some o := fun b o e => hsb4.extBut b o (Nat.ne_of_lt (Heap.lt_size e)) (Heap.get?_push_of_some _ e)
 have keep3 : ∀ b o, s2.heap.get? b = some o -> s3.heap.get? b = some o := fun b o e => by rw [<- hs3]; exact Heap.get?_push_of_some _ e
 have hfo : ∀ b ∈ fp, ∃ o, s3.heap.get? b = some o := fun b hb => by
  obtain ⟨o, eo, _⟩ := T.obj 0 _ st2 b hb
  exact ⟨o, keep3 b o eo⟩
 have f3 : ∀ b ∈ fp, dL X pins (upd H2 s2.heap.objs.size (.lst [])) b := fun b hb => by
  obtain ⟨o, eo, _⟩ := T.obj 0 _ st2 b hb
  exact ⟨by rw [ac (Nat.ne_of_lt (Heap.lt_size eo))]; exact (f2 b hb).1, (f2 b hb).2⟩
 have I4 := mE (t4 := s3.toks + ([] : List (Str × Value)).length) ok I3 f3 hfo hk hcx ⟨_, hns4⟩ keep4
 have st4 : tn 0 h4 := T.keep 0 s2.heap h4 st2 fun b hb o e => keep4 b o (keep3 b o e)
 have stat : ∀ {H' : Hp}, (∀ b ∈ fp, H' b = none) -> ∀ b ∈ fp, dL (X.blk (x :: fr.map (·.1)) sc cl s3.heap.objs.size s3 (upd H2 s2.heap.objs.size (.lst [])) fp) [] H' b := fun hn b hb =>
  ⟨hn b hb, (I4.ok.exf b hb).1, I4.ok.exfs b hb, .inl hb, (I4.ok.exf b hb).2, fun p hp => nomatch hp⟩
 have lk : (relabel sc X.env).names.lookup x = some .local := lookup_relabel_local ok.tgl
 have loop : codeAny (model X.prog X.w) X.A (.compLoop (.ListComp elt [⟨.Name x px, iter, [], 0⟩] sc pos) 0 (.ref it) (.ref s2.heap.objs.size) (compEnvC sc cl s3.heap.objs.size X.env))
   (compPost (model X.prog X.w) X.A X.xe none (EP X pins σ Q) (.ref s2.heap.objs.size) s3.heap.objs.size) { s3 with heap := h4, toks := s3.toks + ([] : List (Str × Value)).length } := by
  refine lT (fun n s' => ∃ i x0 H', ae (X.blk (x :: fr.map (·.1)) sc cl s3.heap.objs.size s3 (upd H2 s2.heap.objs.size (.lst [])) fp) [] (x0 :: cO σ fr) H' s' /\ tn i s'.heap /\ (∀ b ∈ fp, H' b = none) /\ W i n H') ?_ m0
   ⟨0, none, _, I4, st4, fun b hb => (f3 b hb).1, w0⟩
  rintro n s5 ⟨i, x0, H5, I5, st5, fr5, w5⟩
  rcases turn i n H5 w5 with ⟨stop, qq⟩ | ⟨go, step⟩
  ·refine aV (T.done (X.blk (x :: fr.map (·.1)) sc cl s3.heap.objs.size s3 (upd H2 s2.heap.objs.size (.lst [])) fp) rfl rfl rfl hc i [] s5 _ H5 _ I5 (stat fr5) st5 stop) fun r s6 ⟨hr, I6⟩ => ?_
   subst hr
   obtain ⟨m6, hn6, _⟩ := I6.loc
   refine ⟨m6, hn6, fun h7 hsb7 => ?_⟩
   have ne : ∀ b o, s3.heap.get? b = some o -> b ≠ s3.heap.objs.size := fun b o e => Nat.ne_of_lt (Heap.lt_size e)
   have u6 : Un (gB X.stack) fp (upd H2 s2.heap.objs.size (.lst [])) H5 s3.heap s6.heap := I6.base
   have u7 : Un (gB X.stack) fp (upd H2 s2.heap.objs.size (.lst [])) H5 s3.heap h7 := {
    keep := fun b o e n hb hx => hsb7.extBut b o (ne b o e) (u6.keep b o e n hb hx)
    slot := fun b o e n hb hx => by
     obtain ⟨sl, e1⟩ := u6.slot b o e n hb hx
     exact ⟨sl, hsb7.extBut b _ (ne b o e) e1⟩
    free := u6.free
    there := fun b o e hx => by
     obtain ⟨o', e1⟩ := u6.there b o e hx
     exact ⟨o', hsb7.extBut b _ (ne b o e) e1⟩
    tups := u6.tups
    frzs := u6.frzs
    tbls := u6.tbls }
   have hok7 : eP X.prog X.w H5 h7 := fun b u eu => (I6.hok b u eu).stay (fun c v hcx q => hsb7.extBut c v (fun z => by
    have nf := I6.free
    have z' : H5 s3.heap.objs.size = none := nf
    rw [<- z] at z'
    rcases hcx with y | y
    ·rw [y, eu] at z'; cases z'
    ·rw [y] at z'; cases z') q) (fun _ q => q) fun _ _ q => q
   have os6 : s6.os = s3.os := I6.os
   have bare6 := I6.bare
   obtain ⟨hh, g, d, t, os'⟩ := s6
   obtain rfl : os' = s3.os := os6
   refine ⟨.ref s2.heap.objs.size, H5, ?_, rfl, qq⟩
   show ae X pins σ H5 { s3 with heap := h7, gens := g, drawn := d, toks := t }
   exact I3.call (h' := h7) (g' := g) (d' := d) (t' := t) (ch := fp) u7 hok7 bare6 fun b hb => ⟨(f3 b hb).2.2.2.1, (f3 b hb).2.1, (f3 b hb).2.2.2.2.1, (f3 b hb).2.2.2.2.2⟩
  ·refine aV (T.item (X.blk (x :: fr.map (·.1)) sc cl s3.heap.objs.size s3 (upd H2 s2.heap.objs.size (.lst [])) fp) rfl rfl rfl hc i [] s5 _ H5 _ I5 (stat fr5) st5 go) fun r s6 ⟨u, hr, h6⟩ => ?_
   subst hr
   refine aV h6 fun _ s7 ⟨y, H7, I7, r7, y7, st7, fr7⟩ => ?_
   have I7' := I7.pinned (stat fr7) (T.obj _ _ st7)
   refine wpAny_mono (aL (X := X.blk (x :: fr.map (·.1)) sc cl s3.heap.objs.size s3 (upd H2 s2.heap.objs.size (.lst [])) fp) (i := 0) (pos := px) ok.nd rfl (Or.inl lk) (.inr lk) _ s7 _ H7 y u (fun σ' H' => σ' = some y :: cO σ fr /\ H' = H7) I7' r7 ⟨rfl, rfl⟩) (fun _ s8 z => ?_) (fun e s z => (show False from z).elim)
   obtain ⟨σ8, H8, I8, e8, e8'⟩ := z
   subst e8 e8'
   refine wpAny_mono (he cl s3.heap.objs.size s3 (upd H2 s2.heap.objs.size (.lst [])) fp _ s8 _ H8 _ I8 (step y H8 y7)) (fun v s9 z => ?_) (fun e s z => (show False from z).elim)
   obtain ⟨z, H9, I9, r9, xs, m', ha, hl, hm, w9⟩ := z
   refine wpAny_mono (aQ (X := X.blk (x :: fr.map (·.1)) sc cl s3.heap.objs.size s3 (upd H2 s2.heap.objs.size (.lst [])) fp) _ s9 _ H9 (.ref s2.heap.objs.size) [z] (.ref s2.heap.objs.size) [v] (fun _ H' => H' = upd H9 s2.heap.objs.size (.lst (xs ++ [z]))) I9 rfl (.cons r9 .nil) ⟨_, xs, z, rfl, rfl, ha, hl, rfl⟩) (fun _ s10 z => ?_) (fun e s z => (show False from z).elim)
   obtain ⟨_, H10, I10, _, e10⟩ := z
   subst e10
   refine ⟨m', hm, i + 1, some y, _, I10.unpinned, T.keep _ _ _ st7 fun b hb o e => (I10.pin (b, o) (List.mem_append_right _ (List.mem_append_right _ (bC hb e)))).1, fun b hb => ?_, w9⟩
   obtain ⟨o, e, d⟩ := T.obj _ _ st7 b hb
   exact (I10.pin (b, o) (List.mem_append_right _ (List.mem_append_right _ (bC hb e)))).2.1
 exact codeAny_compStart_list loop (T.self X.A 0 _ _ _ st4 loop)
end
end L2
namespace L2
open PySem PySem.Spec PyProof.Rows
section
variable {X : Cx}
end
def uE (iy : Nat) (fr : List (Str × Nat)) (wi : TI) (te : TE) : TS := fun D σ H => xM fr wi te σ H fun v H' => D.nx (σ.set iy (some v)) H'
section
variable {X : Cx} {elt iter : Expr} {x : Str} {px pos : Pos} {sc : Scope} {fr : List (Str × Nat)} {wi : TI} {te : TE}
end
end L2
namespace L2
open PySem PySem.Spec PyProof.Rows
def gM (osc : Scope) (N : List Str) (tg : Str) (sc : Scope) (fr : List (Str × Nat)) : Bool :=
 decide (sc.kind = .function) && (sc.names.all fun y => decide (y.2 ≠ .cell)) && (sc.names.all fun y => decide (y.2 ≠ .local) || decide (sc.names.lookup y.1 = some .local)) && decide (sc.names.lookup tg = some .local) &&
 (sc.names.all fun y => decide (y.2 ≠ .free) || decide (osc.names.lookup y.1 = some .cell) || decide (osc.names.lookup y.1 = some .free)) && decide ((tg :: fr.map (·.1)).Nodup) &&
 (fr.all fun p => decide (N[p.2]? = some p.1) && (decide (osc.names.lookup p.1 = some .cell) || decide (osc.names.lookup p.1 = some .free)) && decide (sc.names.lookup p.1 = some .free))
theorem er {X : Cx} {tg : Str} {sc : Scope} {fr : List (Str × Nat)} {osc : Scope} {N : List Str} (ho : X.env.scope = osc) (hN : X.N = N) (h : gM osc N tg sc fr = true) : ki X tg sc fr := by
 subst ho hN
 unfold gM at h
 simp only [Bool.and_eq_true, decide_eq_true_eq, List.all_eq_true, Bool.or_eq_true] at h
 obtain ⟨⟨⟨⟨⟨⟨h1, h2⟩, h3⟩, h4⟩, h5⟩, h6⟩, h7⟩ := h
 refine ⟨h1, h2, fun y hy e => ?_, h4, fun y hy e => ?_, h6, fun p hp => ?_⟩
 ·rcases h3 y hy with z | z
  ·exact absurd e z
  ·exact z
 ·rcases h5 y hy with (z | z) | z
  ·exact absurd e z
  ·exact .inl z
  ·exact .inr z
 ·obtain ⟨⟨a, b⟩, c⟩ := h7 p hp
  exact ⟨a, b, c⟩
end L2
namespace L2
open PySem
end L2
namespace L2
open PySem
end L2
namespace L2
open PySem
def wI (ns : List Int) : TA := fun _ H Q => Q (ns.map V.int) H
end L2
namespace L2
open PySem PySem.Spec PyProof.Rows
section
variable {prog : Program} {w : World} {A : Around} {R : Result -> Shared -> Prop} {s : Shared}
abbrev lp (ifs : List Expr) (env : Env) : Sem Bool := forIn ifs true fun c r => if r = true then do let ok <- isTrue c env (eval c env); pure (ForInStep.yield ok) else pure (ForInStep.yield r)
theorem kD {elt tg iter : Expr} {ifs : List Expr} {scope : Scope} {pos : Pos} {itv acc : Value} {env : Env} (J : Nat -> Shared -> Prop)
  (turn : ∀ n s, J n s -> wpAny (model prog w) A (pyNext itv) (fun r s1 => match r with
   | none => R (.ok .next) s1
   | some v => wpAny (model prog w) A (letOwnedTupleGo tg itv v) (fun _ s2 => wpAny (model prog w) A (assign tg env v) (fun _ s3 => wpAny (model prog w) A (lp ifs env) (fun ok s4 =>
     if ok = true then wpAny (model prog w) A (eval elt env) (fun x s5 => wpAny (model prog w) A (call (.builtin "list.append") [acc, x]) (fun _ s6 => ∃ m, m < n /\ J m s6) (NB prog w A env R) s5) (NB prog w A env R) s4
     else ∃ m, m < n /\ J m s4) (NB prog w A env R) s3) (NB prog w A env R) s2) (NB prog w A env R) s1) (NB prog w A env R) s)
  (n : Nat) (h : J n s) : codeAny (model prog w) A (.compLoop (.ListComp elt [⟨tg, iter, ifs, 0⟩] scope pos) 0 itv acc env) R s := by
 refine codeAny_loop rfl J (fun n s hJ => ?_) n h
 show wpAny _ _ ((compTurn (.ListComp elt [⟨tg, iter, ifs, 0⟩] scope pos) 0 itv acc env).onRaise (fun x => do noteFrame x env; theTreesLotGoes x)) _ _ s
 refine wpAny_noted ?_
 rw [compTurn_list]
 refine wpAny_bind (wpAny_standAt (wpAny_bind (wpAny_mono (turn n s hJ) (fun r s1 z => ?_) fun _ _ q => q)))
 match r, z with
 | none, z => exact wpAny_pure z
 | some v, z =>
  refine wpAny_bind (wpAny_mono z (fun _ s2 z => wpAny_bind (wpAny_mono z (fun _ s3 z => wpAny_bind (wpAny_mono z (fun ok s4 z => ?_) fun _ _ q => q)) fun _ _ q => q)) fun _ _ q => q)
  cases ok with
  | true =>
   have z' := (if_pos rfl).mp z
   exact wpAny_bind (wpAny_bind (wpAny_mono z' (fun x s5 z => wpAny_bind (wpAny_mono z (fun _ s6 z => wpAny_pure (wpAny_pure ⟨rfl, z⟩)) fun _ _ q => q)) fun _ _ q => q))
  | false =>
   have z' := (if_neg Bool.false_ne_true).mp z
   exact wpAny_bind (wpAny_pure (wpAny_pure ⟨rfl, z'⟩))
end
structure fb (X : Cx) (tgs : List Str) (sc : Scope) (fr : List (Str × Nat)) : Prop where
 kind : sc.kind = .function
 nocell : ∀ y ∈ sc.names, y.2 ≠ .cell
 locs : ∀ y ∈ sc.names, y.2 = .local -> sc.names.lookup y.1 = some .local
 fre : ∀ y ∈ sc.names, y.2 = .free -> X.env.scope.names.lookup y.1 = some .cell ∨ X.env.scope.names.lookup y.1 = some .free
 nd : (tgs ++ fr.map (·.1)).Nodup
 vis : ∀ p ∈ fr, X.N[p.2]? = some p.1 /\ (X.env.scope.names.lookup p.1 = some .cell ∨ X.env.scope.names.lookup p.1 = some .free) /\ sc.names.lookup p.1 = some .free
def PIF (X : Cx) (ifs : List Expr) (t : TT) : Prop :=
 ∀ (pins : Pn) (s : Shared) (σ : St) (H : Hp) (Q : Bool -> Hp -> Prop), ae X pins σ H s -> t σ H Q -> wpAny (model X.prog X.w) X.A (lp ifs X.env) (TP X pins σ Q) X.xe s
def zU : TT := fun _ H Q => Q true H
theorem qF {X : Cx} {c : Expr} {t : TT} (h : PT X c t) : PIF X [c] t := fun pins s σ H Q I q => wpAny_tests_one (h pins s σ H Q I q)
section
variable {X : Cx} {pins : Pn} {σ : St} {H : Hp} {s3 s4 : Shared} {tgs : List Str} {sc : Scope} {fr : List (Str × Nat)} {fp : List Addr} {cl : List (Str × Addr)}
theorem jY (ok : fb X tgs sc fr) (I : ae X pins σ H s3) (hf : ∀ b ∈ fp, dL X pins H b) (hfo : ∀ b ∈ fp, ∃ o, s3.heap.get? b = some o) (hk : ∀ x c, cl.lookup x = some c -> X.env.cells.lookup x = some c) (hc : ∀ y ∈ sc.names, y.2 = .free -> ∃ c, cl.lookup y.1 = some c)
  {h4 : Heap} {t4 : Nat} (hns : ∃ m, h4.Ns s3.heap.objs.size m) (hkeep : ∀ b o, s3.heap.get? b = some o -> h4.get? b = some o) :
  ae (X.blk (tgs ++ fr.map (·.1)) sc cl s3.heap.objs.size s3 H fp) [] (List.replicate tgs.length none ++ cO σ fr) H { s3 with heap := h4, toks := t4 } := by
 have hasc : ∀ x, ((relabel sc X.env).names.lookup x = some .cell ∨ (relabel sc X.env).names.lookup x = some .free) -> ∃ c, cl.lookup x = some c := fun x hx => by
  obtain ⟨y, h1, h2, h3⟩ : ∃ y ∈ sc.names, y.1 = x /\ y.2 = .free := by
   rcases hx with z | z
   ·exact bq ok.nocell (.inl rfl) z
   ·exact bq ok.nocell (.inr rfl) z
  subst h2
  exact hc y h1 h3
 have cell4 : ∀ x c, cl.lookup x = some c -> ∀ v, s3.heap.IsCell c v -> h4.IsCell c v := fun x c _ v ⟨o, ho, hd⟩ => ⟨o, hkeep c o ho, hd⟩
 have fresh : H s3.heap.objs.size = none := I.hok.fresh (Nat.le_refl _)
 refine ⟨⟨I.mod, ok.kind, I.ok.glob, I.ok.blt, Nat.le_refl _, fun x y c e1 e2 => I.ok.inj x y c (hk x c e1) (hk y c e2), hasc, (fun x c e => nomatch e), I.ok.hd, I.ok.frames, .inl rfl, fun b hb => ?_, I.bs, Nat.le_trans I.ok.bsz I.sz, fun b o e hb => ?_, fun b hb z => ?_, I.stack, I.stkFree⟩,
  rfl, I.bare, Un.kept hkeep, ?_, fun x c e => ?_, fresh, fun x c e => I.freeC x c (hk x c e), (fun p hp => nomatch hp), I.hok.kept hkeep, ?_⟩
 ·obtain ⟨f0, f1, f2, f3, f4, f5⟩ := hf b hb
  refine ⟨fun z => ?_, fun x c e => f4 x c (hk x c e)⟩
  obtain ⟨o, eo⟩ := hfo b hb
  have z' : b = s3.heap.objs.size := z
  rw [z'] at eo
  exact absurd (Heap.lt_size eo) (Nat.lt_irrefl _)
 ·obtain ⟨f0, f1, f2, f3, f4, f5⟩ := hf b hb
  rcases f3 with z | z
  ·exact I.ok.noex b o e z
  ·exact absurd (Nat.lt_of_lt_of_le (Nat.lt_of_lt_of_le (Heap.lt_size e) I.ok.bsz) z) (Nat.lt_irrefl _)
 ·obtain ⟨f0, f1, f2, f3, f4, f5⟩ := hf b hb
  rcases List.mem_cons.mp (I.stkSub b z) with q | q
  ·exact f1 q
  ·exact f2 q
 ·obtain ⟨m, hn⟩ := hns
  obtain ⟨m0, _, hl0⟩ := I.loc
  refine ⟨m, hn, fun i x v e1 e2 _ => ?_⟩
  have hge : tgs.length <= i := by
   rcases Nat.lt_or_ge i tgs.length with z | z
   ·rw [List.getElem?_append_left (by rw [List.length_replicate]; exact z), List.getElem?_replicate, if_pos z] at e2
    cases e2
   ·exact z
  have e1x : (tgs ++ fr.map (·.1))[i]? = some x := e1
  rw [List.getElem?_append_right hge] at e1x
  rw [List.getElem?_append_right (by rw [List.length_replicate]; exact hge), List.length_replicate] at e2
  generalize i - tgs.length = i at *
  ·have e2' : ((fr.map fun p => (σ[p.2]?).join))[i]? = some (some v) := e2
   have e1' : (fr.map (·.1))[i]? = some x := e1x
   rw [List.getElem?_map] at e1' e2'
   cases q : fr[i]? with
   | none => rw [q] at e1'; cases e1'
   | some p =>
    rw [q] at e1' e2'
    have ex : p.1 = x := Option.some.inj e1'
    have ev : (σ[p.2]?).join = some v := Option.some.inj e2'
    obtain ⟨g1, g2, g3⟩ := ok.vis p (List.mem_of_getElem? q)
    have ev' : σ[p.2]? = some (some v) := by
     cases z : σ[p.2]? with
     | none => rw [z] at ev; cases ev
     | some w => rw [z] at ev; exact congrArg some ev
    have gv : wG X.env.scope p.1 := g2.elim (fun z => .inr (.inl z)) fun z => .inr (.inr z)
    obtain ⟨u, ru, lk⟩ := hl0 p.2 p.1 v g1 ev' gv
    subst ex
    refine ⟨u, ru, .inr ⟨bj g3, ?_⟩⟩
    rcases lk with ⟨k1, _⟩ | ⟨_, c, ec, hcell⟩
    ·rcases g2 with z | z
     ·have k2 : X.env.scope.names.lookup p.1 = some .local := k1
      rw [z] at k2; cases k2
     ·have k2 : X.env.scope.names.lookup p.1 = some .local := k1
      rw [z] at k2; cases k2
    ·obtain ⟨c', ec'⟩ := hasc p.1 (bj g3)
     have e3 := hk _ _ ec'
     rw [ec] at e3
     cases e3
     exact ⟨c, ec', cell4 _ c ec' _ hcell⟩
 ·obtain ⟨v, z⟩ := I.cell x c (hk x c e)
  exact ⟨v, cell4 x c e v z⟩
 ·show (List.replicate tgs.length none ++ cO σ fr).length = (tgs ++ fr.map (·.1)).length
  simp [cO]
end
def vZ (k : Nat) (fr : List (Str × Nat)) (wi : TI) (g : TG) (tc : TT) (te : TE) : TE := fun σ H Q => wi σ H fun J H1 => ∀ acc, H1 acc = none -> ∃ W : Nat -> Nat -> St -> Hp -> Prop, (∃ m, W 0 m (List.replicate k none ++ cO σ fr) (upd H1 acc (.lst []))) /\ ∀ i m σb H2, W i m σb H2 ->
 (J.stop i H2 /\ Q (.ref acc) H2) ∨ (J.go i H2 /\ ∀ x H3, J.yld i H2 x H3 -> g x σb H3 fun σ2 H4 => tc σ2 H4 fun b H5 =>
  if b = true then te σ2 H5 fun v H6 => ∃ xs m', H6 acc = some (.lst xs) /\ xs.length < sizeLine /\ m' < m /\ W (i + 1) m' σ2 (upd H6 acc (.lst (xs ++ [v]))) else ∃ m', m' < m /\ W (i + 1) m' σ2 H5)
section
variable {X : Cx} {elt iter tg : Expr} {ifs : List Expr} {tgs : List Str} {pos : Pos} {sc : Scope} {fr : List (Str × Nat)} {wi : TI} {te : TE} {g : TG} {tc : TT}
theorem uv (hc : X.calm = true) (ok : fb X tgs sc fr) (hi : PI X tg iter wi) (hg : ∀ cl C s3 H3 fp, PG (X.blk (tgs ++ fr.map (·.1)) sc cl C s3 H3 fp) tg g) (ht : ∀ cl C s3 H3 fp, PIF (X.blk (tgs ++ fr.map (·.1)) sc cl C s3 H3 fp) ifs tc) (he : ∀ cl C s3 H3 fp, PE (X.blk (tgs ++ fr.map (·.1)) sc cl C s3 H3 fp) elt te) (hs : ∀ x, foldedSetIterable iter X.env x = pure x := by intro _; rfl) :
  PE X (.ListComp elt [⟨tg, iter, ifs, 0⟩] sc pos) (vZ tgs.length fr wi g tc te) := by
 intro pins s σ H Q I h
 obtain ⟨cl, ecl, hk, hcx⟩ := fS (env := X.env) (sc := sc) (fun y hy yf => I.ok.has y.1 (ok.fre y hy yf))
 rw [eval_ListComp]
 refine wpAny_comprehension_free (use := none) rfl hs ecl ok.kind ok.locs (aV (hi pins s σ H _ I h) fun v s1 h1 => aV h1 fun itv s2 h2 => ?_)
 obtain ⟨it, fp, tn, J, H2, e, I2, T, st2, f2, q⟩ := h2
 subst e
 have hacc : H2 s2.heap.objs.size = none := I2.hok.fresh (Nat.le_refl _)
 obtain ⟨W, ⟨m0, w0⟩, turn⟩ := q s2.heap.objs.size hacc
 refine wpAny_newObj_type ?_
 have I3 := I2.laid (a := s2.heap.objs.size) (o := .lst []) (h' := s2.heap.push { cls := .type "list", data := .seq ([] : List Value).toArray }) (t' := s2.toks) (fun b u e => Heap.get?_push_of_some _ e) (Nat.le_refl _) ⟨Nat.zero_le _, [], 0, .nil, Heap.get?_push_size _ rfl⟩
 refine wpAny_newFunctionEnv ok.nocell (by intro y hy; simp at hy) (fun h4 hns4 hsb4 => ?_) ok.kind
 generalize hs3 : ({ s2 with heap := s2.heap.push { cls := .type "list", data := .seq ([] : List Value).toArray } } : Shared) = s3 at *
 have keep4 : ∀ b o, s3.heap.get? b = some o -> h4.get? b = some o := fun b o e => hsb4.extBut b o (Nat.ne_of_lt (Heap.lt_size e)) (Heap.get?_push_of_some _ e)
 have keep3 : ∀ b o, s2.heap.get? b = some o -> s3.heap.get? b = some o := fun b o e => by rw [<- hs3]; exact Heap.get?_push_of_some _ e
 have hfo : ∀ b ∈ fp, ∃ o, s3.heap.get? b = some o := fun b hb => by
  obtain ⟨o, eo, _⟩ := T.obj 0 _ st2 b hb
  exact ⟨o, keep3 b o eo⟩
 have f3 : ∀ b ∈ fp, dL X pins (upd H2 s2.heap.objs.size (.lst [])) b := fun b hb => by
  obtain ⟨o, eo, _⟩ := T.obj 0 _ st2 b hb
  exact ⟨by rw [ac (Nat.ne_of_lt (Heap.lt_size eo))]; exact (f2 b hb).1, (f2 b hb).2⟩
 have I4 := jY (t4 := s3.toks + ([] : List (Str × Value)).length) ok I3 f3 hfo hk hcx ⟨_, hns4⟩ keep4
 have st4 : tn 0 h4 := T.keep 0 s2.heap h4 st2 fun b hb o e => keep4 b o (keep3 b o e)
 have stat : ∀ {H' : Hp}, (∀ b ∈ fp, H' b = none) -> ∀ b ∈ fp, dL (X.blk (tgs ++ fr.map (·.1)) sc cl s3.heap.objs.size s3 (upd H2 s2.heap.objs.size (.lst [])) fp) [] H' b := fun hn b hb =>
  ⟨hn b hb, (I4.ok.exf b hb).1, I4.ok.exfs b hb, .inl hb, (I4.ok.exf b hb).2, fun p hp => nomatch hp⟩
 have loop : codeAny (model X.prog X.w) X.A (.compLoop (.ListComp elt [⟨tg, iter, ifs, 0⟩] sc pos) 0 (.ref it) (.ref s2.heap.objs.size) (compEnvC sc cl s3.heap.objs.size X.env))
   (compPost (model X.prog X.w) X.A X.xe none (EP X pins σ Q) (.ref s2.heap.objs.size) s3.heap.objs.size) { s3 with heap := h4, toks := s3.toks + ([] : List (Str × Value)).length } := by
  refine kD (fun n s' => ∃ i σb H', ae (X.blk (tgs ++ fr.map (·.1)) sc cl s3.heap.objs.size s3 (upd H2 s2.heap.objs.size (.lst [])) fp) [] σb H' s' /\ tn i s'.heap /\ (∀ b ∈ fp, H' b = none) /\ W i n σb H') ?_ m0
   ⟨0, _, _, I4, st4, fun b hb => (f3 b hb).1, w0⟩
  rintro n s5 ⟨i, σb, H5, I5, st5, fr5, w5⟩
  rcases turn i n σb H5 w5 with ⟨stop, qq⟩ | ⟨go, step⟩
  ·refine aV (T.done (X.blk (tgs ++ fr.map (·.1)) sc cl s3.heap.objs.size s3 (upd H2 s2.heap.objs.size (.lst [])) fp) rfl rfl rfl hc i [] s5 _ H5 _ I5 (stat fr5) st5 stop) fun r s6 ⟨hr, I6⟩ => ?_
   subst hr
   obtain ⟨m6, hn6, _⟩ := I6.loc
   refine ⟨m6, hn6, fun h7 hsb7 => ?_⟩
   have ne : ∀ b o, s3.heap.get? b = some o -> b ≠ s3.heap.objs.size := fun b o e => Nat.ne_of_lt (Heap.lt_size e)
   have u6 : Un (gB X.stack) fp (upd H2 s2.heap.objs.size (.lst [])) H5 s3.heap s6.heap := I6.base
   have u7 : Un (gB X.stack) fp (upd H2 s2.heap.objs.size (.lst [])) H5 s3.heap h7 := {
    keep := fun b o e n hb hx => hsb7.extBut b o (ne b o e) (u6.keep b o e n hb hx)
    slot := fun b o e n hb hx => by
     obtain ⟨sl, e1⟩ := u6.slot b o e n hb hx
     exact ⟨sl, hsb7.extBut b _ (ne b o e) e1⟩
    free := u6.free
    there := fun b o e hx => by
     obtain ⟨o', e1⟩ := u6.there b o e hx
     exact ⟨o', hsb7.extBut b _ (ne b o e) e1⟩
    tups := u6.tups
    frzs := u6.frzs
    tbls := u6.tbls }
   have hok7 : eP X.prog X.w H5 h7 := fun b u eu => (I6.hok b u eu).stay (fun c v hcx q => hsb7.extBut c v (fun z => by
    have nf := I6.free
    have z' : H5 s3.heap.objs.size = none := nf
    rw [<- z] at z'
    rcases hcx with y | y
    ·rw [y, eu] at z'; cases z'
    ·rw [y] at z'; cases z') q) (fun _ q => q) fun _ _ q => q
   have os6 : s6.os = s3.os := I6.os
   have bare6 := I6.bare
   obtain ⟨hh, g, d, t, os'⟩ := s6
   obtain rfl : os' = s3.os := os6
   refine ⟨.ref s2.heap.objs.size, H5, ?_, rfl, qq⟩
   show ae X pins σ H5 { s3 with heap := h7, gens := g, drawn := d, toks := t }
   exact I3.call (h' := h7) (g' := g) (d' := d) (t' := t) (ch := fp) u7 hok7 bare6 fun b hb => ⟨(f3 b hb).2.2.2.1, (f3 b hb).2.1, (f3 b hb).2.2.2.2.1, (f3 b hb).2.2.2.2.2⟩
  ·refine aV (T.item (X.blk (tgs ++ fr.map (·.1)) sc cl s3.heap.objs.size s3 (upd H2 s2.heap.objs.size (.lst [])) fp) rfl rfl rfl hc i [] s5 _ H5 _ I5 (stat fr5) st5 go) fun r s6 ⟨u, hr, h6⟩ => ?_
   subst hr
   refine aV h6 fun _ s7 ⟨y, H7, I7, r7, y7, st7, fr7⟩ => ?_
   have I7' := I7.pinned (stat fr7) (T.obj _ _ st7)
   refine wpAny_mono (hg cl s3.heap.objs.size s3 (upd H2 s2.heap.objs.size (.lst [])) fp _ s7 _ H7 y u _ I7' r7 (step y H7 y7)) (fun _ s8 z => ?_) (fun e s z => (show False from z).elim)
   obtain ⟨σ8, H8, I8, q8⟩ := z
   refine wpAny_mono (ht cl s3.heap.objs.size s3 (upd H2 s2.heap.objs.size (.lst [])) fp _ s8 σ8 H8 _ I8 q8) (fun b s8' z => ?_) (fun e s z => (show False from z).elim)
   obtain ⟨H8', I8', q8'⟩ := z
   have goOn : ∀ {s10 : Shared} {H10 : Hp} {m' : Nat}, ae (X.blk (tgs ++ fr.map (·.1)) sc cl s3.heap.objs.size s3 (upd H2 s2.heap.objs.size (.lst [])) fp) _ σ8 H10 s10 -> m' < n -> W (i + 1) m' σ8 H10 -> ∃ m, m < n /\ ∃ i σb H', ae (X.blk (tgs ++ fr.map (·.1)) sc cl s3.heap.objs.size s3 (upd H2 s2.heap.objs.size (.lst [])) fp) [] σb H' s10 /\ tn i s10.heap /\ (∀ b ∈ fp, H' b = none) /\ W i m σb H' := fun {s10 H10 m'} I10 hm w9 => by
    refine ⟨m', hm, i + 1, σ8, _, I10.unpinned, T.keep _ _ _ st7 fun b hb o e => (I10.pin (b, o) (List.mem_append_right _ (List.mem_append_right _ (bC hb e)))).1, fun b hb => ?_, w9⟩
    obtain ⟨o, e, d⟩ := T.obj _ _ st7 b hb
    exact (I10.pin (b, o) (List.mem_append_right _ (List.mem_append_right _ (bC hb e)))).2.1
   cases b with
   | false =>
    obtain ⟨m', hm, w9⟩ := (if_neg Bool.false_ne_true).mp q8'
    exact (if_neg Bool.false_ne_true).mpr (goOn I8' hm w9)
   | true =>
    refine (if_pos rfl).mpr ?_
    refine wpAny_mono (he cl s3.heap.objs.size s3 (upd H2 s2.heap.objs.size (.lst [])) fp _ s8' _ H8' _ I8' ((if_pos rfl).mp q8')) (fun v s9 z => ?_) (fun e s z => (show False from z).elim)
    obtain ⟨z, H9, I9, r9, xs, m', ha, hl, hm, w9⟩ := z
    refine wpAny_mono (aQ (X := X.blk (tgs ++ fr.map (·.1)) sc cl s3.heap.objs.size s3 (upd H2 s2.heap.objs.size (.lst [])) fp) _ s9 _ H9 (.ref s2.heap.objs.size) [z] (.ref s2.heap.objs.size) [v] (fun _ H' => H' = upd H9 s2.heap.objs.size (.lst (xs ++ [z]))) I9 rfl (.cons r9 .nil) ⟨_, xs, z, rfl, rfl, ha, hl, rfl⟩) (fun _ s10 z => ?_) (fun e s z => (show False from z).elim)
    obtain ⟨_, H10, I10, _, e10⟩ := z
    subst e10
    exact goOn I10 hm w9
 exact codeAny_compStart_list loop (T.self X.A 0 _ _ _ st4 loop)
end
end L2
namespace L2
open PySem PySem.Spec PyProof.Rows
section
variable {X : Cx}
def zN (K : Fg) (n : Nat) (t : TGs) : TG := fun v σ H Q => ∃ a xs, v = .ref a /\ ak K H a xs /\ xs.length = n /\ t xs σ H Q
theorem uA {es : List Expr} {k : Nat} {t : TGs} {n : Nat} {pos : Pos} (hc : X.calm = true) (h : xg X es t)
  (hn : (assignEach es X.env).length = n := by rfl) (hst : (assignEach es X.env).findIdx? (·.1) = none := by rfl) : PG X (.Tuple es k pos) (zN X.K n t) := by
 intro pins s σ H v u Q I r hw
 obtain ⟨a, xs, e1, hq, hl, hw⟩ := hw
 subst e1
 cases r
 obtain ⟨its, rv, ⟨o, n', ho, hcl, hdi, hda⟩, hz⟩ := I.list hq
 have hL : s.heap.IsList a its.toArray := ⟨o, ho, hcl, n', hda⟩
 rw [assign_Tuple]
 refine wpAny_bind (wpAny_standAt ?_)
 unfold unpack
 rw [hn, hst]
 have hsz : n = its.toArray.size := by simp [<- hl, rv.length]
 rw [hsz]
 refine wpAny_bind (wpAny_holding (PySem.W.kun_itemsOf (I.ok.hd hc) hL fun h' hx => ?_))
 have I1 : ae X pins σ H { s with heap := h' } := I.kept (t' := s.toks) fun b o e => hx b o (Nat.ne_of_lt (Heap.lt_size e)) e
 exact h pins _ σ H xs _ Q I1 (by simpa using rv) hw
end
end L2
namespace My
def qv (a b : Int) : Rat := (a : Rat) / (b : Rat)
end My
namespace My
theorem rA {E A C : Rat} (h : A < C) (h1 : A <= E) (h2 : E <= C) : 0 <= (E - A) / (C - A) /\ (E - A) / (C - A) <= 1 := by
 have hp : 0 < C - A := by grind
 constructor
 ·rw [<- Rat.not_lt, Rat.div_lt_iff hp]
  grind
 ·rw [<- Rat.not_lt, Rat.lt_div_iff hp]
  grind
theorem cj {E A C F T : Rat} (h : A < C) (hf : F < T) (h1 : A <= E) (h2 : E <= C) : F <= F + (E - A) / (C - A) * (T - F) /\ F + (E - A) / (C - A) * (T - F) <= T := by
 obtain ⟨p0, p1⟩ := rA h h1 h2
 generalize (E - A) / (C - A) = r at *
 have w1 : 0 <= r * (T - F) := Rat.mul_nonneg p0 (by grind)
 have w2 : r * (T - F) <= 1 * (T - F) := Rat.mul_le_mul_of_nonneg_right p1 (by grind)
 grind
end My
namespace My
def fw (y : Int) : Bool := if y % 4 = 0 then (if y % 100 = 0 then decide (y % 400 = 0) else true) else false
def mls : List Int := [31, 28, 31, 30, 31, 30, 31, 31, 30, 31, 30, 31]
def ml (L : Bool) (m : Int) : Int := if m = 2 /\ L = true then 29 else mls.getD (m - 1).toNat 0
def rs (y m : Int) : Int := ml (fw y) m
def bf (L : Bool) (m : Int) : Int := ((List.range (m - 1).toNat).map fun i : Nat => ml L (1 + i)).sum
def gJ (y : Int) : Int := 365 * (y - 1) + (y - 1) / 4 - (y - 1) / 100 + (y - 1) / 400
def uw (L : Bool) : Int := if L then 366 else 365
theorem mn (y : Int) : gJ (y + 1) = gJ y + uw (fw y) := by
 unfold gJ uw fw
 by_cases h4 : y % 4 = 0
 ·rw [if_pos h4]
  by_cases h1 : y % 100 = 0
  ·rw [if_pos h1]
   by_cases h3 : y % 400 = 0
   ·rw [decide_eq_true h3, if_pos rfl]; omega
   ·rw [decide_eq_false h3, if_neg (by decide)]; omega
  ·rw [if_neg h1, if_pos rfl]; omega
 ·rw [if_neg h4, if_neg (by decide)]; omega
theorem kN {m : Int} (h1 : 1 <= m) (h2 : m <= 12) : m = 1 ∨ m = 2 ∨ m = 3 ∨ m = 4 ∨ m = 5 ∨ m = 6 ∨ m = 7 ∨ m = 8 ∨ m = 9 ∨ m = 10 ∨ m = 11 ∨ m = 12 := by omega
theorem lD {L : Bool} {m : Int} (h1 : 1 <= m) (h2 : m <= 12) : bf L (m + 1) = bf L m + ml L m := by
 cases L <;> rcases kN h1 h2 with h | h | h | h | h | h | h | h | h | h | h | h <;> subst h <;> decide
theorem jc (L : Bool) : bf L 1 = 0 := by cases L <;> decide
theorem rO (L : Bool) : bf L 13 = uw L := by cases L <;> decide
theorem kJ {L : Bool} {m : Int} (h1 : 1 <= m) (h2 : m <= 12) : 28 <= ml L m /\ ml L m <= 31 := by
 cases L <;> rcases kN h1 h2 with h | h | h | h | h | h | h | h | h | h | h | h <;> subst h <;> decide
def gb (y m e : Int) : Int := gJ y + bf (fw y) m + e - 1
structure eI (y m e : Int) : Prop where
 y1 : 1 <= y
 y2 : y <= 9999
 m1 : 1 <= m
 m2 : m <= 12
 e1 : 1 <= e
 e2 : e <= rs y m
theorem fc {L : Bool} {m n : Int} (h1 : 1 <= m) (h : m < n) (h2 : n <= 13) : bf L m + ml L m <= bf L n := by
 have key : ∀ (k : Nat) (n : Int), n = m + 1 + k -> n <= 13 -> bf L m + ml L m <= bf L n := by
  intro k
  induction k with
  | zero =>
   intro n hn hn2
   have e : n = m + 1 := by omega
   rw [e, lD h1 (by omega)]
   exact Int.le_refl _
  | succ k ih =>
   intro n hn hn2
   have q := ih (n - 1) (by omega) (by omega)
   have e := lD (L := L) (m := n - 1) (by omega) (by omega)
   rw [Int.sub_add_cancel] at e
   have p := (kJ (L := L) (m := n - 1) (by omega) (by omega)).1
   omega
 exact key (n - m - 1).toNat n (by omega) h2
theorem eI.range {y m e : Int} (v : eI y m e) : gJ y <= gb y m e /\ gb y m e < gJ (y + 1) := by
 have h1 : 0 <= bf (fw y) m := by
  by_cases h : m = 1
  ·rw [h, jc]; exact Int.le_refl _
  ·have q := fc (L := fw y) (m := 1) (n := m) (by omega) (by have := v.m1; omega) (by have := v.m2; omega)
   have p := (kJ (L := fw y) (m := 1) (by omega) (by omega)).1
   rw [jc] at q
   omega
 have h2 := fc (L := fw y) (m := m) (n := 13) v.m1 (by have := v.m2; omega) (by omega)
 rw [rO] at h2
 have h3 := mn y
 have h4 := v.e2
 have h5 := v.e1
 unfold rs at h4
 unfold gb
 omega
theorem gt {y z : Int} (h : y <= z) : gJ y <= gJ z := by unfold gJ; omega
theorem eI.inj {y m e y' m' e' : Int} (v : eI y m e) (v' : eI y' m' e') (h : gb y m e = gb y' m' e') : y = y' /\ m = m' /\ e = e' := by
 have r := v.range
 have r' := v'.range
 have hy : y = y' := by
  rcases Int.lt_trichotomy y y' with q | q | q
  ·have := gt (show y + 1 <= y' by omega); omega
  ·exact q
  ·have := gt (show y' + 1 <= y by omega); omega
 subst hy
 have a := v.e2; have a' := v'.e2; have b := v.e1; have b' := v'.e1
 unfold rs at a a'
 unfold gb at h
 have hm : m = m' := by
  rcases Int.lt_trichotomy m m' with q | q | q
  ·have := fc (L := fw y) v.m1 q (by have := v'.m2; omega); omega
  ·exact q
  ·have := fc (L := fw y) v'.m1 q (by have := v.m2; omega); omega
 subst hm
 refine ⟨rfl, rfl, by omega⟩
end My
namespace My
structure Sc (R : Rat -> Rat -> Prop) (len : Rat) : Prop where
 lo : ∀ {v r : Rat}, R v r -> 0 <= r
 hi : ∀ {v r : Rat}, R v r -> r <= len
 up : ∀ {v w r s : Rat}, R v r -> R w s -> v < w -> r < s
 fn : ∀ {v r s : Rat}, R v r -> R v s -> r = s
theorem Sc.lt {R : Rat -> Rat -> Prop} {len : Rat} (S : Sc R len) {v w r s : Rat} (h1 : R v r) (h2 : R w s) : v < w ↔ r < s := by
 refine ⟨S.up h1 h2, fun h => ?_⟩
 rcases (Rat.le_total : v <= w ∨ w <= v) with z | z
 ·rcases Rat.le_iff_lt_or_eq.mp z with y | y
  ·exact y
  ·subst y
   have := S.fn h1 h2
   grind
 ·rcases Rat.le_iff_lt_or_eq.mp z with y | y
  ·have := S.up h2 h1 y
   grind
  ·subst y
   have := S.fn h1 h2
   grind
theorem Sc.eq {R : Rat -> Rat -> Prop} {len : Rat} (S : Sc R len) {v w r s : Rat} (h1 : R v r) (h2 : R w s) : v = w ↔ r = s := by
 have a := S.lt h1 h2
 have b := S.lt h2 h1
 rcases (Rat.le_total : v <= w ∨ w <= v) with z | z <;> rcases (Rat.le_total : r <= s ∨ s <= r) with y | y <;> grind
def zu (A C L : Rat) : Rat -> Rat -> Prop := fun v r => A <= v /\ v <= C /\ r = (v - A) / (C - A) * L
theorem jV {x y d : Rat} (hd : 0 < d) (h : x < y) : x / d < y / d := by
 rw [Rat.div_lt_iff hd]
 have : y / d * d = y := by grind
 rw [this]
 exact h
theorem iE {A C F T v w : Rat} (h : A < C) (hf : F < T) (hv : v < w) : F + (v - A) / (C - A) * (T - F) < F + (w - A) / (C - A) * (T - F) := by
 have h1 : (v - A) / (C - A) < (w - A) / (C - A) := jV (by grind) (by grind)
 have h2 : (v - A) / (C - A) * (T - F) < (w - A) / (C - A) * (T - F) := Rat.mul_lt_mul_of_pos_right h1 (by grind)
 grind
theorem Sc.str {A C L : Rat} (h : A < C) (hl : 0 < L) : Sc (zu A C L) L where
 lo := fun ⟨a, b, e⟩ => by
  have := (cj (F := 0) (T := L) h hl a b).1
  grind
 hi := fun ⟨a, b, e⟩ => by
  have := (cj (F := 0) (T := L) h hl a b).2
  grind
 up := fun ⟨a, b, e⟩ ⟨c, d, f⟩ z => by
  have := iE (F := 0) (T := L) h hl z
  grind
 fn := fun ⟨_, _, e⟩ ⟨_, _, f⟩ => by rw [e, f]
structure Pq where
 (A C F T : Rat)
def zh (ps : List Pq) : Rat -> Rat -> Prop := fun v r => ∃ x ∈ ps, x.A <= v /\ v <= x.C /\ r = x.F + (v - x.A) / (x.C - x.A) * (x.T - x.F)
theorem Sc.brk {ps : List Pq} {L : Rat} (h1 : ∀ x ∈ ps, x.A < x.C /\ x.F < x.T /\ 0 <= x.F /\ x.T <= L) (h2 : ∀ x ∈ ps, ∀ y ∈ ps, x = y ∨ (x.C < y.A /\ x.T < y.F) ∨ (y.C < x.A /\ y.T < x.F)) : Sc (zh ps) L where
 lo := fun ⟨x, hx, a, b, e⟩ => by
  obtain ⟨w1, w2, w3, w4⟩ := h1 x hx
  have := (cj w1 w2 a b).1
  grind
 hi := fun ⟨x, hx, a, b, e⟩ => by
  obtain ⟨w1, w2, w3, w4⟩ := h1 x hx
  have := (cj w1 w2 a b).2
  grind
 up := fun ⟨x, hx, a, b, e⟩ ⟨y, hy, c, d, f⟩ z => by
  obtain ⟨w1, w2, w3, w4⟩ := h1 x hx
  obtain ⟨v1, v2, v3, v4⟩ := h1 y hy
  have p := (cj w1 w2 a b).2
  have q := (cj v1 v2 c d).1
  rcases h2 x hx y hy with k | ⟨k1, k2⟩ | ⟨k1, k2⟩
  ·subst k
   have := iE w1 w2 z
   grind
  ·grind
  ·grind
 fn := fun ⟨x, hx, a, b, e⟩ ⟨y, hy, c, d, f⟩ => by
  rcases h2 x hx y hy with k | ⟨k1, k2⟩ | ⟨k1, k2⟩
  ·subst k; rw [e, f]
  ·grind
  ·grind
end My
namespace My
end My
namespace L2
open PySem PySem.Spec PyProof.Rows
def kf : R2 := fun x y H Q => y = .non /\ Q (.bl (decide (x = .non))) H
def fh : R2 := fun x y H Q => y = .non /\ Q (.bl (!decide (x = .non))) H
def MkT (xs : List V) (H : Hp) (Q : VK) : Prop := xs.length <= sizeLine /\ ∀ p, H p = none -> Q (.ref p) (upd H p (.tup xs))
def MkL (xs : List V) (H : Hp) (Q : VK) : Prop := xs.length <= sizeLine /\ ∀ p, H p = none -> Q (.ref p) (upd H p (.lst xs))
inductive cQ : St -> Nat -> Option V -> St -> Prop
 | here {x : Option V} {r : St} {v : Option V} : cQ (x :: r) 0 v (v :: r)
 | next {x : Option V} {r : St} {v : Option V} {i : Nat} {r' : St} : cQ r i v r' -> cQ (x :: r) (i + 1) v (x :: r')
theorem cQ.eq {σ σ' : St} {i : Nat} {v : Option V} (h : cQ σ i v σ') : σ.set i v = σ' := by
 induction h with
 | here => rfl
 | next _ ih => rw [List.set_cons_succ, ih]
inductive dD : St -> Nat -> V -> Prop
 | here {v : V} {r : St} : dD (some v :: r) 0 v
 | next {x : Option V} {r : St} {v : V} {i : Nat} : dD r i v -> dD (x :: r) (i + 1) v
theorem dD.eq {σ : St} {i : Nat} {v : V} (h : dD σ i v) : σ[i]? = some (some v) := by
 induction h with
 | here => rfl
 | next _ ih => rw [List.getElem?_cons_succ, ih]
section
variable {σ σ' : St} {H : Hp} {Q : VK} {i j : Int} {k : Nat} {v x y : V} {te ta tb tc : TE} {t u : TS} {nx bk ct : St -> Hp -> Prop} {rt : VK} {c d : TT} {R : Bool -> Hp -> Prop} {r r' : R2} {b : Bool}
theorem xW (h : dD σ k v) (q : Q v H) : ku k σ H Q := ⟨v, h.eq, q⟩
theorem z_c (q : Q v H) : tC v σ H Q := q
theorem zM (h : ta σ H fun x H1 => tb σ H1 fun y H2 => r x y H2 Q) : tL r ta tb σ H Q := h
theorem zL {r : V -> Hp -> VK -> Prop} (h : ta σ H fun x H1 => r x H1 Q) : tUn r ta σ H Q := h
theorem xX {C : Int -> Int -> Prop} {g : Int -> Int -> V} (hc : C i j) (q : Q (g i j) H) : rI C g (.int i) (.int j) H Q := ⟨i, j, rfl, rfl, hc, q⟩
theorem zz {g : Int -> Int -> V} (q : Q (g i j) H) : qc g (.int i) (.int j) H Q := ⟨i, j, rfl, rfl, q⟩
theorem z_U {g : Int -> V} (q : Q (g i) H) : rU g (.int i) H Q := ⟨i, rfl, q⟩
theorem iA : decide (V.int i = V.int j) = decide (i = j) := by
 by_cases h : i = j
 ·subst h; simp
 ·rw [decide_eq_false h, decide_eq_false (fun z => h (V.int.inj z))]
theorem jj {a b : Str} : decide (V.str a = V.str b) = decide (a = b) := by
 by_cases h : a = b
 ·subst h; simp
 ·rw [decide_eq_false h, decide_eq_false (fun z => h (V.str.inj z))]
theorem sQ (q : Q (.bl (decide (i = j))) H) : rEq (.int i) (.int j) H Q := ⟨rfl, by rw [iA]; exact q⟩
theorem sS (q : Q (.bl (!decide (i = j))) H) : wD (.int i) (.int j) H Q := ⟨rfl, by rw [iA]; exact q⟩
theorem sY {a b : Str} (q : Q (.bl (decide (a = b))) H) : rEq (.str a) (.str b) H Q := ⟨rfl, by rw [jj]; exact q⟩
theorem tm {a b : Str} (q : Q (.bl (!decide (a = b))) H) : wD (.str a) (.str b) H Q := ⟨rfl, by rw [jj]; exact q⟩
theorem vE (h : te σ H fun x H' => ∃ k, x = .bl k /\ R k H') : pY te σ H R := h
theorem zE (h : te σ H fun x H' => ∃ k, x = .bl k /\ R k H') : tB te σ H R := h
theorem yo {S : Bool -> Prop} (q : S b) : ∃ k, V.bl b = .bl k /\ S k := ⟨b, rfl, q⟩
theorem wQ (h : c σ H fun k H1 => if k = true then d σ H1 R else R false H1) : ua c d σ H R := h
theorem Aj (h : c σ H fun k H1 => if k = true then R true H1 else d σ H1 R) : zm c d σ H R := h
theorem xZ (h : c σ H fun k H1 => R (!k) H1) : vv c σ H R := h
theorem uX (h : ta σ H fun x H1 => ∃ c, x = .bl c /\ if c = true then tb σ H1 Q else Q (.bl false) H1) : oZ ta tb σ H Q := h
theorem yc (h : ta σ H fun x H1 => ∃ c, x = .bl c /\ if c = true then Q (.bl true) H1 else tb σ H1 Q) : ym ta tb σ H Q := h
theorem vx (h : ta σ H fun x H1 => ∃ c, x = .bl c /\ Q (.bl (!c)) H1) : sZ ta σ H Q := h
theorem Ac (h : c σ H fun k H1 => if k = true then ta σ H1 Q else tb σ H1 Q) : At c ta tb σ H Q := h
theorem qW (h : ta σ H fun x H1 => tb σ H1 fun y H2 => r x y H2 fun z H3 => ∃ k, z = .bl k /\ (if k = true then tc σ H3 fun w' H4 => r' y w' H4 Q else Q (.bl false) H3)) : oR r r' ta tb tc σ H Q := h
theorem wX {S : List V -> Hp -> Prop} (q : S [] H) : tNil σ H S := q
theorem wb {S : List V -> Hp -> Prop} {tr : TA} (h : ta σ H fun x H1 => tr σ H1 fun xs H2 => S (x :: xs) H2) : br ta tr σ H S := h
theorem wR (h : t ⟨u ⟨nx, rt, bk, ct⟩, rt, bk, ct⟩ σ H) : qt t u ⟨nx, rt, bk, ct⟩ σ H := h
theorem vR (h : nx σ H) : tNext ⟨nx, rt, bk, ct⟩ σ H := h
theorem wc (h : te σ H fun _ H1 => nx σ H1) : oX te ⟨nx, rt, bk, ct⟩ σ H := h
theorem xJ (h : te σ H rt) : uT te ⟨nx, rt, bk, ct⟩ σ H := h
theorem xh (h : c σ H fun b H1 => if b = true then t ⟨nx, rt, bk, ct⟩ σ H1 else u ⟨nx, rt, bk, ct⟩ σ H1) : rc c t u ⟨nx, rt, bk, ct⟩ σ H := h
theorem wS {g : TG} (h : te σ H fun x H1 => g x σ H1 nx) : ou te g ⟨nx, rt, bk, ct⟩ σ H := h
theorem tD {S : St -> Hp -> Prop} (h : cQ σ k (some v) σ') (q : S σ' H) : dm k v σ H S := by
 show S (σ.set k (some v)) H
 rw [h.eq]; exact q
theorem wY {i j : Nat} {tA : TA} (h : tA σ H fun vs H1 => ∃ v w, vs = [v, w] /\ nx ((σ.set i (some v)).set j (some w)) H1) : xO i j tA ⟨nx, rt, bk, ct⟩ σ H := h
theorem uP {i j : Nat} {v w : V} {σ2 : St} (h1 : cQ σ i (some v) σ') (h2 : cQ σ' j (some w) σ2) (q : nx σ2 H) : ∃ v' w', [v, w] = [v', w'] /\ nx ((σ.set i (some v')).set j (some w')) H := ⟨v, w, rfl, by rw [h1.eq, h2.eq]; exact q⟩
theorem bD {c A B : Prop} [Decidable c] (h1 : c -> A) (h2 : ¬ c -> B) : if decide c = true then A else B := by
 by_cases h : c
 ·rw [decide_eq_true h]; exact mN (h1 h)
 ·rw [decide_eq_false h]; exact mM (h2 h)
theorem lM {b : Bool} {A B : Prop} (h : if b = true then B else A) : if (!b) = true then A else B := by
 cases b with
 | true => exact mM h
 | false => exact mN h
theorem kG {b : Bool} {A B : Prop} (h1 : b = true -> A) (h2 : b = false -> B) : if b = true then A else B := by
 cases b with
 | true => exact mN (h1 rfl)
 | false => exact mM (h2 rfl)
theorem rE {sp : Sp} {E : XK} {tA : TA} (h : tA σ H fun vs H1 => sp vs H1 Q E) : dO sp [] E tA σ H Q := by
 unfold dO
 simpa using h
theorem qA {sp : Sp} {E : XK} {tA : TA} {w : V} (h : tA σ H fun vs H1 => sp (vs ++ [w]) H1 Q E) : dO sp [w] E tA σ H Q := h
theorem zH {rr : List V -> Hp -> VK -> Prop} {tA : TA} (h : tA σ H fun vs H1 => rr vs H1 Q) : sy rr tA σ H Q := h
theorem AA {S : Int -> Prop} (q : S i) : ∃ i', [V.int i] = [.int i'] /\ S i' := ⟨i, rfl, q⟩
theorem Al {S : Int -> Int -> Prop} (q : S i j) : ∃ i' j', [V.int i, V.int j] = [.int i', .int j'] /\ S i' j' := ⟨i, j, rfl, q⟩
theorem yS {tA : TA} (h : tA σ H fun xs H1 => MkT xs H1 Q) : qr tA σ H Q := h
theorem ye {xs : List V} (hl : xs.length <= 100) (q : ∀ p H', H p = none -> aa H H' -> H' p = some (.tup xs) -> Q (.ref p) H') : MkT xs H Q :=
 ⟨Nat.le_trans hl (by decide), fun p hp => q p _ hp (aa.new hp _) ad⟩
theorem yJ {K : Fg} {p : Addr} {xs : List V} (hs : aH K H p xs) (ha : fW xs i = some v) (q : Q v H) : uW K (.ref p) (.int i) H Q := ⟨p, xs, i, v, rfl, rfl, hs, ha, q⟩
theorem cG {K : Fg} {p : Addr} {xs : List V} (hs : ak K H p xs) (ha : fW xs i = some v) (q : Q v H) : wx K (.ref p) (.int i) H Q := ⟨p, xs, i, v, rfl, rfl, hs, ha, q⟩
theorem ut (q : Q (.bl true) H) : kf .non .non H Q := ⟨rfl, q⟩
theorem tX (q : Q (.bl false) H) : kf (.int i) .non H Q := ⟨rfl, q⟩
theorem uy {a : Str} (q : Q (.bl false) H) : kf (.str a) .non H Q := ⟨rfl, q⟩
theorem uD {p : Addr} (q : Q (.bl false) H) : kf (.ref p) .non H Q := ⟨rfl, q⟩
theorem wl (q : Q (.bl false) H) : fh .non .non H Q := ⟨rfl, q⟩
theorem uK (q : Q (.bl true) H) : fh (.int i) .non H Q := ⟨rfl, q⟩
theorem uc {a : Str} (q : Q (.bl true) H) : fh (.str a) .non H Q := ⟨rfl, q⟩
theorem uF {p : Addr} (q : Q (.bl true) H) : fh (.ref p) .non H Q := ⟨rfl, q⟩
theorem z_len {K : Fg} {p : Addr} {ys : List V} {S : List V -> Prop} (hs : ak K H p ys ∨ aH K H p ys) (q : S ys) : ∃ p' ys', [V.ref p] = [V.ref p'] /\ (ak K H p' ys' ∨ aH K H p' ys') /\ S ys' := ⟨p, ys, rfl, hs, q⟩
theorem yA {S1 S2 : Int -> Prop} {S3 : Bool -> Prop} (q : S1 i) : (∃ i', [V.int i] = [.int i'] /\ S1 i') ∨ ∃ k, [V.int i] = [.bl k] /\ S3 k := .inl ⟨i, rfl, q⟩
theorem xA {S1 : Int -> Prop} {S3 : Bool -> Prop} (q : S3 b) : (∃ i', [V.bl b] = [.int i'] /\ S1 i') ∨ ∃ k, [V.bl b] = [.bl k] /\ S3 k := .inr ⟨b, rfl, q⟩
theorem vo {K : Fg} {p : Addr} {n : Nat} {tg : TGs} {xs : List V} {S : St -> Hp -> Prop} (hs : aH K H p xs) (hl : xs.length = n) (q : tg xs σ H S) : vL K n tg (.ref p) σ H S := ⟨p, xs, rfl, hs, hl, q⟩
theorem tZ {S : St -> Hp -> Prop} (q : S σ H) : gNil [] σ H S := ⟨rfl, q⟩
theorem rT {g : TG} {tg : TGs} {v : V} {r : List V} {S : St -> Hp -> Prop} (q : g v σ H fun σ' H' => tg r σ' H' S) : pF g tg (v :: r) σ H S := ⟨v, r, rfl, q⟩
theorem Aq {r : V -> Option Int -> Option Int -> Hp -> VK -> Prop} {tl th : TO} (h : te σ H fun x H1 => tl σ H1 fun l H2 => th σ H2 fun u H3 => r x l u H3 Q) : zP r te tl th σ H Q := h
theorem yR {S : Option Int -> Hp -> Prop} (q : S none H) : tNoPart σ H S := q
theorem vG {S : Option Int -> Hp -> Prop} (h : te σ H fun x H1 => ∃ i, x = .int i /\ S (some i) H1) : pe te σ H S := h
theorem vN {S : Int -> Prop} (q : S i) : ∃ i', V.int i = .int i' /\ S i' := ⟨i, rfl, q⟩
theorem yv {tA : TA} (h : tA σ H fun xs H1 => MkL xs H1 Q) : rR tA σ H Q := h
theorem cp {xs : List V} (hl : xs.length <= 100) (q : ∀ p H', H p = none -> aa H H' -> H' p = some (.lst xs) -> Q (.ref p) H') : MkL xs H Q :=
 ⟨Nat.le_trans hl (by decide), fun p hp => q p _ hp (aa.new hp _) ad⟩
theorem zW {K : Fg} {T : String} {rr : V -> List V -> Hp -> VK -> Prop} {tA : TA} (h : te σ H fun x H1 => wE K T x H1 /\ tA σ H1 fun xs H2 => rr x xs H2 Q) : Au K T rr te tA σ H Q := h
end
theorem sm2 {A B C : Hp} (g : aa B C) (h : aa A B) : aa A C := h.trans g
def cB (l : Addr) (H H' : Hp) : Prop := ∀ b o, b ≠ l -> H b = some o -> H' b = some o
theorem cB.upd {H : Hp} {l : Addr} {o : HO} : cB l H (upd H l o) := fun b u hb q => by rw [ac hb]; exact q
theorem cB.tup {K : Fg} {H H' : Hp} {l a : Addr} {xs ys : List V} (e : cB l H H') (hl : H l = some (.lst ys)) (h : aH K H a xs) : aH K H' a xs := by
 rcases h with (h | ⟨o, h⟩) | h
 ·exact .inl (.inl (e _ _ (fun z => by rw [z, hl] at h; cases h) h))
 ·exact .inl (.inr ⟨o, e _ _ (fun z => by rw [z, hl] at h; cases h) h⟩)
 ·exact .inr h
theorem cB.seq {K : Fg} {H H' : Hp} {l a : Addr} {xs : List V} (e : cB l H H') (hne : a ≠ l) (h : ak K H a xs) : ak K H' a xs := by
 rcases h with (h | ⟨o, h⟩) | h
 ·exact .inl (.inl (e _ _ hne h))
 ·exact .inl (.inr ⟨o, e _ _ hne h⟩)
 ·exact .inr h
section
variable {σ σ' : St} {H : Hp} {Q : VK}
theorem aZ {l : Addr} {xs : List V} {v : V} (h : H l = some (.lst xs)) (hl : xs.length < sizeLine) (q : ∀ H', cB l H H' -> H' l = some (.lst (xs ++ [v])) -> Q .non H') : rAppend (.ref l) [v] H Q :=
 ⟨l, xs, v, rfl, rfl, h, hl, q _ cB.upd ad⟩
end
section
variable {σ : St} {H : Hp} {te : TE} {tb : TS} {g : TG} {nx bk ct : St -> Hp -> Prop} {rt : VK} {wi : TI} {K : Fg} {a : Addr} {xs : List V}
def FW (J : It) (g : TG) (tb : TS) (nx : St -> Hp -> Prop) (rt : VK) (σ : St) (H : Hp) : Prop := ∃ W : Nat -> Nat -> St -> Hp -> Prop, (∃ m, W 0 m σ H) /\ ∀ i m σ H, W i m σ H ->
 (J.stop i H /\ nx σ H) ∨ (J.go i H /\ ∃ N : St -> Hp -> Prop, (∀ σ' H', N σ' H' -> ∃ m', m' < m /\ W (i + 1) m' σ' H') /\ ∀ x H', J.yld i H x H' -> g x σ H' fun σ2 H2 => tb ⟨N, rt, nx, N⟩ σ2 H2)
theorem xq (h : wi σ H fun J H1 => FW J g tb nx rt σ H1) : tz wi g tb ⟨nx, rt, bk, ct⟩ σ H := h
theorem zG {R : It -> Hp -> Prop} (h : te σ H fun x H1 => ∃ a, x = .ref a /\ (∃ xs, ak K H1 a xs) /\ R (vQ K a) H1) : nU K te σ H R := h
theorem zB {R : It -> Hp -> Prop} (h : te σ H fun x H1 => ∃ a, x = .ref a /\ (∃ xs, aH K H1 a xs) /\ R (zt K a) H1) : uI K te σ H R := h
theorem yu {S : Addr -> Prop} (hs : ak K H a xs) (q : S a) : ∃ a', V.ref a = .ref a' /\ (∃ xs, ak K H a' xs) /\ S a' := ⟨a, rfl, ⟨xs, hs⟩, q⟩
theorem xN {S : Addr -> Prop} (hs : aH K H a xs) (q : S a) : ∃ a', V.ref a = .ref a' /\ (∃ xs, aH K H a' xs) /\ S a' := ⟨a, rfl, ⟨xs, hs⟩, q⟩
theorem wM {tA : TA} {R : It -> Hp -> Prop} (h : tA σ H fun vs H1 => ∃ j : Int, vs = [.int j] /\ -(2 ^ 62) <= j /\ j < 2 ^ 62 /\ R (ni 0 j.toNat) H1) : oa tA σ H R := h
theorem wT {tA : TA} {R : It -> Hp -> Prop} (h : tA σ H fun vs H1 => ∃ i j : Int, vs = [.int i, .int j] /\ (-(2 ^ 62) <= i /\ i < 2 ^ 62 /\ -(2 ^ 62) <= j /\ j < 2 ^ 62) /\ R (ni i (j - i).toNat) H1) : pK tA σ H R := h
theorem xx {tA : TA} {R : It -> Hp -> Prop} (h : tA σ H fun vs H1 => ∃ i j c : Int, vs = [.int i, .int j, .int c] /\ 0 < c /\ c < 1073741824 /\ Builtin.Range.small i j c = true /\ R (xp i c (yN i j c)) H1) : xI tA σ H R := h
theorem xz {J : It} {j : Int} (h1 : -(2 ^ 62) <= j) (h2 : j < 2 ^ 62) (q : FW J g tb nx rt σ H) : -(2 ^ 62) <= j /\ j < 2 ^ 62 /\ FW J g tb nx rt σ H := ⟨h1, h2, q⟩
theorem tf {J : It} {i j : Int} (h1 : -(2 ^ 62) <= i) (h2 : i < 2 ^ 62) (h3 : -(2 ^ 62) <= j) (h4 : j < 2 ^ 62) (q : FW J g tb nx rt σ H) : (-(2 ^ 62) <= i /\ i < 2 ^ 62 /\ -(2 ^ 62) <= j /\ j < 2 ^ 62) /\ FW J g tb nx rt σ H := ⟨⟨h1, h2, h3, h4⟩, q⟩
theorem uo (Pv : Nat -> St -> Hp -> Prop) (h0 : Pv 0 σ H) (hl : ∀ i σ H, i <= xs.length -> Pv i σ H -> ak K H a xs)
  (hs : ∀ i x σ H, xs[i]? = some x -> Pv i σ H -> g x σ H fun σ2 H2 => tb ⟨Pv (i + 1), rt, nx, Pv (i + 1)⟩ σ2 H2) (hd : ∀ σ H, Pv xs.length σ H -> nx σ H) : FW (vQ K a) g tb nx rt σ H := og (D := ⟨nx, rt, nx, nx⟩) Pv h0 hl hs hd
theorem lc {lo : Int} {n : Nat} (Pv : Nat -> St -> Hp -> Prop) (h0 : Pv 0 σ H)
  (hs : ∀ i σ H, i < n -> Pv i σ H -> g (.int (lo + i)) σ H fun σ2 H2 => tb ⟨Pv (i + 1), rt, nx, Pv (i + 1)⟩ σ2 H2) (hd : ∀ σ H, Pv n σ H -> nx σ H) : FW (ni lo n) g tb nx rt σ H := mq (D := ⟨nx, rt, nx, nx⟩) Pv h0 hs hd
theorem wZ {W : Nat -> St -> Hp -> Prop} {m : Nat} (h : tb ⟨fun σ' H' => ∃ m', m' < m /\ W m' σ' H', rt, nx, fun σ' H' => ∃ m', m' < m /\ W m' σ' H'⟩ σ H) : ∃ N : St -> Hp -> Prop, (∀ σ' H', N σ' H' -> ∃ m', m' < m /\ W m' σ' H') /\ tb ⟨N, rt, nx, N⟩ σ H := ⟨_, fun _ _ z => z, h⟩
end
def bg (K : Fg) (n : String) (f : Tg -> Bool) (xs : List V) (H : Hp) (Q : VK) : Prop := fF K n f xs H Q
theorem vK {K : Fg} {n : String} {f : Tg -> Bool} {xs : List V} {H : Hp} {Q : VK} (h : bg K n f xs H Q) : fF K n f xs H Q := h
section
variable {H : Hp} {Q : VK} {K : Fg} {i : Int} {a : Str} {b : Bool} {p : Addr} {xs : List V}
theorem mG (q : Q (.bl false) H) : bg K "int" Tg.isInt [.non, .ty "int"] H Q := ⟨_, .non, rfl, True.intro, q⟩
theorem mY (q : Q (.bl true) H) : bg K "int" Tg.isInt [.bl b, .ty "int"] H Q := ⟨_, .bl, rfl, True.intro, q⟩
theorem mL (q : Q (.bl true) H) : bg K "int" Tg.isInt [.int i, .ty "int"] H Q := ⟨_, .int, rfl, True.intro, q⟩
theorem mx (q : Q (.bl false) H) : bg K "int" Tg.isInt [.str a, .ty "int"] H Q := ⟨_, .str, rfl, True.intro, q⟩
theorem mZ (hs : aH K H p xs) (q : Q (.bl false) H) : bg K "int" Tg.isInt [.ref p, .ty "int"] H Q := ⟨_, .tup, rfl, ⟨xs, hs⟩, q⟩
theorem mD (hs : ak K H p xs) (q : Q (.bl false) H) : bg K "int" Tg.isInt [.ref p, .ty "int"] H Q := ⟨_, .lst, rfl, ⟨xs, hs⟩, q⟩
theorem kh (q : Q (.bl false) H) : bg K "bool" Tg.isBool [.non, .ty "bool"] H Q := ⟨_, .non, rfl, True.intro, q⟩
theorem jE (q : Q (.bl true) H) : bg K "bool" Tg.isBool [.bl b, .ty "bool"] H Q := ⟨_, .bl, rfl, True.intro, q⟩
theorem jA (q : Q (.bl false) H) : bg K "bool" Tg.isBool [.int i, .ty "bool"] H Q := ⟨_, .int, rfl, True.intro, q⟩
theorem kH (q : Q (.bl false) H) : bg K "bool" Tg.isBool [.str a, .ty "bool"] H Q := ⟨_, .str, rfl, True.intro, q⟩
theorem jL (hs : aH K H p xs) (q : Q (.bl false) H) : bg K "bool" Tg.isBool [.ref p, .ty "bool"] H Q := ⟨_, .tup, rfl, ⟨xs, hs⟩, q⟩
theorem kE (hs : ak K H p xs) (q : Q (.bl false) H) : bg K "bool" Tg.isBool [.ref p, .ty "bool"] H Q := ⟨_, .lst, rfl, ⟨xs, hs⟩, q⟩
theorem mQ (q : Q (.bl false) H) : bg K "str" Tg.isStr [.non, .ty "str"] H Q := ⟨_, .non, rfl, True.intro, q⟩
theorem mt (q : Q (.bl false) H) : bg K "str" Tg.isStr [.bl b, .ty "str"] H Q := ⟨_, .bl, rfl, True.intro, q⟩
theorem mU (q : Q (.bl false) H) : bg K "str" Tg.isStr [.int i, .ty "str"] H Q := ⟨_, .int, rfl, True.intro, q⟩
theorem mw (q : Q (.bl true) H) : bg K "str" Tg.isStr [.str a, .ty "str"] H Q := ⟨_, .str, rfl, True.intro, q⟩
theorem mJ (hs : aH K H p xs) (q : Q (.bl false) H) : bg K "str" Tg.isStr [.ref p, .ty "str"] H Q := ⟨_, .tup, rfl, ⟨xs, hs⟩, q⟩
theorem mH (hs : ak K H p xs) (q : Q (.bl false) H) : bg K "str" Tg.isStr [.ref p, .ty "str"] H Q := ⟨_, .lst, rfl, ⟨xs, hs⟩, q⟩
theorem iB (q : Q (.bl false) H) : bg K "tuple" Tg.isTup [.non, .ty "tuple"] H Q := ⟨_, .non, rfl, True.intro, q⟩
theorem iD (q : Q (.bl false) H) : bg K "tuple" Tg.isTup [.bl b, .ty "tuple"] H Q := ⟨_, .bl, rfl, True.intro, q⟩
theorem iG (q : Q (.bl false) H) : bg K "tuple" Tg.isTup [.int i, .ty "tuple"] H Q := ⟨_, .int, rfl, True.intro, q⟩
theorem iU (q : Q (.bl false) H) : bg K "tuple" Tg.isTup [.str a, .ty "tuple"] H Q := ⟨_, .str, rfl, True.intro, q⟩
theorem jw (hs : aH K H p xs) (q : Q (.bl true) H) : bg K "tuple" Tg.isTup [.ref p, .ty "tuple"] H Q := ⟨_, .tup, rfl, ⟨xs, hs⟩, q⟩
theorem jn (hs : ak K H p xs) (q : Q (.bl false) H) : bg K "tuple" Tg.isTup [.ref p, .ty "tuple"] H Q := ⟨_, .lst, rfl, ⟨xs, hs⟩, q⟩
theorem jP (q : Q (.bl false) H) : bg K "list" Tg.isLst [.non, .ty "list"] H Q := ⟨_, .non, rfl, True.intro, q⟩
theorem jX (q : Q (.bl false) H) : bg K "list" Tg.isLst [.bl b, .ty "list"] H Q := ⟨_, .bl, rfl, True.intro, q⟩
theorem jK (q : Q (.bl false) H) : bg K "list" Tg.isLst [.int i, .ty "list"] H Q := ⟨_, .int, rfl, True.intro, q⟩
theorem kc (q : Q (.bl false) H) : bg K "list" Tg.isLst [.str a, .ty "list"] H Q := ⟨_, .str, rfl, True.intro, q⟩
theorem kF (hs : aH K H p xs) (q : Q (.bl false) H) : bg K "list" Tg.isLst [.ref p, .ty "list"] H Q := ⟨_, .tup, rfl, ⟨xs, hs⟩, q⟩
theorem jH (hs : ak K H p xs) (q : Q (.bl true) H) : bg K "list" Tg.isLst [.ref p, .ty "list"] H Q := ⟨_, .lst, rfl, ⟨xs, hs⟩, q⟩
end
theorem uO {m n : Nat} {x y : Int} (h : My.Bd m x) (g : My.Bd n y) : My.Bd (m + n) (x * y) := h.mul g
theorem tP {m n : Nat} {x y : Int} (h : My.Bd m x) (g : My.Bd n y) : My.Bd (max m n + 1) (x + y) := (h.mono (show m <= max m n by omega)).add (g.mono (show n <= max m n by omega))
theorem vi {m n : Nat} {x y : Int} (h : My.Bd m x) (g : My.Bd n y) : My.Bd (max m n + 1) (x - y) := (h.mono (show m <= max m n by omega)).sub (g.mono (show n <= max m n by omega))
theorem pp {n : Int} (h1 : -1152921504606846976 < n) (h2 : n < 1152921504606846976) : My.Bd 60 n := by unfold My.Bd; omega
theorem uk : bootBuiltins "max" = some (.builtin "max") := by decide +kernel
theorem uQ : bootBuiltins "min" = some (.builtin "min") := by decide +kernel
theorem aa.but {H H2 H3 : Hp} {l : Addr} (s : aa H H2) (n : H l = none) (b : cB l H2 H3) : aa H H3 := fun c o e => b c o (fun z => by rw [z, n] at e; cases e) (s c o e)
theorem di {K : Fg} {l : Addr} {xs : List V} {H : Hp} {S : Prop} (h : ak K H l xs) (q : S) : wE K "list" (.ref l) H /\ S := ⟨.inl ⟨rfl, xs, h⟩, q⟩
theorem rJ {c : TT} {te : TE} {k : Nat} {σ σ' : St} {H : Hp} {R bk ct : St -> Hp -> Prop} {rt : VK} (b : Bool) (i1 i2 : Int) (hc : ∀ S : Bool -> Hp -> Prop, S b H -> c σ H S) (h1 : b = true -> ∀ S : V -> Hp -> Prop, S (.int i1) H -> te σ H S) (hold : dD σ k (.int i2)) (hs : cQ σ k (some (.int (if b = true then i1 else i2))) σ') (q : R σ' H) :
  rc c (ou te (dm k)) tNext ⟨R, rt, bk, ct⟩ σ H := by
 refine hc _ ?_
 cases b with
 | true =>
  refine mN (h1 rfl _ ?_)
  show R (σ.set k (some (.int i1))) H
  have := hs.eq
  rw [if_pos rfl] at this
  rw [this]; exact q
 | false =>
  refine mM ?_
  show R σ H
  have e := hs.eq
  rw [if_neg Bool.false_ne_true] at e
  have e2 : σ.set k (some (.int i2)) = σ := by
   apply List.ext_getElem?
   intro j
   rw [List.getElem?_set]
   split
   ·next z =>
    subst z
    have := hold.eq
    rw [this]
    split
    ·rfl
    ·next y => rw [List.getElem?_eq_none (by omega)] at this; cases this
   ·rfl
  rw [<- e2, e]; exact q
theorem mP {N : List Str} {vs : List V} {σ : St} {t : TS} {D : cP} {H : Hp} (h : bS N vs = σ) (q : t D σ H) : t D (bS N vs) H := by rw [h]; exact q
end L2
namespace L2
open PySem PySem.Spec PyProof.Rows
theorem jQ {X : Cx} {tg : Str} {sc : Scope} {fr : List (Str × Nat)} {osc : Scope} {N : List Str} (ho : X.env.scope = osc) (hN : X.N = N) (h : gM osc N tg sc fr = true) : fb X [tg] sc fr /\ sc.names.lookup tg = some .local := by
 have o := er ho hN h
 exact ⟨⟨o.kind, o.nocell, o.locs, o.fre, o.nd, o.vis⟩, o.tgl⟩
theorem qV {X : Cx} {elt iter c : Expr} {tg : Str} {ps pos : Pos} {sc : Scope} {fr : List (Str × Nat)} {wi : TI} {te : TE} {tc : TT} (hc : X.calm = true) (ok : fb X [tg] sc fr /\ sc.names.lookup tg = some .local) (hi : PI X (.Name tg ps) iter wi)
  (ht : ∀ cl C s3 H3 fp, PT (X.blk ([tg] ++ fr.map (·.1)) sc cl C s3 H3 fp) c tc) (he : ∀ cl C s3 H3 fp, PE (X.blk ([tg] ++ fr.map (·.1)) sc cl C s3 H3 fp) elt te) (hs : ∀ x, foldedSetIterable iter X.env x = pure x := by intro _; rfl) :
  PE X (.ListComp elt [⟨.Name tg ps, iter, [c], 0⟩] sc pos) (vZ 1 fr wi (dm 0) tc te) :=
 uv (tgs := [tg]) hc ok.1 hi (fun _ _ _ _ _ => aL ok.1.nd rfl (.inl (lookup_relabel_local ok.2)) (.inr (lookup_relabel_local ok.2))) (fun _ _ _ _ _ => qF (ht _ _ _ _ _)) he hs
def LCW (k : Nat) (st : St) (J : It) (g : TG) (tc : TT) (te : TE) (H1 : Hp) (Q : VK) : Prop := ∀ acc, H1 acc = none -> ∃ W : Nat -> Nat -> St -> Hp -> Prop, (∃ m, W 0 m (List.replicate k none ++ st) (upd H1 acc (.lst []))) /\ ∀ i m σb H2, W i m σb H2 ->
 (J.stop i H2 /\ Q (.ref acc) H2) ∨ (J.go i H2 /\ ∀ x H3, J.yld i H2 x H3 -> g x σb H3 fun σ2 H4 => tc σ2 H4 fun b H5 =>
  if b = true then te σ2 H5 fun v H6 => ∃ xs m', H6 acc = some (.lst xs) /\ xs.length < sizeLine /\ m' < m /\ W (i + 1) m' σ2 (upd H6 acc (.lst (xs ++ [v]))) else ∃ m', m' < m /\ W (i + 1) m' σ2 H5)
theorem xT {k : Nat} {fr : List (Str × Nat)} {wi : TI} {g : TG} {tc : TT} {te : TE} {σ : St} {H : Hp} {Q : VK} (h : wi σ H fun J H1 => LCW k (cO σ fr) J g tc te H1 Q) : vZ k fr wi g tc te σ H Q := h
def bn (p : Nat -> Bool) (f : Nat -> V) (n : Nat) : List V := ((List.range n).filter p).map f
theorem mC (p : Nat -> Bool) (f : Nat -> V) (n : Nat) : (bn p f n).length <= n := by
 unfold bn
 rw [List.length_map]
 exact Nat.le_trans (List.length_filter_le _ _) (by rw [List.length_range]; exact Nat.le_refl _)
theorem iz (p : Nat -> Bool) (f : Nat -> V) (n : Nat) : bn p f (n + 1) = if p n = true then bn p f n ++ [f n] else bn p f n := by
 unfold bn
 rw [List.range_succ, List.filter_append, List.map_append]
 by_cases h : p n = true
 ·rw [if_pos h, List.filter_cons_of_pos h]; rfl
 ·rw [if_neg h, List.filter_cons_of_neg h]; simp
theorem lcw {J : It} {st : St} {tc : TT} {te : TE} {H1 : Hp} {Q : VK} (n : Nat) (it f : Nat -> V) (p : Nat -> Bool) (hn : n <= sizeLine)
  (hgo : ∀ i H2, aa H1 H2 -> i < n -> J.go i H2 /\ ∀ x H3, J.yld i H2 x H3 -> H3 = H2 /\ x = it i) (hstop : ∀ H2, aa H1 H2 -> J.stop n H2)
  (ht : ∀ i H2 (S : Bool -> Hp -> Prop), i < n -> aa H1 H2 -> (∀ H3, aa H2 H3 -> S (p i) H3) -> tc (some (it i) :: st) H2 S)
  (he : ∀ i H2 (S : V -> Hp -> Prop), i < n -> p i = true -> aa H1 H2 -> (∀ H3, aa H2 H3 -> S (f i) H3) -> te (some (it i) :: st) H2 S)
  (fin : ∀ acc H2, H1 acc = none -> aa H1 H2 -> H2 acc = some (.lst (bn p f n)) -> Q (.ref acc) H2) : LCW 1 st J (dm 0) tc te H1 Q := by
 intro acc hacc
 refine ⟨fun i m σb H2 => m = n - i /\ i <= n /\ aa H1 H2 /\ H2 acc = some (.lst (bn p f i)) /\ ∃ u, σb = u :: st, ⟨n, by simp, Nat.zero_le _, aa.new hacc _, ad, none, rfl⟩, ?_⟩
 rintro i m σb H2 ⟨rfl, hi, sH, ha, u, rfl⟩
 by_cases hlt : i < n
 ·obtain ⟨g1, g2⟩ := hgo i H2 sH hlt
  refine .inr ⟨g1, fun x H3 y => ?_⟩
  obtain ⟨rfl, rfl⟩ := g2 x H3 y
  show tc (some (it i) :: st) H3 _
  refine ht i H3 _ hlt sH (fun H5 s5 => ?_)
  have ps := iz p f i
  by_cases hp : p i = true
  ·rw [if_pos hp] at ps ⊢
   refine he i H5 _ hlt hp (sH.trans s5) (fun H6 s6 => ?_)
   refine ⟨bn p f i, n - (i + 1), s6 _ _ (s5 _ _ ha), Nat.lt_of_le_of_lt (mC p f i) (by omega), by omega, rfl, hlt, ?_, by rw [ad, ps], _, rfl⟩
   exact aa.but (sH.trans (s5.trans s6)) hacc cB.upd
  ·rw [if_neg hp] at ps ⊢
   exact ⟨n - (i + 1), by omega, rfl, hlt, sH.trans s5, by rw [ps]; exact s5 _ _ ha, _, rfl⟩
 ·have e : i = n := by omega
  subst e
  exact .inl ⟨hstop H2 sH, fin acc H2 hacc sH ha⟩
end L2
namespace L2
open PySem PySem.Spec PyProof.Rows
section
variable {X : Cx} {elt iter tg : Expr} {ifs : List Expr} {tgs : List Str} {pos : Pos} {sc : Scope} {fr : List (Str × Nat)} {wi : TI} {te : TE} {g : TG} {tc : TT}
end
def tV (K : Fg) : List V -> Hp -> VK -> Prop := fun xs H Q => ∃ p ys, xs = [.ref p] /\ (ak K H p ys ∨ aH K H p ys) /\ Q (.int ys.length) H
theorem nc {X : Cx} : cq X (.builtin "len") (tV X.K) := aK
end L2
namespace L2
open PySem PySem.Spec PyProof.Rows
inductive cg (K : Fg) (H : Hp) : Nat -> V -> V -> Prop
 | int {n : Nat} {i : Int} : cg K H n (.int i) (.int i)
 | str {n : Nat} {x : Str} : cg K H n (.str x) (.str x)
 | bl {n : Nat} {b : Bool} : cg K H n (.bl b) (.bl b)
 | non {n : Nat} : cg K H n .non .non
 | ref {n : Nat} {a : Addr} : cg K H n (.ref a) (.ref a)
 | tup {n : Nat} {p q : Addr} {xs ys : List V} (h1 : aH K H p xs) (h2 : aH K H q ys) (hl : xs.length = ys.length) (he : ∀ (j : Nat) (x y : V), xs[j]? = some x -> ys[j]? = some y -> cg K H n x y) : cg K H (n + 1) (.ref p) (.ref q)
 | lst {n : Nat} {p q : Addr} {xs ys : List V} (h1 : ak K H p xs) (h2 : ak K H q ys) (hl : xs.length = ys.length) (he : ∀ (j : Nat) (x y : V), xs[j]? = some x -> ys[j]? = some y -> cg K H n x y) : cg K H (n + 1) (.ref p) (.ref q)
 | dct {n : Nat} {p q : Addr} (h1 : H p = some (.dK [])) (h2 : H q = some (.dK [])) : cg K H n (.ref p) (.ref q)
theorem jg {P P' : Program} {w w' : World} {h : Heap} {a : Addr} (d : h.DictOf (eV P w) a []) : h.DictOf (eV P' w') a [] := by
 obtain ⟨o, es, ep, ho, he, hd, hk, hp, hn⟩ := d
 obtain ⟨es⟩ := es
 cases hp
 exact ⟨o, _, ep, ho, he, hd, fun _ h => absurd h (by simp), .nil, hn⟩
theorem aN {xs : List V} {us : List Value} (h : am xs us) : ∀ {j : Nat} {u : Value}, us[j]? = some u -> ∃ x, xs[j]? = some x /\ aw x u := by
 induction h with
 | nil => intro j u e; simp at e
 | cons r rr ih =>
  intro j u e
  cases j with
  | zero => exact ⟨_, rfl, by rw [List.getElem?_cons_zero] at e; cases e; exact r⟩
  | succ j => exact ih (by rw [List.getElem?_cons_succ] at e; exact e)
theorem ck {n : Nat} : (List.range n).all (fun _ => true) = true := by rw [List.all_eq_true]; intro _ _; rfl
section
variable {X : Cx} {pins : Pn} {σ : St} {H : Hp} {s : Shared}
theorem ae.alike (I : ae X pins σ H s) {n : Nat} {x y : V} (h : cg X.K H n x y) : ∀ {A : Around} {u v : Value}, A.units + n < cLine -> aw x u -> aw y v -> SeqAt.EqAt A s u v true := by
 induction h with
 | @int n i =>
  intro A u v hu r1 r2
  obtain ⟨t, rfl⟩ := r1
  obtain ⟨t', rfl⟩ := r2
  have := SeqAt.EqAt.int_int (A := A) (s := s) i t i t'
  rw [beq_self_eq_true] at this
  exact this
 | @str n x =>
  intro A u v hu r1 r2
  obtain ⟨t, rfl⟩ := r1
  obtain ⟨t', rfl⟩ := r2
  have := SeqAt.EqAt.str_str (A := A) (s := s) x t x t'
  rw [beq_self_eq_true] at this
  exact this
 | bl => intro A u v hu r1 r2; cases r1; cases r2; exact SeqAt.EqAt.same _
 | non => intro A u v hu r1 r2; cases r1; cases r2; exact SeqAt.EqAt.same _
 | ref => intro A u v hu r1 r2; cases r1; cases r2; exact SeqAt.EqAt.same _
 | @tup n p q xs ys h1 h2 hl he ih =>
  intro A u v hu r1 r2
  cases r1
  cases r2
  by_cases e : p = q
  ·subst e; exact SeqAt.EqAt.same _
  ·refine SeqAt.EqAt.of_refs e ?_
   obtain ⟨its, v1, p1, _⟩ := I.tuple h1
   obtain ⟨its2, v2, p2, _⟩ := I.tuple h2
   have l1 := v1.length
   have l2 := v2.length
   have key := SeqAt.RcAt.tuples (A := A) (s := s) (l := p) (b := q) (items := its.toArray) (items2 := its2.toArray) (e := fun _ => true) p1 p2 (by omega) (fun j g1 g2 => by
    have g1' : j < its.length := by simpa using g1
    have g2' : j < its2.length := by simpa using g2
    obtain ⟨x, ex, rx⟩ := aN v1 (List.getElem?_eq_getElem g1')
    obtain ⟨y, ey, ry⟩ := aN v2 (List.getElem?_eq_getElem g2')
    have w1 : its.toArray[j] = its[j] := by simp
    have w2 : its2.toArray[j] = its2[j] := by simp
    rw [w1, w2]
    exact ih j x y ex ey (by show A.units + 1 + n < cLine; omega) rx ry)
   have e2 : ((List.range (min its.toArray.size its2.toArray.size)).all (fun _ => true) && its.toArray.size == its2.toArray.size) = true := by
    rw [ck, Bool.true_and, List.size_toArray, List.size_toArray, <- l1, <- l2, hl, beq_self_eq_true]
   rw [e2] at key
   exact key
 | @lst n p q xs ys h1 h2 hl he ih =>
  intro A u v hu r1 r2
  cases r1
  cases r2
  by_cases e : p = q
  ·subst e; exact SeqAt.EqAt.same _
  ·refine SeqAt.EqAt.of_refs e ?_
   obtain ⟨its, v1, p1, _⟩ := I.list h1
   obtain ⟨its2, v2, p2, _⟩ := I.list h2
   have l1 := v1.length
   have l2 := v2.length
   have key := SeqAt.RcAt.lists (A := A) (s := s) (l := p) (b := q) (items := its.toArray) (items2 := its2.toArray) (e := fun _ => true) p1.isList p2.isList (by rw [List.size_toArray, List.size_toArray, <- l1, <- l2, hl]) (by omega) (fun j g1 g2 => by
    have g1' : j < its.length := by simpa using g1
    have g2' : j < its2.length := by simpa using g2
    obtain ⟨x, ex, rx⟩ := aN v1 (List.getElem?_eq_getElem g1')
    obtain ⟨y, ey, ry⟩ := aN v2 (List.getElem?_eq_getElem g2')
    have w1 : its.toArray[j] = its[j] := by simp
    have w2 : its2.toArray[j] = its2[j] := by simp
    rw [w1, w2]
    exact ih j x y ex ey (by show A.units + 1 + n < cLine; omega) rx ry)
   rw [ck] at key
   exact key
 | @dct n p q h1 h2 =>
  intro A u v hu r1 r2
  cases r1
  cases r2
  by_cases e : p = q
  ·subst e; exact SeqAt.EqAt.same _
  ·refine SeqAt.EqAt.of_refs e fun prog w E Q hq => ?_
   obtain ⟨_, z1, vs1, k1, d1⟩ := (show bh X.prog X.w H s.heap p (.dK []) from I.hok p _ h1)
   obtain ⟨_, z2, vs2, k2, d2⟩ := (show bh X.prog X.w H s.heap q (.dK []) from I.hok q _ h2)
   cases k1
   cases k2
   exact PySem.W.keq_eq (r := true) z1 z2 (jg (P' := prog) (w' := w) d1) (jg d2) (by omega) (fun _ => .nil) hq
def jC (K : Fg) (H : Hp) (p q : Addr) : Prop := ∃ (n : Nat) (xs ys : List V), n <= 100 /\ ((aH K H p xs /\ aH K H q ys) ∨ (ak K H p xs /\ ak K H q ys)) /\ xs.length = ys.length /\ ∀ (j : Nat) (x y : V), xs[j]? = some x -> ys[j]? = some y -> cg K H n x y
def wo (K : Fg) (b : Bool) : R2 := fun x y H Q => ∃ p q, x = .ref p /\ y = .ref q /\ jC K H p q /\ Q (.bl b) H
theorem lF {K : Fg} {H : Hp} {Q : VK} {b : Bool} {p q : Addr} (h : jC K H p q) (k : Q (.bl b) H) : wo K b (.ref p) (.ref q) H Q := ⟨p, q, rfl, rfl, h, k⟩
theorem ox (hu : X.A.units + 150 < cLine) : eQ X (compareOp .Eq) (wo X.K true) := by
 intro pins s σ H x y v u Q I rx ry h
 obtain ⟨p, q, rfl, rfl, ⟨n, xs, ys, hn, hs, hl, he⟩, k⟩ := h
 cases rx
 cases ry
 rcases hs with ⟨h1, h2⟩ | ⟨h1, h2⟩
 ·obtain ⟨its, v1, p1, _⟩ := I.tuple h1
  obtain ⟨its2, v2, p2, _⟩ := I.tuple h2
  have l1 := v1.length
  have l2 := v2.length
  have key := SeqAt.RcAt.tuples (A := X.A) (s := s) (l := p) (b := q) (items := its.toArray) (items2 := its2.toArray) (e := fun _ => true) p1 p2 (by omega) (fun j g1 g2 => by
   have g1' : j < its.length := by simpa using g1
   have g2' : j < its2.length := by simpa using g2
   obtain ⟨x, ex, rx⟩ := aN v1 (List.getElem?_eq_getElem g1')
   obtain ⟨y, ey, ry⟩ := aN v2 (List.getElem?_eq_getElem g2')
   have w1 : its.toArray[j] = its[j] := by simp
   have w2 : its2.toArray[j] = its2[j] := by simp
   rw [w1, w2]
   exact I.alike (he j x y ex ey) (by show X.A.units + 1 + n < cLine; omega) rx ry)
  have e2 : ((List.range (min its.toArray.size its2.toArray.size)).all (fun _ => true) && its.toArray.size == its2.toArray.size) = true := by
   rw [ck, Bool.true_and, List.size_toArray, List.size_toArray, <- l1, <- l2, hl, beq_self_eq_true]
  rw [e2] at key
  exact key _ _ _ _ ⟨.bl true, H, I, rfl, k⟩
 ·obtain ⟨its, v1, p1, _⟩ := I.list h1
  obtain ⟨its2, v2, p2, _⟩ := I.list h2
  have l1 := v1.length
  have l2 := v2.length
  have key := SeqAt.RcAt.lists (A := X.A) (s := s) (l := p) (b := q) (items := its.toArray) (items2 := its2.toArray) (e := fun _ => true) p1.isList p2.isList (by rw [List.size_toArray, List.size_toArray, <- l1, <- l2, hl]) (by omega) (fun j g1 g2 => by
   have g1' : j < its.length := by simpa using g1
   have g2' : j < its2.length := by simpa using g2
   obtain ⟨x, ex, rx⟩ := aN v1 (List.getElem?_eq_getElem g1')
   obtain ⟨y, ey, ry⟩ := aN v2 (List.getElem?_eq_getElem g2')
   have w1 : its.toArray[j] = its[j] := by simp
   have w2 : its2.toArray[j] = its2[j] := by simp
   rw [w1, w2]
   exact I.alike (he j x y ex ey) (by show X.A.units + 1 + n < cLine; omega) rx ry)
  rw [ck] at key
  exact key _ _ _ _ ⟨.bl true, H, I, rfl, k⟩
theorem nL (hu : X.A.units + 150 < cLine) : eQ X (compareOp .NotEq) (wo X.K false) := by
 intro pins s σ H x y v u Q I rx ry h
 obtain ⟨p, q, rfl, rfl, ⟨n, xs, ys, hn, hs, hl, he⟩, k⟩ := h
 cases rx
 cases ry
 rcases hs with ⟨h1, h2⟩ | ⟨h1, h2⟩
 ·obtain ⟨its, v1, p1, _⟩ := I.tuple h1
  obtain ⟨its2, v2, p2, _⟩ := I.tuple h2
  have l1 := v1.length
  have l2 := v2.length
  have key := SeqAt.RcNeAt.tuples (A := X.A) (s := s) (l := p) (b := q) (items := its.toArray) (items2 := its2.toArray) (e := fun _ => true) p1 p2 (by omega) (fun j g1 g2 => by
   have g1' : j < its.length := by simpa using g1
   have g2' : j < its2.length := by simpa using g2
   obtain ⟨x, ex, rx⟩ := aN v1 (List.getElem?_eq_getElem g1')
   obtain ⟨y, ey, ry⟩ := aN v2 (List.getElem?_eq_getElem g2')
   have w1 : its.toArray[j] = its[j] := by simp
   have w2 : its2.toArray[j] = its2[j] := by simp
   rw [w1, w2]
   exact I.alike (he j x y ex ey) (by show X.A.units + 1 + n < cLine; omega) rx ry)
  have e2 : (!((List.range (min its.toArray.size its2.toArray.size)).all (fun _ => true) && its.toArray.size == its2.toArray.size)) = false := by
   rw [ck, Bool.true_and, List.size_toArray, List.size_toArray, <- l1, <- l2, hl, beq_self_eq_true]; rfl
  rw [e2] at key
  exact key _ _ _ _ ⟨.bl false, H, I, rfl, k⟩
 ·obtain ⟨its, v1, p1, _⟩ := I.list h1
  obtain ⟨its2, v2, p2, _⟩ := I.list h2
  have l1 := v1.length
  have l2 := v2.length
  have key := SeqAt.RcNeAt.lists (A := X.A) (s := s) (l := p) (b := q) (items := its.toArray) (items2 := its2.toArray) (e := fun _ => true) p1.isList p2.isList (by rw [List.size_toArray, List.size_toArray, <- l1, <- l2, hl]) (by omega) (fun j g1 g2 => by
   have g1' : j < its.length := by simpa using g1
   have g2' : j < its2.length := by simpa using g2
   obtain ⟨x, ex, rx⟩ := aN v1 (List.getElem?_eq_getElem g1')
   obtain ⟨y, ey, ry⟩ := aN v2 (List.getElem?_eq_getElem g2')
   have w1 : its.toArray[j] = its[j] := by simp
   have w2 : its2.toArray[j] = its2[j] := by simp
   rw [w1, w2]
   exact I.alike (he j x y ex ey) (by show X.A.units + 1 + n < cLine; omega) rx ry)
  rw [ck] at key
  exact key _ _ _ _ ⟨.bl false, H, I, rfl, k⟩
end
theorem bL.un150 {k : Nat} {A : Around} (r : bL k A) : A.units + 150 < cLine := by have := r.un; omega
end L2
namespace L2
open PySem PySem.Spec PyProof.Rows PySem.W PySem.Calls
theorem cJ : ∀ {ns : List Int}, WData.weightAll (ns.map WData.int) <= 2 ^ 20 -> ∀ x ∈ ns, My.Bd 1048576 x
 | y :: r, h, x, hx => by
  have h' : WData.weight (.int y) + 1 + WData.weightAll (r.map WData.int) <= 2 ^ 20 := h
  rcases List.mem_cons.mp hx with e | e
  ·subst e
   have w : WData.weight (.int x) = (if x == 0 then 0 else x.natAbs.log2 + 1) := by
    first | rfl | simp [WData.weight]
   unfold My.Bd
   by_cases z : x = 0
   ·subst z
    exact Nat.two_pow_pos _
   ·have zb : (x == 0) = false := by simpa using z
    rw [w, zb] at h'
    have h2 : x.natAbs.log2 < 1048576 := by
     have e20 : (2 : Nat) ^ 20 = 1048576 := by decide
     rw [e20] at h'
     simp only [Bool.false_eq_true, if_false] at h'
     omega
    exact (Nat.log2_lt (by omega)).mp h2
  ·exact cJ (by omega) x e
theorem ii {l : OpenLaw} {n : Nat} {q : Program} {loose : List Str} {XP : (Str -> Option Value) -> Heap -> Prop} {YP : World -> Heap -> Prop} {d : DefRec}
  (hn : l.most = some n) (hdf : d.params.defaults = [])
  (call : ∀ (w : World) (s₀ s₁ : Shared) (mg mb : Str -> Option Value) (fa : Addr) (o : Obj) (pm cd doc : Value) (a : Addr) (vs : List Value) (ns : List Int),
   Ground q loose [] XP w s₀ mg mb s₁.heap -> YP w s₁.heap ->
   s₁.heap.get? fa = some o -> o.data = .func (docDef d.name d.params d.body d.scope pm cd doc) -> s₁.heap.CodeRec cd d.name -> mg d.name = some (.ref fa) ->
   s₁.heap.get? a = some { cls := .type "list", data := .seq vs.toArray } -> IntsAre vs ns -> ns.length <= n -> (∀ x ∈ ns, My.Bd 1048576 x) -> s₁.gens = #[] ->
   codeAny (model l.prog w) callerA (.call (.ref fa) ⟨[.ref a], []⟩) (fun r s' => r = .ok (.ret (.bool true)) /\ OldK s₁.heap s'.heap /\ s'.os = s₁.os /\ AllBare s'.gens) s₁) :
  WalkO q loose XP YP l.row.toRowW d [] (fun f vs => PySem.call f vs) := by
 intro w s₀ s₁ mg mb G Y fa o pm cd doc dV kV ho hd hcd hD hmg hg args vals as hpre hlay hrd hwl hlo
 obtain rfl : dV = .none := Dflts.none hD hdf
 obtain rfl : kV = .none := Dflts.noKw hD
 obtain ⟨a, vs, ns, rfl, rfl, hobj, hints, hlen⟩ := Att.script_of hn hpre hwl
 have hb : ∀ x ∈ ns, My.Bd 1048576 x := by
  have h1 : (WData.list (ns.map WData.int)).layable = true := by
   have h2 : ([WData.list (ns.map WData.int)].all WData.layable) = true := hlay
   simpa using h2
  obtain ⟨_, _, h3⟩ := layableW_iff.mp h1
  refine cJ ?_
  have e : WData.weight (.list (ns.map WData.int)) = WData.weightAll (ns.map WData.int) := by
   first | rfl | simp [WData.weight]
  rw [e] at h3
  exact h3
 refine enter_call (codeAny_mono (call w s₀ s₁ mg mb fa o pm cd doc a vs ns G Y ho (fd_plain hd) hcd hmg hobj hints hlen hb hg) fun r s' hq => ?_)
 obtain ⟨rfl, h2, h3, h4⟩ := hq
 exact ⟨.inl ⟨.bool true, .bool true, [], rfl, fun _ => rfl, .bool true, Att.post_true l _, fun _ => ⟨List.Pairwise.nil, fun _ hm => (nomatch hm)⟩⟩, h2, h3, h4⟩
theorem walk_ofB {l : PySem.W.OpenLaw} {n k : Nat} {q : Program} {loose : List Str} {XP : (Str -> Option Value) -> Heap -> Prop} {YP : World -> Heap -> Prop} {d : DefRec} {K : Params -> Fg} {CX : World -> CXT} {sp : World -> Sp} {x : Str}
  (hn : l.most = some n) (hn2 : n <= sizeLine) (hdf : d.params.defaults = []) (hr : bL k callerA)
  (hY : ∀ (w : World) (h : Heap), YP w h -> (K w.params).In h)
  (F : ∀ (w : World) (mg : Str -> Option Value) (fa : Addr) (h : Heap), (K w.params).In h -> h.Ns mainGlobals mg -> mg d.name = some (.ref fa) ->
   ∃ fd : FuncData, (∀ (s : Shared) (u : Value), BindsTo s fd ⟨[u], []⟩ [(x, u)]) /\
    ∀ base : Heap, (K w.params).In base -> base.Ns mainGlobals mg -> bA l.prog w (K w.params) mg base (CX w) k fa fd [x] (sp w))
  (hsp : ∀ (w : World) (H : Hp) (a : Addr) (ns : List Int), ns.length <= n -> (∀ x ∈ ns, My.Bd 1048576 x) -> qo H -> ak (K w.params) H a (ns.map V.int) -> sp w [.ref a] H (fun v _ => v = .bl true) fun _ _ _ => False)
  (hCX : ∀ (w : World) (H : Hp) (s : Shared) (e : Value) (s' : Shared), CX w [] H s (fun _ _ _ => False) e s' -> False) :
  PySem.W.WalkO q loose XP YP l.row.toRowW d [] (fun f vs => PySem.call f vs) := by
 refine ii hn hdf fun w s₀ s₁ mg mb fa o pm cd doc a vs ns G Y ho hd hcd hmg hobj hints hlen hbits hg => ?_
 have KX := hY w _ Y
 obtain ⟨fd, hb, hF⟩ := F w mg fa _ KX G.T.g hmg
 exact iw KX G.T.g G.T.b G.T.builtins G.T.nolimit hg hobj hints (Nat.le_trans hlen hn2) hr hF hb (fun H hO hS => hsp w H a ns hlen hbits hO hS) fun H e s' => hCX w H s₁ e s'
end L2
namespace L2
open PySem PySem.Spec PyProof.Rows
section
variable {X : Cx}
def wU (K : Fg) (f : Bool -> Bool) : R2 := fun x y H Q => ∃ (p q : Addr) (xs : List V), x = .ref p /\ y = .ref q /\ ak K H p xs /\ ak K H q [] /\ Q (.bl (f xs.isEmpty)) H
theorem vg (hu : X.A.units < cLine) : eQ X (compareOp .NotEq) (wU X.K (fun b => !b)) := by
 intro pins s σ H x y v u Q I rx ry h
 obtain ⟨p, q, xs, rfl, rfl, h1, h2, k⟩ := h
 cases rx
 cases ry
 obtain ⟨its, v1, p1, _⟩ := I.list h1
 obtain ⟨its2, v2, p2, _⟩ := I.list h2
 have l1 := v1.length
 have l2 := v2.length
 cases xs with
 | nil =>
  have e1 : its.length = 0 := by rw [<- l1]; rfl
  have e2 : its2.length = 0 := by rw [<- l2]; rfl
  have key := SeqAt.RcNeAt.lists (A := X.A) (s := s) (l := p) (b := q) (items := its.toArray) (items2 := its2.toArray) (e := fun _ => true) p1.isList p2.isList (by rw [List.size_toArray, List.size_toArray, e1, e2]) hu (fun j g1 g2 => by
   have g1' : j < its.length := by simpa using g1
   omega)
  have e3 : (List.range its.toArray.size).all (fun _ => true) = true := by rw [List.all_eq_true]; intro _ _; rfl
  rw [e3] at key
  exact key _ _ _ _ ⟨.bl false, H, I, rfl, k⟩
 | cons y r =>
  have e1 : its.length = r.length + 1 := by rw [<- l1]; rfl
  have e2 : its2.length = 0 := by rw [<- l2]; rfl
  have key := SeqAt.RcNeAt.lists_lengths (A := X.A) (s := s) (l := p) (b := q) (items := its.toArray) (items2 := its2.toArray) p1.isList p2.isList (by rw [List.size_toArray, List.size_toArray, e1, e2]; rfl) hu
  exact key _ _ _ _ ⟨.bl true, H, I, rfl, k⟩
end
section
variable {σ : St} {H : Hp} {Q : VK} {K : Fg} {p q : Addr} {xs : List V} {f : Bool -> Bool}
theorem yF (h1 : ak K H p xs) (h2 : ak K H q []) (k : Q (.bl (f xs.isEmpty)) H) : wU K f (.ref p) (.ref q) H Q := ⟨p, q, xs, rfl, rfl, h1, h2, k⟩
end
end L2
namespace L2
open PySem PySem.Spec PyProof.Rows
def tq (ns : List Int) (m : Int) : Prop := m ∈ ns /\ ∀ n ∈ ns, n <= m
def AB (K : Fg) : List V -> Hp -> VK -> Prop := fun xs H Q => ∃ (p : Addr) (ns : List Int) (m : Int), xs = [.ref p] /\ ak K H p (ns.map V.int) /\ tq ns m /\ Q (.int m) H
theorem z_max {K : Fg} {H : Hp} {Q : VK} {p : Addr} {ns : List Int} {m : Int} (h : ak K H p (ns.map V.int)) (hm : tq ns m) (q : Q (.int m) H) : AB K [.ref p] H Q := ⟨p, ns, m, rfl, h, hm, q⟩
section
variable {prog : Program} {w : World} {A : Around} {R : Result -> Shared -> Prop} {I : Addr} {fp wr : List Addr} {n : Nat} {P : Nat -> Value -> Prop} {St : Nat -> Heap -> Prop} {kw : List (Str × Value)}
end
section
variable {X : Cx}
end
end L2
namespace L2
open PySem PySem.Spec PyProof.Rows
def zQ : R2 := fun x y H Q => ∃ a b : Bool, x = .bl a /\ y = .bl b /\ Q (.bl (a == b)) H
section
variable {σ : St} {H : Hp} {Q : VK}
theorem nJ {to ti : TE} {t : TSet} {v : V} {S : St -> Hp -> Prop} (h : to σ H fun o H1 => ti σ H1 fun i H2 => t o i v H2 fun H3 => S σ H3) : yT to ti t v σ H S := h
theorem nQ {p : Addr} {xs : List V} {k : Int} {j : Nat} {v : V} {S : Hp -> Prop} (h : H p = some (.lst xs)) (hj : qD xs.length k = some j) (q : ∀ H', cB p H H' -> H' p = some (.lst (xs.set j v)) -> S H') : rSetL (.ref p) (.int k) v H S := ⟨p, xs, k, j, rfl, rfl, h, hj, q _ cB.upd ad⟩
end
def yV (st : St) (J : It) (te : TE) (H1 : Hp) (Q : VK) : Prop := ∀ acc, H1 acc = none -> ∃ W : Nat -> Nat -> Hp -> Prop, (∃ m, W 0 m (upd H1 acc (.lst []))) /\ ∀ i m H2, W i m H2 ->
 (J.stop i H2 /\ Q (.ref acc) H2) ∨ (J.go i H2 /\ ∀ x H3, J.yld i H2 x H3 -> te (some x :: st) H3 fun v H4 => ∃ xs m', H4 acc = some (.lst xs) /\ xs.length < sizeLine /\ m' < m /\ W (i + 1) m' (upd H4 acc (.lst (xs ++ [v]))))
theorem xy {fr : List (Str × Nat)} {wi : TI} {te : TE} {σ : St} {H : Hp} {Q : VK} (h : wi σ H fun J H1 => yV (cO σ fr) J te H1 Q) : xM fr wi te σ H Q := h
theorem yH {J : It} {j : Int} {st : St} {te : TE} {H : Hp} {Q : VK} (h1 : -(2 ^ 62) <= j) (h2 : j < 2 ^ 62) (q : yV st J te H Q) : -(2 ^ 62) <= j /\ j < 2 ^ 62 /\ yV st J te H Q := ⟨h1, h2, q⟩
theorem mj {lo : Int} {n : Nat} {st : St} {te : TE} {H1 : Hp} {Q : VK} (Pv : Nat -> List V -> Hp -> Prop) (hn : n <= sizeLine) (h0 : Pv 0 [] H1)
  (hup : ∀ i xs H2 acc o, H1 acc = none -> Pv i xs H2 -> Pv i xs (upd H2 acc o))
  (step : ∀ i xs acc H2 (S : V -> Hp -> Prop), i < n -> H1 acc = none -> Pv i xs H2 -> H2 acc = some (.lst xs) -> (∀ v H3, Pv (i + 1) (xs ++ [v]) H3 -> H3 acc = some (.lst xs) -> S v H3) -> te (some (.int (lo + (i : Nat))) :: st) H2 S)
  (fin : ∀ acc xs H2, H1 acc = none -> xs.length = n -> Pv n xs H2 -> H2 acc = some (.lst xs) -> Q (.ref acc) H2) : yV st (ni lo n) te H1 Q := by
 intro acc hacc
 refine ⟨fun i m H2 => ∃ xs, m = n - i /\ i <= n /\ xs.length = i /\ Pv i xs H2 /\ H2 acc = some (.lst xs), ⟨n, [], by simp, Nat.zero_le _, rfl, hup _ _ _ _ _ hacc h0, ad⟩, ?_⟩
 rintro i m H2 ⟨xs, rfl, hi, hx, pv, ha⟩
 by_cases hlt : i < n
 ·refine .inr ⟨hlt, fun x H3 y => ?_⟩
  obtain ⟨e, y⟩ := y
  subst e y
  refine step i xs acc _ _ hlt hacc pv ha fun v H4 pv4 e4 => ⟨xs, n - (i + 1), e4, by omega, by omega, xs ++ [v], rfl, hlt, by rw [List.length_append, hx]; rfl, hup _ _ _ _ _ hacc pv4, ad⟩
 ·have e : i = n := by omega
  subst e
  exact .inl ⟨Nat.le_refl _, fin acc xs H2 hacc hx pv ha⟩
theorem xa {H : Hp} {Q : VK} {a b : Bool} (q : Q (.bl (decide (a = b))) H) : rEq (.bl a) (.bl b) H Q := by
 refine ⟨rfl, ?_⟩
 have e : decide (V.bl a = V.bl b) = decide (a = b) := by
  by_cases h : a = b
  ·subst h; simp
  ·rw [decide_eq_false h, decide_eq_false (fun z => h (V.bl.inj z))]
 rw [e]; exact q
end L2
namespace L2
open PySem PySem.Spec PyProof.Rows PySem.Builtin PySem.Builtin.Str
section
variable {X : Cx}
end
section
variable {σ : St} {H : Hp} {Q : VK} {te : TE}
end
end L2
namespace L2
open PySem PySem.Spec PyProof.Rows PySem.Builtin PySem.Builtin.Str
section
variable {X : Cx}
end
end L2
namespace My
open PySem PySem.NumText
def dg (n : Nat) : List Nat := (Nat.toDigits 10 n).map Char.toNat
def txt (n : Int) : List Nat := if n < 0 then 45 :: dg n.natAbs else dg n.natAbs
def hd (A : List Nat) : List Nat := if A.head? = some 45 then A.tail else A
def plain (cs : List Nat) : Prop := cs ≠ [] /\ cs.length <= 60 /\ ¬ (cs.head? = some 48 /\ cs ≠ [48]) /\ AllDigits cs
def ok0 (A : List Nat) : Prop := plain (hd A) /\ A ≠ [45, 48]
end My
namespace My
open PySem PySem.NumText PySem.StrLaws
abbrev cs (z : Str) : List Nat := z.cps.toList
end My
namespace My
open PySem PySem.NumText
def rV (n : Nat) : List Nat := [48 + n / 1000, 48 + n / 100 % 10, 48 + n / 10 % 10, 48 + n % 10]
def nP (n : Nat) : List Nat := [48 + n / 10, 48 + n % 10]
def dtx (y m e : Nat) : List Nat := rV y ++ 45 :: (nP m ++ 45 :: nP e)
end My
namespace My
open PySem PySem.NumText PySem.StrLaws PySem.Builtin PySem.Builtin.Str
theorem oY (n : Nat) (h : n < 10000) : AllDigits (rV n) := by
 intro c hc
 unfold rV at hc
 simp only [List.mem_cons, List.not_mem_nil, or_false] at hc
 rcases hc with e | e | e | e <;> omega
theorem iR (n : Nat) (h : n < 100) : AllDigits (nP n) := by
 intro c hc
 unfold nP at hc
 simp only [List.mem_cons, List.not_mem_nil, or_false] at hc
 rcases hc with e | e <;> omega
theorem pU {n : Nat} (h : n < 10000) : digitsVal (rV n) = n := by
 show ((((0 * 10 + (48 + n / 1000 - 48)) * 10 + (48 + n / 100 % 10 - 48)) * 10 + (48 + n / 10 % 10 - 48)) * 10 + (48 + n % 10 - 48)) = n
 omega
theorem iN {n : Nat} (h : n < 100) : digitsVal (nP n) = n := by
 show ((0 * 10 + (48 + n / 10 - 48)) * 10 + (48 + n % 10 - 48)) = n
 omega
def pZ (c : List Nat) (y m e : Int) : Prop := eI y m e /\ c = dtx y.toNat m.toNat e.toNat
theorem eI.bd {y m e : Int} (v : eI y m e) : y.toNat < 10000 /\ m.toNat < 100 /\ e.toNat < 100 := by
 have v1 := v.y2
 have v2 := v.m2
 have v3 := v.e2
 have v4 : rs y m <= 31 := (kJ (L := fw y) v.m1 v.m2).2
 omega
theorem pZ.parts {c : List Nat} {y m e : Int} (d : pZ c y m e) : ∃ A B C, c = A ++ 45 :: (B ++ 45 :: C) /\ A.length = 4 /\ AllDigits A /\ B.length = 2 /\ AllDigits B /\ C.length = 2 /\ AllDigits C /\ y = (digitsVal A : Nat) /\ m = (digitsVal B : Nat) /\ e = (digitsVal C : Nat) := by
 obtain ⟨v, rfl⟩ := d
 obtain ⟨w1, w2, w3⟩ := v.bd
 have y1 := v.y1
 have m1 := v.m1
 have z1 := v.e1
 exact ⟨_, _, _, rfl, rfl, oY _ w1, rfl, iR _ w2, rfl, iR _ w3, by rw [pU w1]; omega, by rw [iN w2]; omega, by rw [iN w3]; omega⟩
end My
namespace L2
open PySem PySem.Spec PyProof.Rows
def yl : R2 := fun x y H Q => ∃ a b : Bool, x = .bl a /\ y = .bl b /\ Q (.bl (a != b)) H
theorem wP {H : Hp} {Q : VK} {a b : Bool} (q : Q (.bl (!decide (a = b))) H) : wD (.bl a) (.bl b) H Q := by
 refine ⟨rfl, ?_⟩
 have e : decide (V.bl a = V.bl b) = decide (a = b) := by cases a <;> cases b <;> rfl
 rw [e]; exact q
end L2
namespace L2
open PySem PySem.Spec PyProof.Rows
def oT (K : Fg) : R2 := fun x y H Q => ∃ l m xs zs, x = .ref l /\ y = .ref m /\ ak K H l xs /\ ak K H m zs /\ xs.length + zs.length <= sizeLine /\ ∀ p, H p = none -> Q (.ref p) (upd H p (.lst (xs ++ zs)))
theorem dH {X : Cx} : eQ X (binaryOp .Add) (oT X.K) := by
 intro pins s σ H x y v u Q I rx ry h
 obtain ⟨l, b, xs, zs, rfl, rfl, hH, hB, hz, q⟩ := h
 cases rx
 cases ry
 obtain ⟨its, r, p1, _⟩ := I.list hH
 obtain ⟨its2, r2, p2, _⟩ := I.list hB
 have l1 := r.length
 have l2 := r2.length
 obtain ⟨⟨cls, dd, data, sl⟩, ho, hc, n, hd⟩ := p1.isList
 obtain ⟨⟨cls2, dd2, data2, sl2⟩, ho2, hc2, n2, hd2⟩ := p2.isList
 simp only at hc hd hc2 hd2
 subst hc hd hc2 hd2
 have e : its.toArray ++ its2.toArray = (its ++ its2).toArray := by simp
 refine concat_meets ⟨_, ho, rfl⟩ ⟨_, ho2, rfl⟩ noFill_list_add seq_list_add PySem.F.slot_list_add PySem.F.entry_list_add (PySem.F.args_list_add_2 _ _) (list_addW l b its.toArray its2.toArray n n2 dd dd2 sl sl2 (by rw [List.size_toArray, List.size_toArray]; omega)) ⟨ho, ho2, ?_⟩
 rw [e]
 exact ⟨.ref _, _, I.lnew (t' := s.toks) (r.append r2) (by rw [List.length_append]; omega), rfl, q _ I.fresh⟩
theorem jF {K : Fg} {H : Hp} {Q : VK} {l m : Addr} {xs zs : List V} (h1 : ak K H l xs) (h2 : ak K H m zs) (hl : xs.length + zs.length <= 1000) (q : ∀ p H', H p = none -> aa H H' -> H' p = some (.lst (xs ++ zs)) -> Q (.ref p) H') : oT K (.ref l) (.ref m) H Q :=
 ⟨l, m, xs, zs, rfl, rfl, h1, h2, Nat.le_trans hl (by decide), fun p hp => q p _ hp (aa.new hp _) ad⟩
end L2
namespace L2
open PySem PySem.Spec PyProof.Rows
section
variable {X : Cx} {pins : Pn} {σ : St} {H : Hp} {s : Shared} {h' : Heap}
theorem ae.turnedL {t' : Nat} {fp : List Addr} (I : ae X pins σ H s) (k : ∀ b o, b ∉ fp -> s.heap.get? b = some o -> h'.get? b = some o) (hf : ∀ b ∈ fp, dL X pins H b) : ae X pins σ H { s with heap := h', toks := t' } := by
 have nit : ∀ b u, H b = some u -> b ∉ fp := fun b u e z => by rw [(hf b z).1] at e; cases e
 refine I.step (g' := s.gens) (d' := s.drawn) (ch := fp) (fun b hb => ?_) (fun b o _ _ hc e _ => k b o hc e) (fun b o _ _ hc e _ => ⟨o.slots, k b o hc e⟩) (fun _ _ _ _ n => n)
  (fun b o hc e => ⟨o, k b o hc e⟩) (fun _ _ e => e) (fun _ _ _ e => e) (fun b ps e => ⟨#[], by rw [e]; simp⟩) (fun m hm => ?_) (fun b u e => ?_) I.bare
 ·obtain ⟨_, f1, _, f3, f4, f5⟩ := hf b hb
  exact ⟨f3, f1, f4, f5⟩
 ·obtain ⟨o, es, ep, ho, r⟩ := hm
  exact ⟨o, es, ep, k _ o (fun z => (hf _ z).2.1 rfl) ho, r⟩
 ·refine (I.hok b u e).stay (fun c v hc q => k c v ?_ q) (fun _ q => q) fun _ _ q => q
  rcases hc with z | z
  ·rw [z]; exact nit b u e
  ·exact nit c _ z
end
def ze (K : Fg) (a : Addr) : It :=
 ⟨fun i H => ∃ xs x, ak K H a xs /\ xs[i]? = some x, fun i H v H' => ∃ p x, v = .ref p /\ H p = none /\ (∀ xs, ak K H a xs -> xs[i]? = some x) /\ H' = upd H p (.tup [.int i, x]), fun i H => ∃ xs, ak K H a xs /\ xs.length <= i⟩
theorem mB {P : Program} {w : World} {K : Fg} {elts : List Expr} {x1 : _} {pos : Pos} (a e it : Addr) (hne : e ≠ it) : mf P w K (.Tuple elts x1 pos) (ze K a) [e, it] e (fun i h => (∃ old, IsEnum h e it i old) /\ h.IsListIter it a i) where
 mem := by simp
 obj := fun i h st b hb => by
  obtain ⟨⟨old, he⟩, o, ho, c, d⟩ := st
  have hb' : b = e ∨ b = it := by simpa using hb
  rcases hb' with rfl | rfl
  ·exact ⟨_, he, fun v z => by cases z⟩
  ·exact ⟨o, ho, fun v z => by rw [d] at z; cases z⟩
 keep := fun i h h' st k => by
  obtain ⟨⟨old, he⟩, hi⟩ := st
  exact ⟨⟨old, k e (by simp) _ he⟩, hi.at fun o e' => k it (by simp) o e'⟩
 item := by
  intro X hP hw hK hc i pins s σ H E I hf st hg
  subst hP hw hK
  obtain ⟨xs, x, hq, hx⟩ := hg
  obtain ⟨⟨old, he⟩, hit⟩ := st
  obtain ⟨its, rv, p, hz⟩ := I.list hq
  obtain ⟨u, hu, ru⟩ := rv.get hx
  have hel := Heap.lt_size he
  have hil : it < s.heap.objs.size := by obtain ⟨o, ho, _⟩ := hit; exact Heap.lt_size ho
  refine wpAny_pyNext_enum_item he hit p.isList (x := u) (by simpa using hu) hne fun h1 ho hit1 htup hsz kk => ?_
  refine ⟨.ref s.heap.objs.size, rfl, wpAny_letOwnedTupleGo_enum ho fun h2 he2 sb => ?_⟩
  have sb2 : ∀ b, b ≠ e -> h2.get? b = h1.get? b := sb.2
  have hfr : H s.heap.objs.size = none := I.hok.fresh (Nat.le_refl _)
  have I1 : ae X pins σ (upd H s.heap.objs.size (.tup [.int i, x])) { s with heap := s.heap.push { cls := .type "tuple", data := .seq #[.int i s.toks, u] }, toks := s.toks + 1 } :=
   I.laid (fun b o e => Heap.get?_push_of_some _ e) (Nat.le_refl _) ⟨by show 2 <= sizeLine; decide, [.int i s.toks, u], .cons ⟨_, rfl⟩ (.cons ru .nil), _, Heap.get?_push_size _ rfl, rfl, _, rfl⟩
  have hf2 : ∀ b ∈ [e, it], dL X pins (upd H s.heap.objs.size (.tup [.int i, x])) b := fun b hb => by
   obtain ⟨f0, f1, f2, f3, f4, f5⟩ := hf b hb
   have hb' : b = e ∨ b = it := by simpa using hb
   have hlt : b < s.heap.objs.size := by rcases hb' with rfl | rfl <;> assumption
   exact ⟨by rw [ac (Nat.ne_of_lt hlt)]; exact f0, f1, f2, f3, f4, f5⟩
  have I2 := ae.turnedL (h' := h2) (t' := s.toks + 1) (fp := [e, it]) I1 (fun b o hb e' => by
   have hbe : b ≠ e := fun z => hb (by simp [z])
   have hbi : b ≠ it := fun z => hb (by simp [z])
   rw [sb2 b hbe]
   rcases Heap.get?_push_cases e' with ⟨z1, z2⟩ | z
   ·rw [z1, z2]; exact htup
   ·exact kk b o hbe hbi z) hf2
  refine ⟨.ref s.heap.objs.size, _, I2, rfl, ⟨_, x, rfl, hfr, fun ys hy => by rw [I.list_inj hy hq]; exact hx, rfl⟩, ⟨⟨u, by simpa using he2⟩, ?_⟩, fun b hb => (hf2 b hb).1⟩
  obtain ⟨o, ho', r⟩ := hit1
  exact ⟨o, (sb2 it (Ne.symm hne)).trans ho', r⟩
 done := by
  intro X hP hw hK hc i pins s σ H E I hf st hg
  subst hP hw hK
  obtain ⟨xs, hq, hx⟩ := hg
  obtain ⟨⟨old, he⟩, hit⟩ := st
  obtain ⟨its, rv, p, hz⟩ := I.list hq
  obtain ⟨f0, f1, f2, f3, f4, f5⟩ := hf it (by simp)
  have hl := rv.length
  exact wpAny_pyNext_enum_end (I.ok.hd hc) he hit p.isList (by simp; omega) fun h' eb => ⟨rfl, I.turned (t' := s.toks) (fun b o hb e => eb b o hb e) f0 f1 f3 f4 f5⟩
 self := fun _ _ _ _ _ st h => by
  obtain ⟨⟨old, he⟩, _⟩ := st
  exact wpAny_pyIter_enum he h
section
variable {X : Cx}
def oQ (K : Fg) (ta : TA) : TI := fun σ H R => ta σ H fun vs H1 => ∃ a, vs = [.ref a] /\ (∃ xs, ak K H1 a xs) /\ R (ze K a) H1
theorem rG {l : Expr} {ta : TA} {elts : List Expr} {x1 : _} {p pos pos' : Pos} (hg : Gl X "enumerate") (hm : X.mg "enumerate" = none) (ha : PA X [l] ta) (hs : starEach [l] X.env = [(false, eval l X.env)] := by rfl) :
  PI X (.Tuple elts x1 pos') (.Call (.Name "enumerate" p) [l] [] pos) (oQ X.K ta) := by
 intro pins s σ H R I h
 refine Call_ (eF I hg hm PyProof.Rows.boot_enumerate (PyProof.Rows.callWith_type1 (aV (ha pos pins s σ H _ I h) fun us s1 ⟨vs, H1, I1, r1, q1⟩ => ?_) hs rfl))
 obtain ⟨a, e, ⟨xs, hq⟩, q⟩ := q1
 subst e
 cases r1 with
 | cons r rr =>
  cases rr
  cases r
  obtain ⟨its, rv, p, hz⟩ := I1.list hq
  refine call_enumerate_list p.isList fun h' he hit hsz kk => ?_
  have I2 : ae X pins σ H1 { s1 with heap := h' } := I1.kept (t' := s1.toks) kk
  refine wpAny_pyIter_enum he ⟨s1.heap.objs.size + 1, [s1.heap.objs.size + 1, s1.heap.objs.size], _, _, H1, rfl, I2, mB a _ _ (Nat.succ_ne_self _), ⟨⟨_, he⟩, hit⟩, fun b hb => ?_, q⟩
  have hb' : b = s1.heap.objs.size + 1 ∨ b = s1.heap.objs.size := by simpa using hb
  rcases hb' with rfl | rfl
  ·exact I1.fpOk (Nat.le_succ _) (I1.hok.fresh (Nat.le_succ _))
  ·exact I1.fpOk (Nat.le_refl _) (I1.hok.fresh (Nat.le_refl _))
end
section
variable {σ : St} {H : Hp} {g : TG} {tb : TS} {nx : St -> Hp -> Prop} {rt : VK} {K : Fg} {a : Addr} {xs : List V}
theorem Az {ta : TA} {R : It -> Hp -> Prop} (h : ta σ H fun vs H1 => ∃ a, vs = [.ref a] /\ (∃ xs, ak K H1 a xs) /\ R (ze K a) H1) : oQ K ta σ H R := h
theorem xk {S : Addr -> Prop} (hs : ak K H a xs) (q : S a) : ∃ a', [V.ref a] = [.ref a'] /\ (∃ xs, ak K H a' xs) /\ S a' := ⟨a, rfl, ⟨xs, hs⟩, q⟩
theorem uL (Pv : Nat -> St -> Hp -> Prop) (h0 : Pv 0 σ H) (hl : ∀ i σ H, i <= xs.length -> Pv i σ H -> ak K H a xs)
  (hs : ∀ i x σ H, xs[i]? = some x -> Pv i σ H -> ∀ p H', aa H H' -> H' p = some (.tup [.int i, x]) -> g (.ref p) σ H' fun σ2 H2 => tb ⟨Pv (i + 1), rt, nx, Pv (i + 1)⟩ σ2 H2) (hd : ∀ σ H, Pv xs.length σ H -> nx σ H) : FW (ze K a) g tb nx rt σ H := by
 refine ⟨fun i m σ H => Pv i σ H /\ i <= xs.length /\ m = xs.length - i, ⟨_, h0, Nat.zero_le _, rfl⟩, fun i m σ H ⟨hp, hi, hm⟩ => ?_⟩
 rcases Nat.lt_or_ge i xs.length with hlt | hge
 ·obtain ⟨x, hx⟩ : ∃ x, xs[i]? = some x := ⟨_, List.getElem?_eq_getElem hlt⟩
  refine .inr ⟨⟨xs, x, hl i σ H hi hp, hx⟩, Pv (i + 1), fun σ' H' h => ⟨xs.length - (i + 1), by omega, h, by omega, rfl⟩, ?_⟩
  rintro v H' ⟨p, y, rfl, hn, hy, rfl⟩
  have e := hy _ (hl i σ H hi hp)
  rw [hx] at e
  cases e
  exact hs i x σ H hx hp p _ (aa.new hn _) ad
 ·have e : i = xs.length := by omega
  subst e
  exact .inl ⟨⟨xs, hl _ σ H hi hp, Nat.le_refl _⟩, hd σ H hp⟩
end
end L2
namespace L2
open PySem PySem.Spec PyProof.Rows
section
variable {κ : Type} [DecidableEq κ]
def rB (kvs : List (κ × V)) (k : κ) : Option V := (kvs.find? fun kv => decide (kv.1 = k)).map (·.2)
def qB (kvs : List (κ × V)) (k : κ) (v : V) : List (κ × V) :=
 if (kvs.any fun kv => decide (kv.1 = k)) = true then kvs.map (fun kv => if kv.1 = k then (kv.1, v) else kv) else kvs ++ [(k, v)]
def sK (kvs : List (κ × V)) (k : κ) : List (κ × V) := kvs.filter fun kv => decide (kv.1 ≠ k)
theorem qZ.getD {o : Option V} {u : Option Value} {d : V} {d' : Value} (r : qZ o u) (rd : aw d d') : aw (o.getD d) (u.getD d') := by
 cases o with
 | none => cases u with
  | none => exact rd
  | some _ => exact (show False from r).elim
 | some _ => cases u with
  | none => exact (show False from r).elim
  | some _ => exact r
theorem KV.any {kvs : List (κ × V)} {vs : List (κ × Value)} (r : KV kvs vs) (k : κ) : (kvs.any fun kv => decide (kv.1 = k)) = vs.any fun kv => decide (kv.1 = k) := by
 unfold KV at r
 induction r with
 | nil => rfl
 | cons h t ih => rw [List.any_cons, List.any_cons, ih, h.1]
theorem KV.drop {kvs : List (κ × V)} {vs : List (κ × Value)} (r : KV kvs vs) (k : κ) : KV (sK kvs k) (without vs k) := by
 unfold KV at r ⊢
 unfold sK without
 induction r with
 | nil => exact .nil
 | @cons p q ps qs h t ih =>
  obtain ⟨h1, h2⟩ := h
  rw [List.filter_cons, List.filter_cons]
  by_cases e : p.1 = k
  ·have a : ¬ decide (p.1 ≠ k) = true := by simp [e]
   have b : ¬ decide (q.1 ≠ k) = true := by simp [h1.symm.trans e]
   rw [if_neg a, if_neg b]; exact ih
  ·have e' : ¬ q.1 = k := fun z => e (h1.trans z)
   have a : decide (p.1 ≠ k) = true := by simp [e]
   have b : decide (q.1 ≠ k) = true := by simp [e']
   rw [if_pos a, if_pos b]; exact .cons ⟨h1, h2⟩ ih
theorem KV.keys {kvs : List (κ × V)} {vs : List (κ × Value)} (r : KV kvs vs) : kvs.map (·.1) = vs.map (·.1) := by
 unfold KV at r
 induction r with
 | nil => rfl
 | cons h t ih => rw [List.map_cons, List.map_cons, ih, h.1]
theorem KV.length {kvs : List (κ × V)} {vs : List (κ × Value)} (r : KV kvs vs) : kvs.length = vs.length := Paired.length r
end
abbrev KT (H : Hp) : List (List Key × V) -> List (List Key × Addr × Value) -> Prop := Paired fun p q => p.1 = q.1 /\ H q.2.1 = some (.tup (p.1.map kV)) /\ aw p.2 q.2.2
theorem KT.keeps {H H' : Hp} {kvs : List (List Key × V)} {xs : List (List Key × Addr × Value)} (r : KT H kvs xs) (ht : ∀ b ys, H b = some (.tup ys) -> H' b = some (.tup ys)) : KT H' kvs xs :=
 Paired.mapP r fun _ _ z => ⟨z.1, ht _ _ z.2.1, z.2.2⟩
section
variable {P : Program} {w : World} {H : Hp} {h : Heap} {a : Addr}
end
def rZ (H : Hp) (a : Addr) (y : V) (r : Option V) : Prop :=
 (∃ kvs k, Rd H a (.dK kvs) /\ y = kV k /\ r = rB kvs k) ∨ ∃ kvs k b, Rd H a (.dT kvs) /\ y = .ref b /\ H b = some (.tup (k.map kV)) /\ r = rB kvs k
def qI (H : Hp) (a : Addr) (y v : V) (H' : Hp) : Prop :=
 (∃ kvs k, H a = some (.dK kvs) /\ y = kV k /\ kvs.length < sizeLine /\ H' = upd H a (.dK (qB kvs k v))) ∨
 ∃ kvs k b, H a = some (.dT kvs) /\ y = .ref b /\ H b = some (.tup (k.map kV)) /\ kvs.length < sizeLine /\ H' = upd H a (.dT (qB kvs k v))
theorem rZ.k {H : Hp} {a : Addr} {kvs : List (Key × V)} {k : Key} (e : H a = some (.dK kvs)) : rZ H a (kV k) (rB kvs k) := .inl ⟨kvs, k, .inl e, rfl, rfl⟩
theorem rZ.t {H : Hp} {a b : Addr} {kvs : List (List Key × V)} {k : List Key} (e : H a = some (.dT kvs)) (eb : H b = some (.tup (k.map kV))) : rZ H a (.ref b) (rB kvs k) := .inr ⟨kvs, k, b, .inl e, rfl, eb, rfl⟩
theorem qI.k {H : Hp} {a : Addr} {kvs : List (Key × V)} {k : Key} {v : V} (e : H a = some (.dK kvs)) (hl : kvs.length < sizeLine) : qI H a (kV k) v (upd H a (.dK (qB kvs k v))) := .inl ⟨kvs, k, e, rfl, hl, rfl⟩
theorem qI.t {H : Hp} {a b : Addr} {kvs : List (List Key × V)} {k : List Key} {v : V} (e : H a = some (.dT kvs)) (eb : H b = some (.tup (k.map kV))) (hl : kvs.length < sizeLine) :
  qI H a (.ref b) v (upd H a (.dT (qB kvs k v))) := .inr ⟨kvs, k, b, e, rfl, eb, hl, rfl⟩
section
variable {X : Cx} {pins : Pn} {σ : St} {H : Hp} {s : Shared} {a : Addr} {y v : V} {u r : Value} {o : Option V} {A : Around} {E : Value -> Shared -> Prop}
theorem ae.big (I : ae X pins σ H s) : sysModules < s.heap.objs.size := by
 have h : mainGlobals < s.heap.objs.size := (I.mod.glob.keeps I.bk).lt
 exact Nat.lt_trans (by decide) h
end
section
variable {X : Cx} {pins : Pn} {σ : St} {H : Hp} {s : Shared} {a : Addr} {kvs : List (Key × V)} {k : Key} {u : Value} {A : Around} {E : Value -> Shared -> Prop}
end
def wN (i : Expr) : Prop := ∀ ov iv, subscripted i false ov iv = operate [ov, iv] (getItem ov iv)
theorem rC {prog : Program} {w : World} {A : Around} {E : Value -> Shared -> Prop} {s : Shared} {env : Env} {value slice : Expr} {pos : Pos} {T id : String} {Q : Value -> Shared -> Prop}
  (hl : typeLookup (.type T) "__getitem__" = pure (some (.builtin id))) (hs : wN slice)
  (h : wpAny (model prog w) A (eval value env) (fun o s₁ => wpAny (model prog w) A (eval slice env) (fun i s₂ => s₂.TypeIs o T /\ wpAny (model prog w) A (getItem o i) Q E s₂) E s₁) E s) :
  wpAny (model prog w) A (eval (.Subscript value slice pos) env) Q E s := by
 refine Subscript_ (wpAny_mono h (fun o s₁ h₁ => wpAny_mono h₁ (fun i s₂ h₂ => ?_) fun _ _ x => x) fun _ _ x => x)
 obtain ⟨hT, h₂⟩ := h₂
 unfold subscriptTail
 refine wpAny_bind ?_
 rw [getitemInPython_of_ne hT.not_modules]
 refine wpAny_bind (wpAny_specialOf hT hl ?_)
 have fin : wpAny (model prog w) A (subscripted slice false o i) (fun r s₃ => wpAny (model prog w) A (letTemporaryGo value o r >>= fun _ => pure r) Q E s₃) E s₂ := by
  rw [hs o i]
  exact wpAny_operating (wpAny_mono h₂ (fun r s₃ h₃ => wpAny_bind (wpAny_letTemporaryGo (wpAny_pure h₃))) fun _ _ x => x)
 first
  | exact wpAny_pure (wpAny_bind fin)
  | exact wpAny_bind (wpAny_pure (wpAny_bind fin))
  | exact wpAny_bind fin
section
variable {X : Cx} {o i e value : Expr} {pos pos' tpos : Pos} {td ty tv : TE}
end
section
variable {X : Cx} {pos : Pos}
end
structure M2 (X : Cx) (o : Expr) (m : Str) (apos : Pos) (e f : Expr) (cpos : Pos) : Prop where
 base : attributeBase o m X.env (eval o X.env) = eval o X.env
 few : ((backTo cpos (starEach [e, f] X.env)).all (fun x => !x.1) && (backToKw cpos (keywordEach [] X.env)).all (fun x => x.1.isSome)
  && decide (([e, f] : List Expr).length + ([] : List Keyword).length + (if ([] : List Keyword).isEmpty then 0 else 1) < 30)) = true
 line : (apos.endLine == cpos.line) = true
 trees : backTo cpos (starEach [e, f] X.env) = [(false, eval e X.env), (false, eval f X.env)]
section
variable {X : Cx} {pins : Pn} {σ : St} {H : Hp} {s : Shared} {a : Addr} {y d : V} {u r : Value} {o : Option V} {A : Around} {E : Value -> Shared -> Prop}
end
section
variable {X : Cx} {o e f : Expr} {apos cpos : Pos} {td ty tx : TE}
end
section
variable {X : Cx} {pins : Pn} {σ : St} {H : Hp} {s : Shared} {a : Addr} {kvs : List (Key × V)} {A : Around} {E : Value -> Shared -> Prop}
end
section
variable {X : Cx} {pins : Pn} {σ : St} {H : Hp} {s : Shared} {a : Addr} {y : V} {u : Value} {A : Around} {E : Value -> Shared -> Prop}
end
end L2
namespace L2
open PySem PySem.Spec PyProof.Rows
section
variable {X : Cx}
end
section
variable {κ : Type} [DecidableEq κ]
end
end L2
namespace L2
open PySem PySem.Spec PyProof.Rows PySem.Builtin
section
variable {X : Cx}
end
end L2
namespace L2
open PySem PySem.Spec PyProof.Rows
end L2
namespace L2
open PySem PySem.Spec PyProof.Rows
section
open PySem.W PySem.Calls PySem.Builtin PySem.Builtin.ObjectAttr PySem.Builtin.Getset_descriptor
variable {prog : Program} {w : World} {A : Around} {E : Value -> Shared -> Prop} {s : Shared} {K : Frag} {a C : Addr} {oe : Obj}
end
end L2
namespace L2
open PySem PySem.Spec PyProof.Rows
section
variable {X : Cx} {pins : Pn} {σ : St} {H H' : Hp} {s s' : Shared}
end
section
variable {X : Cx} {pins : Pn} {σ : St} {H : Hp} {s s' : Shared} {E : XK} {ex : Value} {x n : Str} {T C : Addr} {np hpos : Pos} {b0 : Stmt} {suite : List Stmt} {ts : Addr -> TS} {D : cP} {j : Nat}
end
section
variable {X : Cx} {k : Nat} {f : Addr} {fd : FuncData} {ps : List Str} {sp : Sp} {dvs : List V} {ds : List Value} {fx x cx n : Str} {p cpos px apos np hpos pos : Pos} {e : Expr} {es : List Expr} {t : TA} {T C : Addr} {b0 : Stmt} {suite : List Stmt} {ts : Addr -> TS} {i j : Nat}
end
end L2
namespace L2
open PySem PySem.Spec PyProof.Rows
section
variable {X : Cx} {pins : Pn} {σ : St} {H : Hp} {s : Shared}
end
section
variable {X : Cx} {C : Addr} {b : Bool}
end
section
variable {P : Program} {w : World} {K : Fg} {mg : Str -> Option Value} {base : Heap}
end
section
variable {X : Cx} {k : Nat} {f : Addr} {fd : FuncData} {ps : List Str} {sp : Sp} {x : Str} {p pos : Pos} {e : Expr} {es : List Expr} {t : TA}
end
section
variable {X : Cx} {pins : Pn} {σ : St} {H : Hp} {s s' : Shared} {E : XK} {ex : Value} {x n : Str} {T C : Addr} {np hpos : Pos} {b0 : Stmt} {suite : List Stmt} {ts : Addr -> TS} {D : cP} {j : Nat}
end
section
variable {X : Cx} {k : Nat} {f : Addr} {fd : FuncData} {ps : List Str} {sp : Sp} {dvs : List V} {ds : List Value} {fx x cx n : Str} {p cpos px apos np hpos pos : Pos} {e : Expr} {es : List Expr} {t : TA} {T C : Addr} {b0 : Stmt} {suite : List Stmt} {ts : Addr -> TS} {i j : Nat}
end
end L2
namespace L2
open PySem PySem.Spec PyProof.Rows
end L2
namespace L2
open PySem PySem.Spec PyProof.Rows
def uC (K : Fg) : List V -> Hp -> VK -> Prop := fun xs H Q => ∃ x g tp, xs = [x, .ref tp] /\ aH K H tp [.ty "tuple", .ty "list"] /\ uM K H x g /\ Q (.bl (g.isTup || g.isLst)) H
section
variable {K : Fg}
end
end L2
namespace L2
open PySem PySem.Spec PyProof.Rows
def Av (q : Bool) (h : Heap) (n a : Addr) (k : Nat) : Prop := ∃ o, h.get? n = some o /\ o.cls = .type (if q = true then "tuple_iterator" else "list_iterator") /\ o.data = .fields #[.ref a, .int k 0]
def zn (q : Bool) (h : Heap) (a : Addr) (us : Array Value) : Prop := ∃ o, h.get? a = some o /\ o.cls = .type (if q = true then "tuple" else "list") /\ ∃ n, o.data = .seq us n
theorem Av.at {q : Bool} {h h' : Heap} {n a : Addr} {k : Nat} (x : Av q h n a k) (e : ∀ o, h.get? n = some o -> h'.get? n = some o) : Av q h' n a k := by
 obtain ⟨o, ho, r⟩ := x; exact ⟨o, e o ho, r⟩
theorem zn.at {q : Bool} {h h' : Heap} {a : Addr} {us : Array Value} (x : zn q h a us) (e : ∀ o, h.get? a = some o -> h'.get? a = some o) : zn q h' a us := by
 obtain ⟨o, ho, r⟩ := x; exact ⟨o, e o ho, r⟩
section
variable {P : Program} {w : World} {A : Around} {E : Value -> Shared -> Prop} {s : Shared} {q : Bool} {n a : Addr} {k : Nat} {us : Array Value} {u : Value}
end
section
variable {P : Program} {w : World} {A : Around} {E : Value -> Shared -> Prop} {s : Shared} {q1 q2 : Bool} {z ti to n1 n2 a1 a2 : Addr} {k : Nat} {us vs : Array Value} {u v c d : Value}
end
end L2
namespace L2
open PySem PySem.Spec PyProof.Rows
def Aa (q : Bool) (K : Fg) (H : Hp) (a : Addr) (xs : List V) : Prop := if q = true then aH K H a xs else ak K H a xs
section
variable {X : Cx} {pins : Pn} {σ : St} {H : Hp} {s : Shared} {q : Bool} {a : Addr} {xs ys : List V}
end
section
variable {X : Cx}
end
end L2
namespace L2
open PySem PySem.Spec PyProof.Rows
inductive Tr where
 | non | bl (b : Bool) | int (i : Int) | str (x : Str) | tup (ts : List Tr) | lst (ts : List Tr) | dct (kvs : List (Key × Tr)) | ty (n : String)
mutual
inductive Is (K : Fg) (F : Hp) : V -> Tr -> Prop
 | non : Is K F .non .non
 | bl {b : Bool} : Is K F (.bl b) (.bl b)
 | int {i : Int} : Is K F (.int i) (.int i)
 | str {x : Str} : Is K F (.str x) (.str x)
 | ty {n : String} : Is K F (.ty n) (.ty n)
 | tup {p : Addr} {vs : List V} {ts : List Tr} : aH K F p vs -> IsL K F vs ts -> Is K F (.ref p) (.tup ts)
 | lst {p : Addr} {vs : List V} {ts : List Tr} : ak K F p vs -> IsL K F vs ts -> Is K F (.ref p) (.lst ts)
 | dct {p : Addr} {kvs : List (Key × V)} {ts : List (Key × Tr)} : F p = some (.dK kvs) -> kvs.map (·.1) = ts.map (·.1) -> IsL K F (kvs.map (·.2)) (ts.map (·.2)) -> Is K F (.ref p) (.dct ts)
inductive IsL (K : Fg) (F : Hp) : List V -> List Tr -> Prop
 | nil : IsL K F [] []
 | cons {v : V} {t : Tr} {vs : List V} {ts : List Tr} : Is K F v t -> IsL K F vs ts -> IsL K F (v :: vs) (t :: ts)
end
mutual
theorem Is.same {K : Fg} {F F' : Hp} (s : aa F F') : ∀ {v : V} {t : Tr}, Is K F v t -> Is K F' v t
 | _, _, .non => .non
 | _, _, .bl => .bl
 | _, _, .int => .int
 | _, _, .str => .str
 | _, _, .ty => .ty
 | _, _, .tup h g => .tup (s.tup h) (IsL.same s g)
 | _, _, .lst h g => .lst (s.seq h) (IsL.same s g)
 | _, _, .dct h e g => .dct (s _ _ h) e (IsL.same s g)
theorem IsL.same {K : Fg} {F F' : Hp} (s : aa F F') : ∀ {vs : List V} {ts : List Tr}, IsL K F vs ts -> IsL K F' vs ts
 | _, _, .nil => .nil
 | _, _, .cons h g => .cons (Is.same s h) (IsL.same s g)
end
section
variable {K : Fg} {F : Hp}
theorem IsL.length : ∀ {vs : List V} {ts : List Tr}, IsL K F vs ts -> vs.length = ts.length
 | _, _, .nil => rfl
 | _, _, .cons _ g => congrArg (· + 1) (IsL.length g)
theorem IsL.get : ∀ {vs : List V} {ts : List Tr} {i : Nat} {t : Tr}, IsL K F vs ts -> ts[i]? = some t -> ∃ v, vs[i]? = some v /\ Is K F v t
 | _, _, _, _, .nil, e => by simp at e
 | _, _, 0, _, .cons h _, e => by simp at e; subst e; exact ⟨_, rfl, h⟩
 | _, _, i + 1, t, .cons _ g, e => by
  obtain ⟨u, h1, h2⟩ := IsL.get (i := i) (t := t) g (by simpa using e)
  exact ⟨u, by simpa using h1, h2⟩
theorem IsL.get2 : ∀ {vs : List V} {ts : List Tr} {i : Nat} {v : V}, IsL K F vs ts -> vs[i]? = some v -> ∃ t, ts[i]? = some t /\ Is K F v t
 | _, _, _, _, .nil, e => by simp at e
 | _, _, 0, _, .cons h _, e => by simp at e; subst e; exact ⟨_, rfl, h⟩
 | _, _, i + 1, t, .cons _ g, e => by
  obtain ⟨u, h1, h2⟩ := IsL.get2 (i := i) (v := t) g (by simpa using e)
  exact ⟨u, by simpa using h1, h2⟩
theorem IsL.app : ∀ {vs ws : List V} {ts us : List Tr}, IsL K F vs ts -> IsL K F ws us -> IsL K F (vs ++ ws) (ts ++ us)
 | _, _, _, _, .nil, s => s
 | _, _, _, _, .cons h g, s => .cons h (IsL.app g s)
theorem IsL.take : ∀ {vs : List V} {ts : List Tr} (n : Nat), IsL K F vs ts -> IsL K F (vs.take n) (ts.take n)
 | _, _, 0, _ => .nil
 | _, _, _ + 1, .nil => .nil
 | _, _, n + 1, .cons h g => .cons h (IsL.take n g)
theorem IsL.drop : ∀ {vs : List V} {ts : List Tr} (n : Nat), IsL K F vs ts -> IsL K F (vs.drop n) (ts.drop n)
 | _, _, 0, h => h
 | _, _, _ + 1, .nil => .nil
 | _, _, n + 1, .cons _ g => IsL.drop n g
theorem IsL.snoc {vs : List V} {ts : List Tr} {v : V} {t : Tr} (h : IsL K F vs ts) (g : Is K F v t) : IsL K F (vs ++ [v]) (ts ++ [t]) := h.app (.cons g .nil)
theorem IsL.rev : ∀ {vs : List V} {ts : List Tr}, IsL K F vs ts -> IsL K F vs.reverse ts.reverse
 | _, _, .nil => .nil
 | _, _, .cons h g => by rw [List.reverse_cons, List.reverse_cons]; exact (IsL.rev g).snoc h
theorem IsL.ints : ∀ {vs : List V} {ns : List Int}, IsL K F vs (ns.map Tr.int) -> vs = ns.map V.int
 | _, [], .nil => rfl
 | _, _ :: _, .cons .int g => by rw [List.map_cons, IsL.ints g]
theorem IsL.strs : ∀ {vs : List V} {ns : List Str}, IsL K F vs (ns.map Tr.str) -> vs = ns.map V.str
 | _, [], .nil => rfl
 | _, _ :: _, .cons .str g => by rw [List.map_cons, IsL.strs g]
theorem IsL.ofInts : ∀ (ns : List Int), IsL K F (ns.map V.int) (ns.map Tr.int)
 | [] => .nil
 | _ :: r => .cons .int (IsL.ofInts r)
theorem IsL.ofStrs : ∀ (ns : List Str), IsL K F (ns.map V.str) (ns.map Tr.str)
 | [] => .nil
 | _ :: r => .cons .str (IsL.ofStrs r)
end
def Mb : HO -> Prop
 | .lst _ => True
 | .dK _ => True
 | .tbl _ => True
 | _ => False
structure Bk where
 K : Fg
 F0 : Hp
 H0 : Hp
 W : Addr -> Prop
 J : Hp -> Prop
 rt : Addr
 jl : ∀ H H' : Hp, (∀ p, W p -> H p = H' p) -> (∀ p φ, H p = some (.ext φ) -> H' p = some (.ext φ)) -> J H -> J H'
 jm : ∀ (H : Hp) (p : Addr), J H -> W p -> ∃ o, H p = some o /\ Mb o
structure Up (B : Bk) (F H F' H' : Hp) : Prop where
 f : aa F F'
 h : ∀ p o, ¬ B.W p -> H p = some o -> H' p = some o
 i : aa F' H'
 m : ∀ p o, H p = some o -> Mb o -> F p = none -> F' p = none
 w : ∀ p, H' p = none -> H p = none
 x : ∀ p, B.W p -> F p = none -> F' p = none
 j : B.J H -> B.J H'
theorem Up.refl {B : Bk} {F H : Hp} (i : aa F H) : Up B F H F H := ⟨aa.refl _, fun _ _ _ h => h, i, fun _ _ _ _ h => h, fun _ h => h, fun _ _ h => h, fun h => h⟩
theorem Up.trans {B : Bk} {F H F1 H1 F2 H2 : Hp} (a : Up B F H F1 H1) (b : Up B F1 H1 F2 H2) : Up B F H F2 H2 := ⟨a.f.trans b.f, fun p o n h => b.h p o n (a.h p o n h), b.i, fun p o h mb n => by
 by_cases hw : B.W p
 ·exact b.x p hw (a.x p hw n)
 ·exact b.m p o (a.h p o hw h) mb (a.m p o h mb n), fun p h => a.w p (b.w p h), fun p hw n => b.x p hw (a.x p hw n), fun h => b.j (a.j h)⟩
inductive Ow (K : Fg) (F H : Hp) (l : Addr) : Tr -> Prop
 | lst {vs : List V} {ts : List Tr} : H l = some (.lst vs) -> IsL K F vs ts -> Ow K F H l (.lst ts)
 | dct {kvs : List (Key × V)} {ts : List (Key × Tr)} : H l = some (.dK kvs) -> kvs.map (·.1) = ts.map (·.1) -> IsL K F (kvs.map (·.2)) (ts.map (·.2)) -> Ow K F H l (.dct ts)
theorem Ow.mb {K : Fg} {F H : Hp} {l : Addr} {t : Tr} (h : Ow K F H l t) : ∃ o, H l = some o /\ Mb o := by
 cases h with
 | lst h _ => exact ⟨_, h, trivial⟩
 | dct h _ _ => exact ⟨_, h, trivial⟩
theorem Ow.to {K : Fg} {F F' H H' : Hp} {l : Addr} {t : Tr} (h : Ow K F H l t) (s : aa F F') (e : ∀ o, H l = some o -> H' l = some o) : Ow K F' H' l t := by
 cases h with
 | lst h g => exact .lst (e _ h) (g.same s)
 | dct h e' g => exact .dct (e _ h) e' (g.same s)
theorem Ow.is {K : Fg} {F H F' : Hp} {l : Addr} {t : Tr} (h : Ow K F H l t) (s : aa F F') (e : F' l = H l) : Is K F' (.ref l) t := by
 cases h with
 | lst h g => exact .lst (ak.of (by rw [e, h])) (g.same s)
 | dct h e' g => exact .dct (by rw [e, h]) e' (g.same s)
inductive Sl where
 | no | fz (t : Tr) | own (t : Tr) | vw (t : Tr) | wd
abbrev TSt := List Sl
abbrev cX (σ : St) (i : Nat) (v : V) : Prop := σ[i]? = some (some v)
abbrev bz (τ : TSt) (i : Nat) (s : Sl) : Prop := τ[i]? = some s
structure Rp (B : Bk) (F H : Hp) (σ : St) (τ : TSt) : Prop where
 up : Up B B.F0 B.H0 F H
 wa : ∀ p, B.W p -> B.H0 p ≠ none
 wf : ∀ p, B.W p -> F p = none
 wj : B.J H
 wd : ∀ i, bz τ i .wd -> cX σ i (.ref B.rt)
 len : σ.length = τ.length
 fz : ∀ i t, bz τ i (.fz t) -> ∃ v, cX σ i v /\ Is B.K F v t
 ow : ∀ i t, bz τ i (.own t) -> ∃ l, cX σ i (.ref l) /\ Ow B.K F H l t /\ F l = none /\ B.H0 l = none
 vw : ∀ i t, bz τ i (.vw t) -> ∃ l, cX σ i (.ref l) /\ Ow B.K F H l t /\ F l = none /\ ¬ B.W l
 ap : ∀ i j t u l, bz τ i (.own t) -> bz τ j (.own u) -> i ≠ j -> cX σ i (.ref l) -> cX σ j (.ref l) -> False
 av : ∀ i j t u l, bz τ i (.own t) -> bz τ j (.vw u) -> cX σ i (.ref l) -> cX σ j (.ref l) -> False
inductive Kd where
 | fz (t : Tr) | nw (t : Tr) | sl (i : Nat) | wd
def kg (B : Bk) (F H : Hp) (σ : St) (τ : TSt) (v : V) : Kd -> Prop
 | .fz t => Is B.K F v t
 | .nw t => ∃ l, v = .ref l /\ Ow B.K F H l t /\ F l = none /\ B.H0 l = none /\ ∀ i u, bz τ i (.own u) ∨ bz τ i (.vw u) -> ¬ cX σ i (.ref l)
 | .sl i => cX σ i v
 | .wd => v = .ref B.rt
def qp (H : Hp) (v : V) : Kd -> Prop
 | .nw _ => ∀ l, v = .ref l -> H l = none
 | _ => True
structure Fr (B : Bk) (σ : St) (τ : TSt) (F H : Hp) (τ' : TSt) (F' H' : Hp) : Prop where
 f : aa F F'
 k : ∀ p o, H p = some o -> ¬ B.W p -> (∀ i t, bz τ i (.own t) -> ¬ cX σ i (.ref p)) -> H' p = some o /\ (Mb o -> F p = none -> F' p = none)
 o : ∀ i t, bz τ' i (.own t) -> ∃ u, bz τ i (.own u)
 h : ∀ p, H' p = none -> H p = none
theorem Fr.refl {B : Bk} {σ : St} {τ : TSt} {F H : Hp} : Fr B σ τ F H τ F H := ⟨aa.refl _, fun _ _ h _ _ => ⟨h, fun _ z => z⟩, fun _ t h => ⟨t, h⟩, fun _ h => h⟩
theorem Fr.trans {B : Bk} {σ : St} {τ τ1 τ2 : TSt} {F H F1 H1 F2 H2 : Hp} (a : Fr B σ τ F H τ1 F1 H1) (b : Fr B σ τ1 F1 H1 τ2 F2 H2) : Fr B σ τ F H τ2 F2 H2 :=
 ⟨a.f.trans b.f, fun p o h nw n => by
  obtain ⟨h1, h2⟩ := a.k p o h nw n
  obtain ⟨h3, h4⟩ := b.k p o h1 nw fun i t e => by
   obtain ⟨u, e'⟩ := a.o i t e
   exact n i u e'
  exact ⟨h3, fun mb z => h4 mb (h2 mb z)⟩, fun i t e => by
  obtain ⟨u, e'⟩ := b.o i t e
  exact a.o i u e', fun p h => a.h p (b.h p h)⟩
abbrev TK := Kd -> TSt -> Prop
def CT (B : Bk) (σ : St) (τ : TSt) (F H : Hp) (Φ : TK) (Q : VK) : Prop := ∀ v F' H' k τ', Fr B σ τ F H τ' F' H' -> Rp B F' H' σ τ' -> kg B F' H' σ τ' v k -> qp H v k -> Φ k τ' -> Q v H'
def EV (B : Bk) (te : TE) (τ : TSt) (Φ : TK) : Prop := ∀ σ F H Q, Rp B F H σ τ -> CT B σ τ F H Φ Q -> te σ H Q
def TV (B : Bk) (tt : TT) (τ : TSt) (Φ : Bool -> TSt -> Prop) : Prop := ∀ σ F H (Q : Bool -> Hp -> Prop), Rp B F H σ τ -> (∀ b F' H' τ', Fr B σ τ F H τ' F' H' -> Rp B F' H' σ τ' -> Φ b τ' -> Q b H') -> tt σ H Q
def qH (B : Bk) (ta : TA) (τ : TSt) (Φ : List Tr -> TSt -> Prop) : Prop := ∀ σ F H (Q : List V -> Hp -> Prop), Rp B F H σ τ -> (∀ vs F' H' ts τ', Fr B σ τ F H τ' F' H' -> Rp B F' H' σ τ' -> IsL B.K F' vs ts -> Φ ts τ' -> Q vs H') -> ta σ H Q
def oh (k : Kd) (τ : TSt) (S : Tr -> TSt -> Prop) : Prop := match k with
 | .fz t => S t τ
 | .nw t => S t τ
 | .sl i => (∃ t, bz τ i (.own t) /\ S t (τ.set i (.fz t))) ∨ ∃ t, bz τ i (.fz t) /\ S t τ
 | .wd => False
def ir (k : Kd) (τ : TSt) (S : TK) : Prop := match k with
 | .fz t => S (.fz t) τ
 | .nw t => S (.fz t) τ
 | .sl i => S (.sl i) τ
 | .wd => False
def cR (K : Fg) (F : Hp) (σ : St) (v : V) : Kd -> Prop
 | .fz t => Is K F v t
 | .nw _ => False
 | .sl i => cX σ i v
 | .wd => False
theorem cR.same {K : Fg} {F F' : Hp} {σ : St} {v : V} {k : Kd} (s : aa F F') (h : cR K F σ v k) : cR K F' σ v k := by
 cases k with
 | fz t => exact Is.same s h
 | nw t => exact h
 | sl i => exact h
 | wd => exact h
section
variable {B : Bk} {F H F1 H1 F' H' : Hp} {σ : St} {τ τ1 τ' : TSt}
theorem CT.on {Φ : TK} {Q : VK} (c : CT B σ τ F H Φ Q) (f : Fr B σ τ F H τ1 F1 H1) : CT B σ τ1 F1 H1 Φ Q := fun v F' H' k τ' f' r ok n φ => c v F' H' k τ' (f.trans f') r ok (by
 cases k with
 | nw t => exact fun l e => f.h l (n l e)
 | fz t => exact trivial
 | sl i => exact trivial
 | wd => exact trivial) φ
theorem Rp.go (r : Rp B F H σ τ) (u : Up B F H F' H') : Rp B F' H' σ τ where
 up := r.up.trans u
 wa := r.wa
 wf := fun p hw => u.x p hw (r.wf p hw)
 wj := u.j r.wj
 wd := r.wd
 len := r.len
 fz := fun i t h => by obtain ⟨v, e, g⟩ := r.fz i t h; exact ⟨v, e, g.same u.f⟩
 ow := fun i t h => by
  obtain ⟨l, e, g, n, n0⟩ := r.ow i t h
  obtain ⟨o, ho, mb⟩ := g.mb
  exact ⟨l, e, g.to u.f (fun o => u.h l o fun hw => r.wa l hw n0), u.m l o ho mb n, n0⟩
 vw := fun i t h => by
  obtain ⟨l, e, g, n, nw⟩ := r.vw i t h
  obtain ⟨o, ho, mb⟩ := g.mb
  exact ⟨l, e, g.to u.f (fun o => u.h l o nw), u.m l o ho mb n, nw⟩
 ap := r.ap
 av := r.av
theorem Fr.up (u : Up B F H F' H') : Fr B σ τ F H τ F' H' := ⟨u.f, fun p o h nw _ => ⟨u.h p o nw h, fun mb n => u.m p o h mb n⟩, fun _ t h => ⟨t, h⟩, u.w⟩
theorem dN {H : Hp} {a b : Addr} {o : HO} (h : upd H a o b = none) : H b = none := by
 by_cases e : b = a
 ·rw [e, ad] at h; cases h
 ·rw [ac e] at h; exact h
theorem Rp.tup {p : Addr} {vs : List V} (r : Rp B F H σ τ) (n : H p = none) : Up B F H (upd F p (.tup vs)) (upd H p (.tup vs)) where
 f := aa.new (r.up.i.free n) _
 h := fun q o _ z => aa.new n _ q o z
 i := fun b o e => by
  by_cases hb : b = p
  ·subst hb; rw [ad] at e ⊢; exact e
  ·rw [ac hb] at e ⊢; exact r.up.i b o e
 m := fun q o h _ z => by
  have : q ≠ p := fun e => by rw [e, n] at h; cases h
  rw [ac this]; exact z
 w := fun q h => dN h
 x := fun q hw z => by
  have : q ≠ p := fun e => r.wa q hw (r.up.w q (by rw [e]; exact n))
  rw [ac this]; exact z
 j := fun h => B.jl _ _ (fun q hw => by
  have : q ≠ p := fun e => r.wa q hw (r.up.w q (by rw [e]; exact n))
  rw [ac this]) (fun q φ z => aa.new n _ q _ z) h
theorem Rp.new {p : Addr} {o : HO} (r : Rp B F H σ τ) (n : H p = none) : Up B F H F (upd H p o) where
 f := aa.refl _
 h := fun q o _ z => aa.new n _ q o z
 i := r.up.i.trans (aa.new n _)
 m := fun q o h _ z => z
 w := fun q h => dN h
 x := fun q hw z => z
 j := fun h => B.jl _ _ (fun q hw => by
  have : q ≠ p := fun e => r.wa q hw (r.up.w q (by rw [e]; exact n))
  rw [ac this]) (fun q φ z => aa.new n _ q _ z) h
theorem Rp.inc (r : Rp B F H σ τ) : aa F H := r.up.i
theorem Rp.fixA {l : Addr} {o : HO} (r : Rp B F H σ τ) (ho : H l = some o) (n : F l = none) (n0 : B.H0 l = none) (ne : ∀ i u, bz τ i (.own u) ∨ bz τ i (.vw u) -> ¬ cX σ i (.ref l)) : Rp B (upd F l o) H σ τ where
  wa := r.wa
  wf := fun p hw => by
    have : p ≠ l := fun e => r.wa p hw (by rw [e]; exact n0)
    rw [ac this]; exact r.wf p hw
  wj := r.wj
  wd := r.wd
  up := { f := r.up.f.trans (aa.new n o), h := r.up.h, w := r.up.w, j := r.up.j
          m := fun p q hp mb z => by
            have : p ≠ l := fun e => by rw [e, n0] at hp; cases hp
            rw [ac this]; exact r.up.m p q hp mb z
          x := fun p hw z => by
            have : p ≠ l := fun e => r.wa p hw (by rw [e]; exact n0)
            rw [ac this]; exact r.up.x p hw z
          i := fun b q e => by
            by_cases hb : b = l
            · subst hb; rw [ad] at e; cases e; exact ho
            · rw [ac hb] at e; exact r.up.i b q e }
  len := r.len
  fz := fun i t h => by obtain ⟨v, e, g⟩ := r.fz i t h; exact ⟨v, e, g.same (aa.new n o)⟩
  ow := fun i t h => by
    obtain ⟨l', e, g, n', n0'⟩ := r.ow i t h
    have hl : l' ≠ l := fun z => ne i t (.inl h) (by rw [<- z]; exact e)
    exact ⟨l', e, g.to (aa.new n o) (fun _ q => q), by rw [ac hl]; exact n', n0'⟩
  vw := fun i t h => by
    obtain ⟨l', e, g, n', nw⟩ := r.vw i t h
    have hl : l' ≠ l := fun z => ne i t (.inr h) (by rw [<- z]; exact e)
    exact ⟨l', e, g.to (aa.new n o) (fun _ q => q), by rw [ac hl]; exact n', nw⟩
  ap := r.ap
  av := r.av
theorem aR {τ : TSt} {i j : Nat} {s u : Sl} (h : bz (τ.set i s) j u) : (j = i /\ u = s /\ i < τ.length) ∨ (j ≠ i /\ bz τ j u) := by
 unfold bz at h
 rw [List.getElem?_set] at h
 by_cases e : i = j
 ·subst e
  rw [if_pos rfl] at h
  by_cases g : i < τ.length
  ·rw [if_pos g] at h; cases h; exact .inl ⟨rfl, rfl, g⟩
  ·rw [if_neg g] at h; cases h
 ·rw [if_neg e] at h; exact .inr ⟨fun z => e z.symm, h⟩
theorem eU {σ : St} {i j : Nat} {x : Option V} {v : V} (h : cX (σ.set i x) j v) : (j = i /\ x = some v) ∨ (j ≠ i /\ cX σ j v) := by
 unfold cX at h
 rw [List.getElem?_set] at h
 by_cases e : i = j
 ·subst e
  rw [if_pos rfl] at h
  by_cases g : i < σ.length
  ·rw [if_pos g] at h; cases h; exact .inl ⟨rfl, rfl⟩
  ·rw [if_neg g] at h; cases h
 ·rw [if_neg e] at h; exact .inr ⟨fun z => e z.symm, h⟩
theorem jh {σ : St} {i : Nat} {v : V} (h : i < σ.length) : cX (σ.set i (some v)) i v := by
 unfold cX
 rw [List.getElem?_set, if_pos rfl, if_pos h]
theorem cC {σ : St} {i j : Nat} {x : Option V} {v : V} (n : j ≠ i) (h : cX σ j v) : cX (σ.set i x) j v := by
 unfold cX at h ⊢
 rw [List.getElem?_set, if_neg (fun z => n z.symm)]; exact h
theorem Rp.setF {i : Nat} {v : V} {t : Tr} (r : Rp B F H σ τ) (h : Is B.K F v t) : Rp B F H (σ.set i (some v)) (τ.set i (.fz t)) where
 up := r.up
 wa := r.wa
 wf := r.wf
 wj := r.wj
 wd := fun j e => by
  rcases aR e with ⟨_, e, _⟩ | ⟨n, e⟩
  ·cases e
  ·exact cC n (r.wd j e)
 len := by rw [List.length_set, List.length_set]; exact r.len
 fz := fun j u e => by
  rcases aR e with ⟨rfl, e, g⟩ | ⟨n, e⟩
  ·cases e; exact ⟨v, jh (by rw [r.len]; exact g), h⟩
  ·obtain ⟨w, a, b⟩ := r.fz j u e
   exact ⟨w, cC n a, b⟩
 ow := fun j u e => by
  rcases aR e with ⟨rfl, e, g⟩ | ⟨n, e⟩
  ·cases e
  ·obtain ⟨w, a, b⟩ := r.ow j u e
   exact ⟨w, cC n a, b⟩
 vw := fun j u e => by
  rcases aR e with ⟨rfl, e, g⟩ | ⟨n, e⟩
  ·cases e
  ·obtain ⟨w, a, b⟩ := r.vw j u e
   exact ⟨w, cC n a, b⟩
 ap := fun a b t u l ha hb ne hi hj => by
  rcases aR ha with ⟨_, e, _⟩ | ⟨na, ha⟩
  ·cases e
  rcases aR hb with ⟨_, e, _⟩ | ⟨nb, hb⟩
  ·cases e
  rcases eU hi with ⟨e, _⟩ | ⟨_, hi⟩
  ·exact na e
  rcases eU hj with ⟨e, _⟩ | ⟨_, hj⟩
  ·exact nb e
  exact r.ap a b t u l ha hb ne hi hj
 av := fun a b t u l ha hb hi hj => by
  rcases aR ha with ⟨_, e, _⟩ | ⟨na, ha⟩
  ·cases e
  rcases aR hb with ⟨_, e, _⟩ | ⟨nb, hb⟩
  ·cases e
  rcases eU hi with ⟨e, _⟩ | ⟨_, hi⟩
  ·exact na e
  rcases eU hj with ⟨e, _⟩ | ⟨_, hj⟩
  ·exact nb e
  exact r.av a b t u l ha hb hi hj
theorem Rp.setN {i : Nat} {v : V} {t : Tr} (r : Rp B F H σ τ) (h : kg B F H σ τ v (.nw t)) : Rp B F H (σ.set i (some v)) (τ.set i (.own t)) := by
 obtain ⟨l0, rfl, hw, n, n0, dis⟩ := h
 exact {
 up := r.up
 wa := r.wa
 wf := r.wf
 wj := r.wj
 wd := fun j e => by
  rcases aR e with ⟨_, e, _⟩ | ⟨n, e⟩
  ·cases e
  ·exact cC n (r.wd j e)
 len := by rw [List.length_set, List.length_set]; exact r.len
 fz := fun j u e => by
  rcases aR e with ⟨rfl, e, g⟩ | ⟨n, e⟩
  ·cases e
  ·obtain ⟨w, a, b⟩ := r.fz j u e
   exact ⟨w, cC n a, b⟩
 ow := fun j u e => by
  rcases aR e with ⟨rfl, e, g⟩ | ⟨n, e⟩
  ·cases e; exact ⟨l0, jh (by rw [r.len]; exact g), hw, n, n0⟩
  ·obtain ⟨w, a, b⟩ := r.ow j u e
   exact ⟨w, cC n a, b⟩
 vw := fun j u e => by
  rcases aR e with ⟨rfl, e, g⟩ | ⟨n, e⟩
  ·cases e
  ·obtain ⟨w, a, b⟩ := r.vw j u e
   exact ⟨w, cC n a, b⟩
 ap := fun a b t u l ha hb ne hi hj => by
  rcases aR ha with ⟨ea, _, _⟩ | ⟨na, ha⟩
  ·rcases aR hb with ⟨eb, _, _⟩ | ⟨nb, hb⟩
   ·exact ne (ea.trans eb.symm)
   ·rcases eU hi with ⟨_, e⟩ | ⟨na, _⟩
    ·cases e
     rcases eU hj with ⟨e, _⟩ | ⟨_, hj⟩
     ·exact nb e
     ·exact dis b u (.inl hb) hj
    ·exact na ea
  ·rcases eU hi with ⟨e, _⟩ | ⟨_, hi⟩
   ·exact na e
   rcases aR hb with ⟨eb, _, _⟩ | ⟨nb, hb⟩
   ·rcases eU hj with ⟨_, e⟩ | ⟨nb, _⟩
    ·cases e; exact dis a t (.inl ha) hi
    ·exact nb eb
   ·rcases eU hj with ⟨e, _⟩ | ⟨_, hj⟩
    ·exact nb e
    ·exact r.ap a b t u l ha hb ne hi hj
 av := fun a b t u l ha hb hi hj => by
  rcases aR hb with ⟨_, e, _⟩ | ⟨nb, hb⟩
  ·cases e
  rcases eU hj with ⟨e, _⟩ | ⟨_, hj⟩
  ·exact nb e
  rcases aR ha with ⟨ea, _, _⟩ | ⟨na, ha⟩
  ·rcases eU hi with ⟨_, e⟩ | ⟨na, _⟩
   ·cases e; exact dis b u (.inr hb) hj
   ·exact na ea
  ·rcases eU hi with ⟨e, _⟩ | ⟨_, hi⟩
   ·exact na e
   ·exact r.av a b t u l ha hb hi hj }
theorem Rp.forget {i : Nat} (r : Rp B F H σ τ) : Rp B F H σ (τ.set i .no) where
 up := r.up
 wa := r.wa
 wf := r.wf
 wj := r.wj
 wd := fun j e => by
  rcases aR e with ⟨_, e, _⟩ | ⟨n, e⟩
  ·cases e
  ·exact r.wd j e
 len := by rw [List.length_set]; exact r.len
 fz := fun j u e => by
  rcases aR e with ⟨_, e, _⟩ | ⟨_, e⟩
  ·cases e
  ·exact r.fz j u e
 ow := fun j u e => by
  rcases aR e with ⟨_, e, _⟩ | ⟨_, e⟩
  ·cases e
  ·exact r.ow j u e
 vw := fun j u e => by
  rcases aR e with ⟨_, e, _⟩ | ⟨_, e⟩
  ·cases e
  ·exact r.vw j u e
 ap := fun a b t u l ha hb => by
  rcases aR ha with ⟨_, e, _⟩ | ⟨_, ha⟩
  ·cases e
  rcases aR hb with ⟨_, e, _⟩ | ⟨_, hb⟩
  ·cases e
  exact r.ap a b t u l ha hb
 av := fun a b t u l ha hb => by
  rcases aR ha with ⟨_, e, _⟩ | ⟨_, ha⟩
  ·cases e
  rcases aR hb with ⟨_, e, _⟩ | ⟨_, hb⟩
  ·cases e
  exact r.av a b t u l ha hb
theorem ag {σ : St} {i : Nat} {v w : V} (h : cX σ i v) (g : cX σ i w) : v = w := by
 unfold cX at h g
 rw [h] at g; exact Option.some.inj (Option.some.inj g)
theorem pI {σ : St} {i : Nat} {v : V} (h : cX σ i v) : σ.set i (some v) = σ := by
 apply List.ext_getElem?
 intro j
 rw [List.getElem?_set]
 by_cases e : i = j
 ·subst e
  rw [if_pos rfl, if_pos (List.getElem?_eq_some_iff.mp h).1]; exact h.symm
 ·rw [if_neg e]
theorem Rp.fixS {i : Nat} {t : Tr} (r : Rp B F H σ τ) (h : bz τ i (.own t)) : ∃ F2 l, cX σ i (.ref l) /\ aa F F2 /\ Rp B F2 H σ (τ.set i (.fz t)) /\ Is B.K F2 (.ref l) t /\ ∀ p, p ≠ l -> F2 p = F p := by
 obtain ⟨l, e, g, n, n0⟩ := r.ow i t h
 obtain ⟨o, ho, mb⟩ := g.mb
 have r1 : Rp B F H σ (τ.set i .no) := r.forget
 have r2 := r1.fixA ho n n0 (fun j u hj hs => by
  rcases hj with hj | hj
  ·rcases aR hj with ⟨_, z, _⟩ | ⟨nj, hj⟩
   ·cases z
   ·exact r.ap i j t u l h hj (fun z => nj z.symm) e hs
  ·rcases aR hj with ⟨_, z, _⟩ | ⟨nj, hj⟩
   ·cases z
   ·exact r.av i j t u l h hj e hs)
 have hi : Is B.K (upd F l o) (.ref l) t := g.is (aa.new n o) (by rw [ad, ho])
 have r3 := r2.setF (i := i) hi
 rw [pI e, List.set_set] at r3
 exact ⟨_, l, e, aa.new n o, r3, hi, fun p hp => ac hp⟩
theorem dw {v : V} {k : Kd} {S : Tr -> TSt -> Prop} (f : Fr B σ τ F H τ1 F1 H1) (r : Rp B F1 H1 σ τ1) (ok : kg B F1 H1 σ τ1 v k) (nk : qp H v k) (h : oh k τ1 S) : ∃ F2 t τ2, Fr B σ τ F H τ2 F2 H1 /\ Rp B F2 H1 σ τ2 /\ Is B.K F2 v t /\ S t τ2 /\ aa F1 F2 := by
 cases k with
 | fz t => exact ⟨F1, t, τ1, f, r, ok, h, aa.refl _⟩
 | nw t =>
  obtain ⟨l, rfl, g, n, n0, ne⟩ := ok
  obtain ⟨o, ho, mb⟩ := g.mb
  refine ⟨upd F1 l o, t, τ1, ⟨f.f.trans (aa.new n o), fun p q hp nw no => ?_, f.o, f.h⟩, r.fixA ho n n0 ne, g.is (aa.new n o) (by rw [ad, ho]), h, aa.new n o⟩
  obtain ⟨h1, h2⟩ := f.k p q hp nw no
  refine ⟨h1, fun mb z => ?_⟩
  have : p ≠ l := fun e => by rw [e, nk l rfl] at hp; cases hp
  rw [ac this]; exact h2 mb z
 | sl i =>
  rcases h with ⟨t, ht, hs⟩ | ⟨t, ht, hs⟩
  ·obtain ⟨F2, l, e, sF, r2, hi, ne⟩ := r.fixS ht
   cases ag e ok
   refine ⟨F2, t, _, ⟨f.f.trans sF, fun p q hp nw no => ?_, fun j u hj => ?_, f.h⟩, r2, hi, hs, sF⟩
   ·obtain ⟨h1, h2⟩ := f.k p q hp nw no
    refine ⟨h1, fun mb z => ?_⟩
    obtain ⟨u, hu⟩ := f.o i t ht
    have : p ≠ l := fun e' => no i u hu (by rw [e']; exact e)
    rw [ne p this]; exact h2 mb z
   ·rcases aR hj with ⟨_, z, _⟩ | ⟨_, hj⟩
    ·cases z
    ·exact f.o j u hj
  ·obtain ⟨w, e, hi⟩ := r.fz i t ht
   cases ag e ok
   exact ⟨F1, t, τ1, f, r, hi, hs, aa.refl _⟩
 | wd => exact h.elim
theorem bB {v : V} {k : Kd} {S : TK} (f : Fr B σ τ F H τ1 F1 H1) (r : Rp B F1 H1 σ τ1) (ok : kg B F1 H1 σ τ1 v k) (nk : qp H v k) (h : ir k τ1 S) : ∃ F2 k', Fr B σ τ F H τ1 F2 H1 /\ Rp B F2 H1 σ τ1 /\ cR B.K F2 σ v k' /\ S k' τ1 /\ aa F1 F2 := by
 cases k with
 | fz t => exact ⟨F1, .fz t, f, r, ok, h, aa.refl _⟩
 | nw t =>
  obtain ⟨F2, t2, τ2, f2, r2, i2, ⟨s2, rfl, rfl⟩, sF⟩ := dw (S := fun t' τ' => S (.fz t') τ' /\ t' = t /\ τ' = τ1) f r ok nk ⟨h, rfl, rfl⟩
  exact ⟨F2, _, f2, r2, (show cR B.K F2 σ v (.fz _) from i2), s2, sF⟩
 | sl i => exact ⟨F1, .sl i, f, r, ok, h, aa.refl _⟩
 | wd => exact h.elim
end
end L2
namespace L2
open PySem PySem.Spec PyProof.Rows
inductive Gt {α : Type} : List α -> Nat -> α -> Prop
 | here {v : α} {r : List α} : Gt (v :: r) 0 v
 | next {x v : α} {r : List α} {i : Nat} : Gt r i v -> Gt (x :: r) (i + 1) v
theorem Gt.eq {α : Type} {σ : List α} {i : Nat} {v : α} (h : Gt σ i v) : σ[i]? = some v := by
 induction h with
 | here => rfl
 | next _ ih => rw [List.getElem?_cons_succ, ih]
inductive eJ {α : Type} : List α -> Nat -> α -> List α -> Prop
 | here {x v : α} {r : List α} : eJ (x :: r) 0 v (v :: r)
 | next {x v : α} {r r' : List α} {i : Nat} : eJ r i v r' -> eJ (x :: r) (i + 1) v (x :: r')
theorem eJ.eq {α : Type} {σ σ' : List α} {i : Nat} {v : α} (h : eJ σ i v σ') : σ.set i v = σ' := by
 induction h with
 | here => rfl
 | next _ ih => rw [List.set_cons_succ, ih]
inductive Rk (τ : TSt) : Kd -> Tr -> Prop
 | fz {t : Tr} : Rk τ (.fz t) t
 | own {i : Nat} {t : Tr} : Gt τ i (.own t) -> Rk τ (.sl i) t
 | vw {i : Nat} {t : Tr} : Gt τ i (.vw t) -> Rk τ (.sl i) t
 | sfz {i : Nat} {t : Tr} : Gt τ i (.fz t) -> Rk τ (.sl i) t
section
variable {B : Bk} {F H : Hp} {σ : St} {τ : TSt}
theorem Rk.list {v : V} {k : Kd} {ts : List Tr} (h : Rk τ k (.lst ts)) (r : Rp B F H σ τ) (ok : cR B.K F σ v k) : ∃ p vs, v = .ref p /\ ak B.K H p vs /\ IsL B.K F vs ts := by
 cases h with
 | fz =>
  cases ok with
  | lst a b => exact ⟨_, _, rfl, r.inc.seq a, b⟩
 | own g =>
  obtain ⟨l, e, hw, _⟩ := r.ow _ _ g.eq
  cases ag e ok
  cases hw with
  | lst a b => exact ⟨_, _, rfl, ak.of a, b⟩
 | vw g =>
  obtain ⟨l, e, hw, _⟩ := r.vw _ _ g.eq
  cases ag e ok
  cases hw with
  | lst a b => exact ⟨_, _, rfl, ak.of a, b⟩
 | sfz g =>
  obtain ⟨w, e, hi⟩ := r.fz _ _ g.eq
  cases ag e ok
  cases hi with
  | lst a b => exact ⟨_, _, rfl, r.inc.seq a, b⟩
theorem Rk.tuple {v : V} {k : Kd} {ts : List Tr} (h : Rk τ k (.tup ts)) (r : Rp B F H σ τ) (ok : cR B.K F σ v k) : ∃ p vs, v = .ref p /\ aH B.K H p vs /\ IsL B.K F vs ts := by
 cases h with
 | fz =>
  cases ok with
  | tup a b => exact ⟨_, _, rfl, r.inc.tup a, b⟩
 | own g =>
  obtain ⟨l, e, hw, _⟩ := r.ow _ _ g.eq
  cases hw
 | vw g =>
  obtain ⟨l, e, hw, _⟩ := r.vw _ _ g.eq
  cases hw
 | sfz g =>
  obtain ⟨w, e, hi⟩ := r.fz _ _ g.eq
  cases ag e ok
  cases hi with
  | tup a b => exact ⟨_, _, rfl, r.inc.tup a, b⟩
theorem Rk.dict {v : V} {k : Kd} {ts : List (Key × Tr)} (h : Rk τ k (.dct ts)) (r : Rp B F H σ τ) (ok : cR B.K F σ v k) : ∃ p kvs, v = .ref p /\ H p = some (.dK kvs) /\ kvs.map (·.1) = ts.map (·.1) /\ IsL B.K F (kvs.map (·.2)) (ts.map (·.2)) := by
 cases h with
 | fz =>
  cases ok with
  | dct a b c => exact ⟨_, _, rfl, r.inc _ _ a, b, c⟩
 | own g =>
  obtain ⟨l, e, hw, _⟩ := r.ow _ _ g.eq
  cases ag e ok
  cases hw with
  | dct a b c => exact ⟨_, _, rfl, a, b, c⟩
 | vw g =>
  obtain ⟨l, e, hw, _⟩ := r.vw _ _ g.eq
  cases ag e ok
  cases hw with
  | dct a b c => exact ⟨_, _, rfl, a, b, c⟩
 | sfz g =>
  obtain ⟨w, e, hi⟩ := r.fz _ _ g.eq
  cases ag e ok
  cases hi with
  | dct a b c => exact ⟨_, _, rfl, r.inc _ _ a, b, c⟩
end
section
variable {B : Bk} {τ τ' : TSt} {Φ : TK} {te ta tb tc : TE} {k : Nat} {t : Tr} {i j : Int} {x y : Kd} {b : Bool} {c d : TT} {Ψ : Bool -> TSt -> Prop}
theorem zT {S : TK} (h : S (.fz t) τ) : ir (.fz t) τ S := h
theorem zZ {S : TK} (h : S (.fz t) τ) : ir (.nw t) τ S := h
theorem Af {S : TK} (h : S (.sl k) τ) : ir (.sl k) τ S := h
theorem yh {S : Tr -> TSt -> Prop} (h : S t τ) : oh (.fz t) τ S := h
theorem xr {S : Tr -> TSt -> Prop} (h : S t τ) : oh (.nw t) τ S := h
theorem nK {S : Tr -> TSt -> Prop} (g : Gt τ k (.own t)) (s : eJ τ k (.fz t) τ') (h : S t τ') : oh (.sl k) τ S := .inl ⟨t, g.eq, by rw [s.eq]; exact h⟩
theorem nR {S : Tr -> TSt -> Prop} (g : Gt τ k (.fz t)) (h : S t τ) : oh (.sl k) τ S := .inr ⟨t, g.eq, h⟩
theorem CT.pl {F H : Hp} {σ : St} {Q : VK} {v : V} (c : CT B σ τ F H Φ Q) (r : Rp B F H σ τ) (h : Is B.K F v t) (φ : Φ (.fz t) τ) : Q v H := c v F H (.fz t) τ Fr.refl r h trivial φ
theorem yj (g : Gt τ k (.fz t)) (q : Φ (.fz t) τ) : EV B (ku k) τ Φ := fun σ F H Q r c => by
 obtain ⟨v, e, h⟩ := r.fz _ _ g.eq
 exact ⟨v, e, c.pl r h q⟩
theorem wq (g : Gt τ k (.own t)) (q : Φ (.sl k) τ) : EV B (ku k) τ Φ := fun σ F H Q r c => by
 obtain ⟨l, e, h⟩ := r.ow _ _ g.eq
 exact ⟨_, e, c _ F H (.sl k) τ Fr.refl r e trivial q⟩
theorem vn (g : Gt τ k (.vw t)) (q : Φ (.sl k) τ) : EV B (ku k) τ Φ := fun σ F H Q r c => by
 obtain ⟨l, e, h⟩ := r.vw _ _ g.eq
 exact ⟨_, e, c _ F H (.sl k) τ Fr.refl r e trivial q⟩
theorem vA (g : Gt τ k .wd) (q : Φ .wd τ) : EV B (ku k) τ Φ := fun σ F H Q r c => by
 have e := r.wd _ g.eq
 exact ⟨_, e, c _ F H .wd τ Fr.refl r rfl trivial q⟩
theorem zq (q : Φ (.fz (.int i)) τ) : EV B (tC (.int i)) τ Φ := fun _ _ _ _ r c => c.pl r .int q
theorem Ag (q : Φ (.fz (.bl b)) τ) : EV B (tC (.bl b)) τ Φ := fun _ _ _ _ r c => c.pl r .bl q
theorem zX (q : Φ (.fz .non) τ) : EV B (tC .non) τ Φ := fun _ _ _ _ r c => c.pl r .non q
theorem An {z : Str} (q : Φ (.fz (.str z)) τ) : EV B (tC (.str z)) τ Φ := fun _ _ _ _ r c => c.pl r .str q
theorem zi {z : String} (q : Φ (.fz (.ty z)) τ) : EV B (tC (.ty z)) τ Φ := fun _ _ _ _ r c => c.pl r .ty q
theorem zJ {p : Addr} (h : ∀ F, Is B.K F (.ref p) t) (q : Φ (.fz t) τ) : EV B (tC (.ref p)) τ Φ := fun _ F _ _ r c => c.pl r (h F) q
def RO (B : Bk) (r : R2) (x y : Kd) (τ : TSt) (Φ : TK) : Prop := ∀ σ F H v w Q, Rp B F H σ τ -> cR B.K F σ v x -> cR B.K F σ w y -> CT B σ τ F H Φ Q -> r v w H Q
theorem zY {r : R2} (h : EV B ta τ fun x τ1 => ir x τ1 fun x τ1 => EV B tb τ1 fun y τ2 => ir y τ2 fun y τ2 => RO B r x y τ2 Φ) : EV B (tL r ta tb) τ Φ := fun σ F H Q rp c => by
 refine h σ F H _ rp fun v F1 H1 k τ1 f1 r1 ok1 n1 h1 => ?_
 obtain ⟨F2, k', f2, r2, ok2, h2, _⟩ := bB f1 r1 ok1 n1 h1
 refine h2 σ F2 H1 _ r2 fun w F3 H3 k3 τ3 f3 r3 ok3 n3 h3 => ?_
 obtain ⟨F4, k4, f4, r4, ok4, h4, _⟩ := bB f3 r3 ok3 n3 h3
 exact h4 σ F4 H3 v w Q r4 (ok2.same f4.f) ok4 (c.on (f2.trans f4))
def RU (B : Bk) (r : V -> Hp -> VK -> Prop) (x : Kd) (τ : TSt) (Φ : TK) : Prop := ∀ σ F H v Q, Rp B F H σ τ -> cR B.K F σ v x -> CT B σ τ F H Φ Q -> r v H Q
theorem Ao {r : V -> Hp -> VK -> Prop} (h : EV B ta τ fun x τ1 => ir x τ1 fun x τ1 => RU B r x τ1 Φ) : EV B (tUn r ta) τ Φ := fun σ F H Q rp c => by
 refine h σ F H _ rp fun v F1 H1 k τ1 f1 r1 ok1 n1 h1 => ?_
 obtain ⟨F2, k', f2, r2, ok2, h2, _⟩ := bB f1 r1 ok1 n1 h1
 exact h2 σ F2 H1 v Q r2 ok2 (c.on f2)
theorem aC {K : Fg} {F : Hp} {σ : St} {v : V} (h : cR K F σ v (.fz (.int i))) : v = .int i := by cases h; rfl
theorem dM {K : Fg} {F : Hp} {σ : St} {v : V} (h : cR K F σ v (.fz (.bl b))) : v = .bl b := by cases h; rfl
theorem dz {K : Fg} {F : Hp} {σ : St} {v : V} {z : Str} (h : cR K F σ v (.fz (.str z))) : v = .str z := by cases h; rfl
theorem pG {K : Fg} {F : Hp} {σ : St} {v : V} (h : cR K F σ v (.fz .non)) : v = .non := by cases h; rfl
theorem zV {C : Int -> Int -> Prop} {g : Int -> Int -> Int} (hc : C i j) (q : Φ (.fz (.int (g i j))) τ) : RO B (rI C fun i j => .int (g i j)) (.fz (.int i)) (.fz (.int j)) τ Φ := fun _ _ _ _ _ _ r a b c => by
 cases aC a; cases aC b
 exact ⟨i, j, rfl, rfl, hc, c.pl r .int q⟩
theorem xj {C : Int -> Int -> Prop} {g : Int -> Int -> Bool} (hc : C i j) (q : Φ (.fz (.bl (g i j))) τ) : RO B (rI C fun i j => .bl (g i j)) (.fz (.int i)) (.fz (.int j)) τ Φ := fun _ _ _ _ _ _ r a b c => by
 cases aC a; cases aC b
 exact ⟨i, j, rfl, rfl, hc, c.pl r .bl q⟩
theorem xE {g : Int -> Int -> Int} (q : Φ (.fz (.int (g i j))) τ) : RO B (qc fun i j => .int (g i j)) (.fz (.int i)) (.fz (.int j)) τ Φ := fun _ _ _ _ _ _ r a b c => by
 cases aC a; cases aC b
 exact ⟨i, j, rfl, rfl, c.pl r .int q⟩
theorem wk {g : Int -> Int -> Bool} (q : Φ (.fz (.bl (g i j))) τ) : RO B (qc fun i j => .bl (g i j)) (.fz (.int i)) (.fz (.int j)) τ Φ := fun _ _ _ _ _ _ r a b c => by
 cases aC a; cases aC b
 exact ⟨i, j, rfl, rfl, c.pl r .bl q⟩
theorem zo {g : Int -> Int} (q : Φ (.fz (.int (g i))) τ) : RU B (rU fun i => .int (g i)) (.fz (.int i)) τ Φ := fun _ _ _ _ _ r a c => by
 cases aC a
 exact ⟨i, rfl, c.pl r .int q⟩
theorem vh (q : Φ (.fz (.bl (decide (i = j)))) τ) : RO B rEq (.fz (.int i)) (.fz (.int j)) τ Φ := fun _ _ _ _ _ _ r a b c => by
 cases aC a; cases aC b
 exact sQ (c.pl r .bl q)
theorem tE (q : Φ (.fz (.bl (!decide (i = j)))) τ) : RO B wD (.fz (.int i)) (.fz (.int j)) τ Φ := fun _ _ _ _ _ _ r a b c => by
 cases aC a; cases aC b
 exact sS (c.pl r .bl q)
theorem vq {z u : Str} (q : Φ (.fz (.bl (decide (z = u)))) τ) : RO B rEq (.fz (.str z)) (.fz (.str u)) τ Φ := fun _ _ _ _ _ _ r a b c => by
 cases dz a; cases dz b
 exact sY (c.pl r .bl q)
theorem vU {z u : Str} (q : Φ (.fz (.bl (!decide (z = u)))) τ) : RO B wD (.fz (.str z)) (.fz (.str u)) τ Φ := fun _ _ _ _ _ _ r a b c => by
 cases dz a; cases dz b
 exact tm (c.pl r .bl q)
theorem uR {b1 b2 : Bool} (q : Φ (.fz (.bl (!decide (b1 = b2)))) τ) : RO B wD (.fz (.bl b1)) (.fz (.bl b2)) τ Φ := fun _ _ _ _ _ _ r a b c => by
 cases dM a; cases dM b
 exact wP (c.pl r .bl q)
theorem vy {b1 b2 : Bool} (q : Φ (.fz (.bl (decide (b1 = b2)))) τ) : RO B rEq (.fz (.bl b1)) (.fz (.bl b2)) τ Φ := fun _ _ _ _ _ _ r a b c => by
 cases dM a; cases dM b
 exact xa (c.pl r .bl q)
theorem vH {b1 b2 : Bool} (q : Φ (.fz (.bl (b1 == b2))) τ) : RO B zQ (.fz (.bl b1)) (.fz (.bl b2)) τ Φ := fun _ _ _ _ _ _ r a b c => by
 cases dM a; cases dM b
 exact ⟨b1, b2, rfl, rfl, c.pl r .bl q⟩
theorem rX {b1 b2 : Bool} (q : Φ (.fz (.bl (b1 != b2))) τ) : RO B yl (.fz (.bl b1)) (.fz (.bl b2)) τ Φ := fun _ _ _ _ _ _ r a b c => by
 cases dM a; cases dM b
 exact ⟨b1, b2, rfl, rfl, c.pl r .bl q⟩
def Tr.isN : Tr -> Bool
 | .non => true
 | _ => false
theorem nM {K : Fg} {F : Hp} {v : V} (h : Is K F v t) : decide (v = .non) = t.isN := by cases h <;> rfl
theorem nT (q : Φ (.fz (.bl t.isN)) τ) : RO B kf (.fz t) (.fz .non) τ Φ := fun _ _ _ v _ _ r a b c => by
 cases pG b
 refine ⟨rfl, ?_⟩
 rw [nM (show Is B.K _ v t from a)]
 exact c.pl r .bl q
theorem lA (q : Φ (.fz (.bl (!t.isN))) τ) : RO B fh (.fz t) (.fz .non) τ Φ := fun _ _ _ v _ _ r a b c => by
 cases pG b
 refine ⟨rfl, ?_⟩
 rw [nM (show Is B.K _ v t from a)]
 exact c.pl r .bl q
theorem pR {K : Fg} {F : Hp} {vs : List V} {ts : List Tr} (h : IsL K F vs ts) (e : fW ts i = some t) : ∃ v, fW vs i = some v /\ Is K F v t := by
 unfold fW at e ⊢
 rw [h.length]
 cases hx : qD ts.length i with
 | none => rw [hx] at e; cases e
 | some n =>
  rw [hx] at e
  exact h.get e
theorem dy {K : Fg} {ts : List Tr} (hK : K = B.K) (rk : Rk τ x (.lst ts)) (e : fW ts i = some t) (q : Φ (.fz t) τ) : RO B (wx K) x (.fz (.int i)) τ Φ := fun _ _ _ _ _ _ r a b c => by
 subst hK
 cases aC b
 obtain ⟨p, vs, rfl, s, l⟩ := rk.list r a
 obtain ⟨w, ew, hw⟩ := pR l e
 exact ⟨p, vs, i, w, rfl, rfl, s, ew, c.pl r hw q⟩
theorem fC {K : Fg} {ts : List Tr} (hK : K = B.K) (rk : Rk τ x (.tup ts)) (e : fW ts i = some t) (q : Φ (.fz t) τ) : RO B (uW K) x (.fz (.int i)) τ Φ := fun _ _ _ _ _ _ r a b c => by
 subst hK
 cases aC b
 obtain ⟨p, vs, rfl, s, l⟩ := rk.tuple r a
 obtain ⟨w, ew, hw⟩ := pR l e
 exact ⟨p, vs, i, w, rfl, rfl, s, ew, c.pl r hw q⟩
theorem pD (h : EV B te τ fun x τ1 => ∃ b, x = .fz (.bl b) /\ Ψ b τ1) : TV B (pY te) τ Ψ := fun σ F H Q r c => by
 refine h σ F H _ r fun v F1 H1 k τ1 f1 r1 ok1 _ ⟨b, e, h1⟩ => ?_
 subst e
 cases ok1
 exact ⟨b, rfl, c b F1 H1 τ1 f1 r1 h1⟩
theorem t_B (h : EV B te τ fun x τ1 => ∃ b, x = .fz (.bl b) /\ Ψ b τ1) : TV B (tB te) τ Ψ := pD h
theorem ya {S : Bool -> Prop} (q : S b) : ∃ b', Kd.fz (.bl b) = .fz (.bl b') /\ S b' := ⟨b, rfl, q⟩
theorem TV.on {σ : St} {F H F1 H1 : Hp} {τ1 : TSt} {Q : Bool -> Hp -> Prop} (c : ∀ b F' H' τ', Fr B σ τ F H τ' F' H' -> Rp B F' H' σ τ' -> Ψ b τ' -> Q b H') (f : Fr B σ τ F H τ1 F1 H1) : ∀ b F' H' τ', Fr B σ τ1 F1 H1 τ' F' H' -> Rp B F' H' σ τ' -> Ψ b τ' -> Q b H' :=
 fun b F' H' τ' f' r h => c b F' H' τ' (f.trans f') r h
theorem xR (h : TV B c τ fun k τ1 => if k = true then TV B d τ1 Ψ else Ψ false τ1) : TV B (ua c d) τ Ψ := fun σ F H Q r k => by
 refine h σ F H _ r fun b F1 H1 τ1 f1 r1 h1 => ?_
 cases b with
 | true => rw [if_pos rfl] at h1 ⊢; exact h1 σ F1 H1 Q r1 (TV.on k f1)
 | false => rw [if_neg Bool.false_ne_true] at h1 ⊢; exact k _ F1 H1 τ1 f1 r1 h1
theorem zF (h : TV B c τ fun k τ1 => if k = true then Ψ true τ1 else TV B d τ1 Ψ) : TV B (zm c d) τ Ψ := fun σ F H Q r k => by
 refine h σ F H _ r fun b F1 H1 τ1 f1 r1 h1 => ?_
 cases b with
 | true => rw [if_pos rfl] at h1 ⊢; exact k _ F1 H1 τ1 f1 r1 h1
 | false => rw [if_neg Bool.false_ne_true] at h1 ⊢; exact h1 σ F1 H1 Q r1 (TV.on k f1)
theorem yt (h : TV B c τ fun k τ1 => Ψ (!k) τ1) : TV B (vv c) τ Ψ := fun σ F H Q r k => h σ F H _ r fun b F1 H1 τ1 f1 r1 h1 => k _ F1 H1 τ1 f1 r1 h1
theorem vX (h : EV B ta τ fun x τ1 => ∃ b, x = .fz (.bl b) /\ if b = true then EV B tb τ1 Φ else Φ (.fz (.bl false)) τ1) : EV B (oZ ta tb) τ Φ := fun σ F H Q r c => by
 refine h σ F H _ r fun v F1 H1 k τ1 f1 r1 ok1 _ ⟨b, e, h1⟩ => ?_
 subst e
 cases ok1
 refine ⟨b, rfl, ?_⟩
 cases b with
 | true => rw [if_pos rfl] at h1 ⊢; exact h1 σ F1 H1 Q r1 (c.on f1)
 | false => rw [if_neg Bool.false_ne_true] at h1 ⊢; exact (c.on f1).pl r1 .bl h1
theorem xK (h : EV B ta τ fun x τ1 => ∃ b, x = .fz (.bl b) /\ if b = true then Φ (.fz (.bl true)) τ1 else EV B tb τ1 Φ) : EV B (ym ta tb) τ Φ := fun σ F H Q r c => by
 refine h σ F H _ r fun v F1 H1 k τ1 f1 r1 ok1 _ ⟨b, e, h1⟩ => ?_
 subst e
 cases ok1
 refine ⟨b, rfl, ?_⟩
 cases b with
 | true => rw [if_pos rfl] at h1 ⊢; exact (c.on f1).pl r1 .bl h1
 | false => rw [if_neg Bool.false_ne_true] at h1 ⊢; exact h1 σ F1 H1 Q r1 (c.on f1)
theorem wy (h : EV B ta τ fun x τ1 => ∃ b, x = .fz (.bl b) /\ Φ (.fz (.bl (!b))) τ1) : EV B (sZ ta) τ Φ := fun σ F H Q r c => by
 refine h σ F H _ r fun v F1 H1 k τ1 f1 r1 ok1 _ ⟨b, e, h1⟩ => ?_
 subst e
 cases ok1
 exact ⟨b, rfl, (c.on f1).pl r1 .bl h1⟩
theorem Ae (h : TV B c τ fun k τ1 => if k = true then EV B ta τ1 Φ else EV B tb τ1 Φ) : EV B (At c ta tb) τ Φ := fun σ F H Q r k => by
 refine h σ F H _ r fun b F1 H1 τ1 f1 r1 h1 => ?_
 cases b with
 | true => rw [if_pos rfl] at h1 ⊢; exact h1 σ F1 H1 Q r1 (k.on f1)
 | false => rw [if_neg Bool.false_ne_true] at h1 ⊢; exact h1 σ F1 H1 Q r1 (k.on f1)
theorem rn {r r' : R2} (h : EV B ta τ fun x τ1 => ir x τ1 fun x τ1 => EV B tb τ1 fun y τ2 => ir y τ2 fun y τ2 => RO B r x y τ2 fun z τ3 => ∃ b, z = .fz (.bl b) /\ if b = true then EV B tc τ3 fun w τ4 => ir w τ4 fun w τ4 => RO B r' y w τ4 Φ else Φ (.fz (.bl false)) τ3) : EV B (oR r r' ta tb tc) τ Φ := fun σ F H Q rp c => by
 refine h σ F H _ rp fun v F1 H1 k τ1 f1 r1 ok1 n1 h1 => ?_
 obtain ⟨F2, k', f2, r2, ok2, h2, _⟩ := bB f1 r1 ok1 n1 h1
 refine h2 σ F2 H1 _ r2 fun w F3 H3 k3 τ3 f3 r3 ok3 n3 h3 => ?_
 obtain ⟨F4, k4, f4, r4, ok4, h4, _⟩ := bB f3 r3 ok3 n3 h3
 refine h4 σ F4 H3 v w _ r4 (ok2.same f4.f) ok4 fun u F5 H5 k5 τ5 f5 r5 ok5 n5 ⟨b, e, h5⟩ => ?_
 subst e
 cases ok5
 refine ⟨b, rfl, ?_⟩
 have f05 := f2.trans (f4.trans f5)
 cases b with
 | true =>
  rw [if_pos rfl] at h5 ⊢
  refine h5 σ F5 H5 _ r5 fun w6 F6 H6 k6 τ6 f6 r6 ok6 n6 h6 => ?_
  obtain ⟨F7, k7, f7, r7, ok7, h7, _⟩ := bB f6 r6 ok6 n6 h6
  exact h7 σ F7 H6 w w6 Q r7 ((ok4.same f5.f).same f7.f) ok7 (c.on (f05.trans f7))
 | false => rw [if_neg Bool.false_ne_true] at h5 ⊢; exact (c.on f05).pl r5 .bl h5
theorem xP {S : List Tr -> TSt -> Prop} (q : S [] τ) : qH B tNil τ S := fun σ F H Q r c => c [] F H [] τ Fr.refl r .nil q
theorem vP {S : List Tr -> TSt -> Prop} {ns : List Int} (q : S (ns.map Tr.int) τ) : qH B (wI ns) τ S := fun σ F H Q r c => c _ F H _ τ Fr.refl r (.ofInts ns) q
theorem vj {tr : TA} {S : List Tr -> TSt -> Prop} (h : EV B te τ fun x τ1 => oh x τ1 fun t τ2 => qH B tr τ2 fun ts τ3 => S (t :: ts) τ3) : qH B (br te tr) τ S := fun σ F H Q r c => by
 refine h σ F H _ r fun v F1 H1 k τ1 f1 r1 ok1 n1 h1 => ?_
 obtain ⟨F2, t, τ2, f2, r2, i2, h2, _⟩ := dw f1 r1 ok1 n1 h1
 exact h2 σ F2 H1 _ r2 fun vs F3 H3 ts τ3 f3 r3 l3 h3 => c _ F3 H3 _ τ3 (f2.trans f3) r3 (.cons (i2.same f3.f) l3) h3
theorem yn {tA : TA} (h : qH B tA τ fun ts τ1 => ts.length <= 1000 /\ Φ (.fz (.tup ts)) τ1) : EV B (qr tA) τ Φ := fun σ F H Q r c => by
 refine h σ F H _ r fun vs F1 H1 ts τ1 f1 r1 l1 ⟨hl, h1⟩ => ⟨by rw [l1.length]; exact Nat.le_trans hl (by decide), fun p hp => ?_⟩
 have u := r1.tup (vs := vs) hp
 exact c _ _ _ (.fz (.tup ts)) τ1 (f1.trans (Fr.up u)) (r1.go u) (Is.tup (aH.of ad) (l1.same u.f)) trivial h1
theorem ul {F H : Hp} {σ : St} {vs : List V} {ts : List Tr} {p : Addr} (r : Rp B F H σ τ) (l : IsL B.K F vs ts) (hp : H p = none) : kg B F (upd H p (.lst vs)) σ τ (.ref p) (.nw (.lst ts)) := by
 refine ⟨p, rfl, .lst ad l, r.inc.free hp, r.up.w p hp, fun i u h e => ?_⟩
 rcases h with h | h
 ·obtain ⟨l', e', g, _⟩ := r.ow i u h
  obtain ⟨o, ho, _⟩ := g.mb
  have := ag e' e
  cases this
  rw [hp] at ho; cases ho
 ·obtain ⟨l', e', g, _⟩ := r.vw i u h
  obtain ⟨o, ho, _⟩ := g.mb
  have := ag e' e
  cases this
  rw [hp] at ho; cases ho
theorem CT.nl {F H : Hp} {σ : St} {Q : VK} {vs : List V} {ts : List Tr} {p : Addr} (c : CT B σ τ F H Φ Q) (r : Rp B F H σ τ) (l : IsL B.K F vs ts) (hp : H p = none) (φ : Φ (.nw (.lst ts)) τ) : Q (.ref p) (upd H p (.lst vs)) :=
 c _ F _ (.nw (.lst ts)) τ (Fr.up (r.new hp)) (r.go (r.new hp)) (ul r l hp) (fun l e => by cases e; exact hp) φ
theorem CT.nt {F H : Hp} {σ : St} {Q : VK} {vs : List V} {ts : List Tr} {p : Addr} (c : CT B σ τ F H Φ Q) (r : Rp B F H σ τ) (l : IsL B.K F vs ts) (hp : H p = none) (φ : Φ (.fz (.tup ts)) τ) : Q (.ref p) (upd H p (.tup vs)) := by
 have u := r.tup (vs := vs) hp
 exact c _ _ _ (.fz (.tup ts)) τ (Fr.up u) (r.go u) (Is.tup (aH.of ad) (l.same u.f)) trivial φ
theorem xQ {tA : TA} (h : qH B tA τ fun ts τ1 => ts.length <= 1000 /\ Φ (.nw (.lst ts)) τ1) : EV B (rR tA) τ Φ := fun σ F H Q r c => by
 refine h σ F H _ r fun vs F1 H1 ts τ1 f1 r1 l1 ⟨hl, h1⟩ => ⟨by rw [l1.length]; exact Nat.le_trans hl (by decide), fun p hp => ?_⟩
 exact (c.on f1).nl r1 l1 hp h1
theorem wL {r : List V -> Hp -> VK -> Prop} (h : EV B te τ fun x τ1 => ir x τ1 fun x τ1 => RU B (fun v H Q => r [v] H Q) x τ1 Φ) : EV B (sy r (br te tNil)) τ Φ := fun σ F H Q rp c => by
 refine h σ F H _ rp fun v F1 H1 k τ1 f1 r1 ok1 n1 h1 => ?_
 obtain ⟨F2, k', f2, r2, ok2, h2, _⟩ := bB f1 r1 ok1 n1 h1
 exact h2 σ F2 H1 v Q r2 ok2 (c.on f2)
theorem yI {r : List V -> Hp -> VK -> Prop} (h : EV B ta τ fun x τ1 => ir x τ1 fun x τ1 => EV B tb τ1 fun y τ2 => ir y τ2 fun y τ2 => RO B (fun v w H Q => r [v, w] H Q) x y τ2 Φ) : EV B (sy r (br ta (br tb tNil))) τ Φ := fun σ F H Q rp c => by
 refine h σ F H _ rp fun v F1 H1 k τ1 f1 r1 ok1 n1 h1 => ?_
 obtain ⟨F2, k', f2, r2, ok2, h2, _⟩ := bB f1 r1 ok1 n1 h1
 refine h2 σ F2 H1 _ r2 fun w F3 H3 k3 τ3 f3 r3 ok3 n3 h3 => ?_
 obtain ⟨F4, k4, f4, r4, ok4, h4, _⟩ := bB f3 r3 ok3 n3 h3
 exact h4 σ F4 H3 v w Q r4 (ok2.same f4.f) ok4 (c.on (f2.trans f4))
def OV (B : Bk) (to : TO) (τ : TSt) (Φ : Option Int -> TSt -> Prop) : Prop := ∀ σ F H (Q : Option Int -> Hp -> Prop), Rp B F H σ τ -> (∀ b F' H' τ', Fr B σ τ F H τ' F' H' -> Rp B F' H' σ τ' -> Φ b τ' -> Q b H') -> to σ H Q
theorem Am {S : Option Int -> TSt -> Prop} (q : S none τ) : OV B tNoPart τ S := fun _ F H _ r c => c none F H τ Fr.refl r q
theorem ww {S : Option Int -> TSt -> Prop} (h : EV B te τ fun x τ1 => ∃ i, x = .fz (.int i) /\ S (some i) τ1) : OV B (pe te) τ S := fun σ F H Q r c => by
 refine h σ F H _ r fun v F1 H1 k τ1 f1 r1 ok1 _ ⟨b, e, h1⟩ => ?_
 subst e
 cases ok1
 exact ⟨b, rfl, c _ F1 H1 τ1 f1 r1 h1⟩
theorem vC {S : Int -> Prop} (q : S i) : ∃ b', Kd.fz (.int i) = .fz (.int b') /\ S b' := ⟨i, rfl, q⟩
def RSl (B : Bk) (r : V -> Option Int -> Option Int -> Hp -> VK -> Prop) (x : Kd) (lo hi : Option Int) (τ : TSt) (Φ : TK) : Prop := RU B (fun v H Q => r v lo hi H Q) x τ Φ
theorem Ai {r : V -> Option Int -> Option Int -> Hp -> VK -> Prop} {tl th : TO} (h : EV B te τ fun x τ1 => ir x τ1 fun x τ1 => OV B tl τ1 fun lo τ2 => OV B th τ2 fun hi τ3 => RSl B r x lo hi τ3 Φ) : EV B (zP r te tl th) τ Φ := fun σ F H Q rp c => by
 refine h σ F H _ rp fun v F1 H1 k τ1 f1 r1 ok1 n1 h1 => ?_
 obtain ⟨F2, k', f2, r2, ok2, h2, _⟩ := bB f1 r1 ok1 n1 h1
 refine h2 σ F2 H1 _ r2 fun lo F3 H3 τ3 f3 r3 h3 => ?_
 refine h3 σ F3 H3 _ r3 fun hi F4 H4 τ4 f4 r4 h4 => ?_
 exact h4 σ F4 H4 v Q r4 ((ok2.same f3.f).same f4.f) (c.on (f2.trans (f3.trans f4)))
def eE (xs : List Tr) (lo hi : Option Int) : List Tr := (xs.drop (HT.sIx xs.length 0 lo)).take (HT.sIx xs.length xs.length hi - HT.sIx xs.length 0 lo)
theorem ig {K : Fg} {F : Hp} {vs : List V} {ts : List Tr} {lo hi : Option Int} (h : IsL K F vs ts) : IsL K F (jd vs lo hi) (eE ts lo hi) := by
 unfold jd eE
 rw [h.length]
 exact (h.drop _).take _
theorem zk {K : Fg} {ts : List Tr} {lo hi : Option Int} (hK : K = B.K) (rk : Rk τ x (.lst ts)) (q : Φ (.nw (.lst (eE ts lo hi))) τ) : RSl B (xF K) x lo hi τ Φ := fun _ _ _ _ _ r a c => by
 subst hK
 obtain ⟨p, vs, rfl, s, l⟩ := rk.list r a
 exact ⟨p, vs, rfl, s, fun p' hp => c.nl r (ig l) hp q⟩
end
end L2
namespace L2
open PySem PySem.Spec PyProof.Rows
section
variable {B : Bk} {F H : Hp} {σ : St} {τ τ' : TSt}
theorem Rp.setO {i : Nat} {t t' : Tr} {l : Addr} {o' : HO} (r : Rp B F H σ τ) (h : bz τ i (.own t)) (e : cX σ i (.ref l)) (g : Ow B.K F (upd H l o') l t') : Rp B F (upd H l o') σ (τ.set i (.own t')) /\ Fr B σ τ F H (τ.set i (.own t')) F (upd H l o') := by
  obtain ⟨l', e', g0, n, n0⟩ := r.ow i t h
  cases ag e e'
  have keep : ∀ q, q ≠ l -> ∀ o, H q = some o -> (upd H l o') q = some o := fun q hq o z => by rw [ac hq]; exact z
  have kx : ∀ q φ, H q = some (.ext φ) -> (upd H l o') q = some (.ext φ) := fun q φ z => keep q (fun e => by
    obtain ⟨o, ho, mb⟩ := g0.mb
    rw [e, ho] at z; cases z; exact mb) _ z
  refine ⟨{
    wa := r.wa
    wf := r.wf
    wj := B.jl _ _ (fun q hw => by
      have : q ≠ l := fun e => r.wa q hw (by rw [e]; exact n0)
      rw [ac this]) kx r.wj
    wd := fun j z => by
      rcases aR z with ⟨_, z, _⟩ | ⟨_, z⟩
      · cases z
      · exact r.wd j z
    up := { f := r.up.f, h := fun q o nw z => by
              have : q ≠ l := fun e => by rw [e, n0] at z; cases z
              exact keep q this o (r.up.h q o nw z)
            w := fun q z => r.up.w q (dN z)
            x := r.up.x
            j := fun z => B.jl _ _ (fun q hw => by
              have : q ≠ l := fun e => r.wa q hw (by rw [e]; exact n0)
              rw [ac this]) kx r.wj
            i := fun q o z => by
              have : q ≠ l := fun e => by rw [e, n] at z; cases z
              exact keep q this o (r.up.i q o z)
            m := r.up.m }
    len := by rw [List.length_set]; exact r.len
    fz := fun j u z => by
      rcases aR z with ⟨_, z, _⟩ | ⟨_, z⟩
      · cases z
      · exact r.fz j u z
    ow := fun j u z => by
      rcases aR z with ⟨rfl, z, _⟩ | ⟨nj, z⟩
      · cases z; exact ⟨l, e, g, n, n0⟩
      · obtain ⟨l2, a, b, c⟩ := r.ow j u z
        have : l2 ≠ l := fun q => r.ap i j t u l h z (fun q => nj q.symm) e (by rw [<- q]; exact a)
        exact ⟨l2, a, b.to (aa.refl _) (keep l2 this), c⟩
    vw := fun j u z => by
      rcases aR z with ⟨_, z, _⟩ | ⟨nj, z⟩
      · cases z
      · obtain ⟨l2, a, b, c⟩ := r.vw j u z
        have : l2 ≠ l := fun q => r.av i j t u l h z e (by rw [<- q]; exact a)
        exact ⟨l2, a, b.to (aa.refl _) (keep l2 this), c⟩
    ap := fun a b u w l2 ha hb ne hi hj => by
      obtain ⟨u', ha'⟩ : ∃ u, bz τ a (.own u) := by
        rcases aR ha with ⟨rfl, _, _⟩ | ⟨_, z⟩
        · exact ⟨_, h⟩
        · exact ⟨_, z⟩
      obtain ⟨w', hb'⟩ : ∃ u, bz τ b (.own u) := by
        rcases aR hb with ⟨rfl, _, _⟩ | ⟨_, z⟩
        · exact ⟨_, h⟩
        · exact ⟨_, z⟩
      exact r.ap a b u' w' l2 ha' hb' ne hi hj
    av := fun a b u w l2 ha hb hi hj => by
      obtain ⟨u', ha'⟩ : ∃ u, bz τ a (.own u) := by
        rcases aR ha with ⟨rfl, _, _⟩ | ⟨_, z⟩
        · exact ⟨_, h⟩
        · exact ⟨_, z⟩
      rcases aR hb with ⟨_, z, _⟩ | ⟨_, z⟩
      · cases z
      · exact r.av a b u' w l2 ha' z hi hj }, ?_⟩
  refine ⟨aa.refl _, fun p o hp _ no => ?_, fun j u z => ?_, fun p hp => ?_⟩
  · have : p ≠ l := fun q => no i t h (by rw [q]; exact e)
    exact ⟨keep p this o hp, fun _ z => z⟩
  · rcases aR z with ⟨rfl, _, _⟩ | ⟨_, z⟩
    · exact ⟨_, h⟩
    · exact ⟨_, z⟩
  · by_cases q : p = l
    · rw [q, ad] at hp; cases hp
    · rw [ac q] at hp; exact hp
end
section
variable {B : Bk} {τ τ' τ2 : TSt} {Φ : TK} {te ta tb : TE} {i k : Nat} {t u : Tr} {x : Kd} {ts us : List Tr}
def tyT (T : String) : Tr -> Prop
 | .str _ => T = "str"
 | .lst _ => T = "list"
 | .dct _ => T = "dict"
 | _ => False
def wF (T : String) (x : Kd) (τ : TSt) : Prop := ∃ t, Rk τ x t /\ tyT T t
theorem wF.v {F H : Hp} {σ : St} {T : String} {v : V} (h : wF T x τ) (r : Rp B F H σ τ) (ok : cR B.K F σ v x) : wE B.K T v H := by
 obtain ⟨t, rk, ht⟩ := h
 cases t with
 | lst ts =>
  obtain ⟨p, vs, rfl, s, _⟩ := rk.list r ok
  exact .inl ⟨ht, vs, s⟩
 | dct ts =>
  obtain ⟨p, vs, rfl, s, _⟩ := rk.dict r ok
  exact .inr (.inr (.inl ⟨ht, .inl ⟨vs, s⟩⟩))
 | str z =>
  have : v = .str z := by
   cases rk with
   | fz => cases ok; rfl
   | own g => obtain ⟨l, e, hw, _⟩ := r.ow _ _ g.eq; cases hw
   | vw g => obtain ⟨l, e, hw, _⟩ := r.vw _ _ g.eq; cases hw
   | sfz g =>
    obtain ⟨w, e, hi⟩ := r.fz _ _ g.eq
    cases ag e ok
    cases hi; rfl
  subst this
  exact ht
 | _ => exact ht.elim
def RM (B : Bk) (rr : V -> List V -> Hp -> VK -> Prop) (x : Kd) (ts : List Tr) (τ : TSt) (Φ : TK) : Prop := ∀ σ F H v vs Q, Rp B F H σ τ -> cR B.K F σ v x -> IsL B.K F vs ts -> CT B σ τ F H Φ Q -> rr v vs H Q
theorem zy {K : Fg} (hK : K = B.K) {T : String} {rr : V -> List V -> Hp -> VK -> Prop} {tA : TA} (h : EV B te τ fun x τ1 => ir x τ1 fun x τ1 => wF T x τ1 /\ qH B tA τ1 fun ts τ2 => RM B rr x ts τ2 Φ) : EV B (Au K T rr te tA) τ Φ := fun σ F H Q rp c => by
 subst hK
 refine h σ F H _ rp fun v F1 H1 k τ1 f1 r1 ok1 n1 h1 => ?_
 obtain ⟨F2, k', f2, r2, ok2, ⟨ty, h2⟩, _⟩ := bB f1 r1 ok1 n1 h1
 refine ⟨ty.v r2 ok2, h2 σ F2 H1 _ r2 fun vs F3 H3 ts τ3 f3 r3 l3 h3 => ?_⟩
 exact h3 σ F3 H3 v vs Q r3 (ok2.same f3.f) l3 (c.on (f2.trans f3))
theorem yi {K : Fg} (hK : K = B.K) {T : String} {rr : V -> List V -> Hp -> VK -> Prop} (h : EV B te τ fun x τ1 => ir x τ1 fun x τ1 => wF T x τ1 /\ RM B rr x [] τ1 Φ) : EV B (zA K T rr te) τ Φ := fun σ F H Q rp c => by
 subst hK
 refine h σ F H _ rp fun v F1 H1 k τ1 f1 r1 ok1 n1 h1 => ?_
 obtain ⟨F2, k', f2, r2, ok2, ⟨ty, h2⟩, _⟩ := bB f1 r1 ok1 n1 h1
 exact ⟨ty.v r2 ok2, h2 σ F2 H1 v [] Q r2 ok2 .nil (c.on f2)⟩
theorem sj {S : Prop} (rk : Rk τ x (.lst ts)) (q : S) : wF "list" x τ /\ S := ⟨⟨_, rk, rfl⟩, q⟩
theorem wt {S : Prop} {z : Str} (q : S) : wF "str" (.fz (.str z)) τ /\ S := ⟨⟨_, .fz, rfl⟩, q⟩
theorem jB {rr : V -> List V -> Hp -> VK -> Prop} {ts us : List Tr} {as : List Tr} {res : Tr} (g : Gt τ k (.own (.lst ts))) (st : eJ τ k (.own (.lst us)) τ')
  (h : ∀ (K : Fg) (F H : Hp) (l : Addr) (vs ws : List V) (Q : VK), H l = some (.lst vs) -> IsL K F vs ts -> IsL K F ws as -> (∀ v vs', IsL K F vs' us -> Is K F v res -> Q v (upd H l (.lst vs'))) -> rr (.ref l) ws H Q) (q : Φ (.fz res) τ') : RM B rr (.sl k) as τ Φ := fun σ F H v ws Q r a l c => by
 obtain ⟨l0, e, hw, n, n0⟩ := r.ow _ _ g.eq
 cases ag e a
 cases hw with
 | lst h1 h2 =>
  refine h B.K F H l0 _ ws Q h1 h2 l fun v vs' l' hv => ?_
  obtain ⟨r2, f2⟩ := r.setO g.eq e (.lst ad l')
  rw [st.eq] at r2 f2
  exact c _ F _ (.fz res) τ' f2 r2 hv trivial q
theorem my (g : Gt τ k (.own (.lst ts))) (hl : ts.length <= 10000) (st : eJ τ k (.own (.lst (ts ++ [t]))) τ') (q : Φ (.fz .non) τ') : RM B rAppend (.sl k) [t] τ Φ :=
 jB g st (fun K F H l vs ws Q h1 h2 h3 c => by
  cases h3 with
  | cons a b =>
   cases b
   exact ⟨l, vs, _, rfl, rfl, h1, by rw [h2.length]; exact Nat.lt_of_le_of_lt hl (by decide), c _ _ (h2.snoc a) .non⟩) q
theorem oI (g : Gt τ k (.own (.lst ts))) (st : eJ τ k (.own (.lst [])) τ') (q : Φ (.fz .non) τ') : RM B uh (.sl k) [] τ Φ :=
 jB g st (fun K F H l vs ws Q h1 h2 h3 c => by
  cases h3
  exact ⟨l, vs, rfl, rfl, h1, c _ _ .nil .non⟩) q
theorem jM (g : Gt τ k (.own (.lst ts))) (st : eJ τ k (.own (.lst ts.reverse)) τ') (q : Φ (.fz .non) τ') : RM B pq (.sl k) [] τ Φ :=
 jB g st (fun K F H l vs ws Q h1 h2 h3 c => by
  cases h3
  exact ⟨l, vs, rfl, rfl, h1, c _ _ h2.rev .non⟩) q
inductive Ar where
 | fz (t : Tr) | wd
def jN (B : Bk) (F : Hp) (v : V) : Ar -> Prop
 | .fz t => Is B.K F v t
 | .wd => v = .ref B.rt
inductive dY (B : Bk) (F : Hp) : List V -> List Ar -> Prop
 | nil : dY B F [] []
 | cons {v : V} {a : Ar} {vs : List V} {as : List Ar} : jN B F v a -> dY B F vs as -> dY B F (v :: vs) (a :: as)
theorem dY.length {B : Bk} {F : Hp} : ∀ {vs : List V} {as : List Ar}, dY B F vs as -> vs.length = as.length
 | _, _, .nil => rfl
 | _, _, .cons _ g => congrArg (· + 1) (dY.length g)
theorem jN.same {B : Bk} {F F' : Hp} {v : V} {a : Ar} (s : aa F F') (h : jN B F v a) : jN B F' v a := by
 cases a with
 | fz t => exact Is.same s h
 | wd => exact h
theorem dY.get {B : Bk} {F : Hp} : ∀ {vs : List V} {as : List Ar} {i : Nat} {a : Ar}, dY B F vs as -> as[i]? = some a -> ∃ v, vs[i]? = some v /\ jN B F v a
 | _, _, _, _, .nil, e => by simp at e
 | _, _, 0, _, .cons h _, e => by simp at e; subst e; exact ⟨_, rfl, h⟩
 | _, _, i + 1, t, .cons _ g, e => by
  obtain ⟨u, h1, h2⟩ := dY.get (i := i) (a := t) g (by simpa using e)
  exact ⟨u, by simpa using h1, h2⟩
theorem dY.app {B : Bk} {F : Hp} : ∀ {vs ws : List V} {as bs : List Ar}, dY B F vs as -> dY B F ws bs -> dY B F (vs ++ ws) (as ++ bs)
 | _, _, _, _, .nil, s => s
 | _, _, _, _, .cons h g, s => .cons h (dY.app g s)
def wn (B : Bk) (ta : TA) (τ : TSt) (Φ : List Ar -> TSt -> Prop) : Prop := ∀ σ F H (Q : List V -> Hp -> Prop), Rp B F H σ τ -> (∀ vs F' H' as τ', Fr B σ τ F H τ' F' H' -> Rp B F' H' σ τ' -> dY B F' vs as -> Φ as τ' -> Q vs H') -> ta σ H Q
def wA (k : Kd) (τ : TSt) (S : Ar -> TSt -> Prop) : Prop := match k with
 | .wd => S .wd τ
 | .fz t => S (.fz t) τ
 | .nw t => S (.fz t) τ
 | .sl i => (∃ t, bz τ i (.own t) /\ S (.fz t) (τ.set i (.fz t))) ∨ ∃ t, bz τ i (.fz t) /\ S (.fz t) τ
theorem xn {S : Ar -> TSt -> Prop} (h : S .wd τ) : wA .wd τ S := h
theorem xH {S : Ar -> TSt -> Prop} (h : S (.fz t) τ) : wA (.fz t) τ S := h
theorem yk {S : Ar -> TSt -> Prop} (h : S (.fz t) τ) : wA (.nw t) τ S := h
theorem vY {S : Ar -> TSt -> Prop} (g : Gt τ k (.own t)) (s : eJ τ k (.fz t) τ') (h : S (.fz t) τ') : wA (.sl k) τ S := nK (S := fun t τ' => S (.fz t) τ') g s h
theorem tJ {S : Ar -> TSt -> Prop} (g : Gt τ k (.fz t)) (h : S (.fz t) τ) : wA (.sl k) τ S := nR (S := fun t τ' => S (.fz t) τ') g h
theorem yM {S : List Ar -> TSt -> Prop} (q : S [] τ) : wn B tNil τ S := fun σ F H Q r c => c [] F H [] τ Fr.refl r .nil q
theorem vV {tr : TA} {S : List Ar -> TSt -> Prop} (h : EV B te τ fun x τ1 => wA x τ1 fun a τ2 => wn B tr τ2 fun as τ3 => S (a :: as) τ3) : wn B (br te tr) τ S := fun σ F H Q r c => by
 refine h σ F H _ r fun v F1 H1 k τ1 f1 r1 ok1 n1 h1 => ?_
 have go : oh k τ1 (fun t τ2 => wn B tr τ2 fun as τ3 => S (.fz t :: as) τ3) -> tr σ H1 fun vs H2 => Q (v :: vs) H2 := fun h => by
  obtain ⟨F2, t, τ2, f2, r2, i2, h2, _⟩ := dw f1 r1 ok1 n1 h
  exact h2 σ F2 H1 _ r2 fun vs F3 H3 ts τ3 f3 r3 l3 h3 => c _ F3 H3 _ τ3 (f2.trans f3) r3 (.cons (jN.same (a := .fz t) f3.f i2) l3) h3
 cases k with
 | wd => exact h1 σ F1 H1 _ r1 fun vs F3 H3 ts τ3 f3 r3 l3 h3 => c _ F3 H3 _ τ3 (f1.trans f3) r3 (.cons (a := .wd) ok1 l3) h3
 | fz t => exact go h1
 | nw t => exact go h1
 | sl i => exact go h1
def lJ (B : Bk) (F H : Hp) (v : V) : Kd -> Prop
 | .fz t => Is B.K F v t
 | .nw t => ∃ l, v = .ref l /\ Ow B.K F H l t /\ F l = none /\ B.H0 l = none
 | .sl _ => False
 | .wd => False
abbrev SpT := Bk -> List Ar -> (Kd -> Prop) -> (Addr -> Prop) -> Prop
structure qP (B : Bk) : Prop where
 i : aa B.F0 B.H0
 wa : ∀ p, B.W p -> B.H0 p ≠ none
 wf : ∀ p, B.W p -> B.F0 p = none
 wj : B.J B.H0
def cZ (K : Fg) (S : SpT) : Sp := fun vs H Q E => ∃ B as Φ Ψ, B.K = K /\ B.H0 = H /\ qP B /\ dY B B.F0 vs as /\ S B as Φ Ψ /\ (∀ v F' H' k, Up B B.F0 H F' H' -> lJ B F' H' v k -> Φ k -> Q v H') /\ ∀ C F' H', Up B B.F0 H F' H' -> Ψ C -> E (.ref C) none H'
theorem cK {K : Fg} {S : SpT} {n : Nat} (hn : ∀ B as Φ Ψ, S B as Φ Ψ -> as.length = n) : ∀ vs H Q E, cZ K S vs H Q E -> vs.length = n := fun vs H Q E h => by
 obtain ⟨B, as, Φ, Ψ, _, _, _, l, s, _⟩ := h
 rw [l.length]; exact hn B as Φ Ψ s
theorem pT {F H F' H' : Hp} {σ : St} {v : V} {kd : Kd} {B' : Bk} (r : Rp B F H σ τ) (hK : B'.K = B.K) (hH : B'.H0 = H) (h : lJ B' F' H' v kd) : kg B F' H' σ τ v kd /\ qp H v kd := by
 cases kd with
 | fz t => exact ⟨by
   have h2 : Is B'.K F' v t := h
   rw [hK] at h2; exact h2, trivial⟩
 | sl i => exact h.elim
 | wd => exact h.elim
 | nw t =>
  obtain ⟨l, rfl, g, n, n0⟩ := h
  rw [hH] at n0
  rw [hK] at g
  refine ⟨⟨l, rfl, g, n, r.up.w l n0, fun i w h e => ?_⟩, fun l' e => by cases e; exact n0⟩
  rcases h with h | h
  ·obtain ⟨l', e', g, _⟩ := r.ow i w h
   obtain ⟨o, ho, _⟩ := g.mb
   cases ag e' e
   rw [n0] at ho; cases ho
  ·obtain ⟨l', e', g, _⟩ := r.vw i w h
   obtain ⟨o, ho, _⟩ := g.mb
   cases ag e' e
   rw [n0] at ho; cases ho
abbrev Bk.now (B : Bk) (F H : Hp) : Bk := { B with F0 := F, H0 := H }
theorem Up.of_now {F H F1 H1 F' H' : Hp} (u : Up (B.now F1 H1) F H F' H') : Up B F H F' H' := ⟨u.f, u.h, u.i, u.m, u.w, u.x, u.j⟩
theorem Rp.bkok {F H : Hp} {σ : St} (r : Rp B F H σ τ) : qP (B.now F H) := ⟨r.inc, fun p hw z => r.wa p hw (r.up.w p z), r.wf, r.wj⟩
theorem dY.now {F F1 H1 : Hp} : ∀ {vs : List V} {as : List Ar}, dY B F vs as -> dY (B.now F1 H1) F vs as
 | _, _, .nil => .nil
 | _, _, .cons (a := .fz _) h g => .cons (a := .fz _) h (dY.now g)
 | _, _, .cons (a := .wd) h g => .cons (a := .wd) h (dY.now g)
theorem qM {K : Fg} (hK : K = B.K) {S : SpT} {E : XK} {tA : TA} {Ψ : Addr -> Prop} (hE : ∀ C F H, Up B B.F0 B.H0 F H -> Ψ C -> E (.ref C) none H) (h : wn B tA τ fun as τ1 => ∀ F H, S (B.now F H) as (fun k => Φ k τ1) Ψ) : EV B (dO (cZ K S) [] E tA) τ Φ := fun σ F H Q rp c => by
 subst hK
 unfold dO
 simp only [List.append_nil]
 refine h σ F H _ rp fun vs F1 H1 as τ1 f1 r1 l1 h1 => ?_
 refine ⟨B.now F1 H1, as, _, _, rfl, rfl, r1.bkok, ?_, h1 F1 H1, fun v F2 H2 kd u ok φ => ?_, fun C F2 H2 u ψ => hE C F2 H2 (r1.up.trans u.of_now) ψ⟩
 ·exact l1.now
 obtain ⟨a, b⟩ := pT r1 (B' := B.now F1 H1) rfl rfl ok
 exact c.on f1 v F2 H2 kd τ1 (Fr.up u.of_now) (r1.go u.of_now) (by
  cases kd with
  | nw t => exact ⟨a.choose, a.choose_spec.1, a.choose_spec.2.1, a.choose_spec.2.2⟩
  | _ => exact a) b φ
theorem ve {K : Fg} (hK : K = B.K) {S : SpT} {E : XK} {tA : TA} (h : wn B tA τ fun as τ1 => ∀ F H, S (B.now F H) as (fun k => Φ k τ1) fun _ => False) : EV B (dO (cZ K S) [] E tA) τ Φ := qM hK (fun _ _ _ _ z => z.elim) h
end
structure ET where
 nx : TSt -> Prop
 rt : Kd -> Prop
 bk : TSt -> Prop
 ct : TSt -> Prop
structure EO (B : Bk) (F : Hp) (D : cP) (D' : ET) : Prop where
 nx : ∀ σ F' H τ, aa F F' -> Rp B F' H σ τ -> D'.nx τ -> D.nx σ H
 rt : ∀ v F' H k, Up B B.F0 B.H0 F' H -> lJ B F' H v k -> D'.rt k -> D.rt v H
 bk : ∀ σ F' H τ, aa F F' -> Rp B F' H σ τ -> D'.bk τ -> D.bk σ H
 ct : ∀ σ F' H τ, aa F F' -> Rp B F' H σ τ -> D'.ct τ -> D.ct σ H
def SV (B : Bk) (t : TS) (τ : TSt) (D' : ET) : Prop := ∀ σ F H D, Rp B F H σ τ -> EO B F D D' -> t D σ H
section
variable {B : Bk} {τ τ' τ2 : TSt} {te ta tb : TE} {i k : Nat} {t u : Tr} {x : Kd} {ts us : List Tr} {s1 s2 : TS} {nx bk ct : TSt -> Prop} {rt : Kd -> Prop} {c : TT}
theorem EO.on {F F1 : Hp} {D : cP} {D' : ET} (e : EO B F D D') (s : aa F F1) : EO B F1 D D' := ⟨fun σ F' H τ z => e.nx σ F' H τ (s.trans z), e.rt, fun σ F' H τ z => e.bk σ F' H τ (s.trans z), fun σ F' H τ z => e.ct σ F' H τ (s.trans z)⟩
theorem yr (h : SV B s1 τ ⟨fun τ1 => SV B s2 τ1 ⟨nx, rt, bk, ct⟩, rt, bk, ct⟩) : SV B (qt s1 s2) τ ⟨nx, rt, bk, ct⟩ := fun σ F H D r e => h σ F H _ r ⟨fun σ' F' H' τ' s r' h' => h' σ' F' H' D r' (e.on s), e.rt, e.bk, e.ct⟩
theorem vm (h : nx τ) : SV B tNext τ ⟨nx, rt, bk, ct⟩ := fun σ F H D r e => e.nx σ F H τ (aa.refl _) r h
theorem um (h : EV B te τ fun _ τ1 => nx τ1) : SV B (oX te) τ ⟨nx, rt, bk, ct⟩ := fun σ F H D r e => h σ F H _ r fun v F1 H1 k τ1 f r1 _ _ h1 => e.nx σ F1 H1 τ1 f.f r1 h1
def zC (k : Kd) (τ : TSt) (R : Kd -> Prop) : Prop := match k with
 | .fz t => R (.fz t)
 | .nw t => R (.nw t) ∨ R (.fz t)
 | .sl i => (∃ t, bz τ i (.own t) /\ (R (.nw t) ∨ R (.fz t))) ∨ ∃ t, bz τ i (.fz t) /\ R (.fz t)
 | .wd => False
theorem xB (h : EV B te τ fun k τ1 => zC k τ1 rt) : SV B (uT te) τ ⟨nx, rt, bk, ct⟩ := fun σ F H D r e => h σ F H _ r fun v F1 H1 k τ1 f r1 ok n h1 => by
 have fixed : ∀ l t, v = .ref l -> Ow B.K F1 H1 l t -> F1 l = none -> B.H0 l = none -> rt (.fz t) -> D.rt v H1 := fun l t ev g nn n0 h => by
  subst ev
  obtain ⟨o, ho, mb⟩ := g.mb
  refine e.rt _ (upd F1 l o) H1 (.fz t) ⟨r1.up.f.trans (aa.new nn o), r1.up.h, fun q z hz => ?_, fun q z hz mz nz => ?_, r1.up.w, fun q hw nz => ?_, r1.up.j⟩ (g.is (aa.new nn o) (by rw [ad, ho])) h
  ·by_cases hq : q = l
   ·rw [hq, ad] at hz; cases hz; rw [hq]; exact ho
   ·rw [ac hq] at hz; exact r1.up.i q z hz
  ·have : q ≠ l := fun e' => by rw [e', n0] at hz; cases hz
   rw [ac this]; exact r1.up.m q z hz mz nz
  ·have : q ≠ l := fun e' => r1.wa q hw (by rw [e']; exact n0)
   rw [ac this]; exact r1.up.x q hw nz
 cases k with
 | fz t => exact e.rt v F1 H1 (.fz t) r1.up ok h1
 | nw t =>
  obtain ⟨l, ev, g, nn, n0, _⟩ := ok
  rcases h1 with h1 | h1
  ·exact e.rt v F1 H1 (.nw t) r1.up ⟨l, ev, g, nn, n0⟩ h1
  ·exact fixed l t ev g nn n0 h1
 | sl i =>
  rcases h1 with ⟨t, ht, h1⟩ | ⟨t, ht, h1⟩
  ·obtain ⟨l, es, g, nn, n0⟩ := r1.ow i t ht
   have ev : v = .ref l := ag ok es
   rcases h1 with h1 | h1
   ·exact e.rt v F1 H1 (.nw t) r1.up ⟨l, ev, g, nn, n0⟩ h1
   ·exact fixed l t ev g nn n0 h1
  ·obtain ⟨w, es, g⟩ := r1.fz i t ht
   cases ag es ok
   exact e.rt v F1 H1 (.fz t) r1.up g h1
 | wd => exact h1.elim
theorem yO {R : Kd -> Prop} (h : R (.fz t)) : zC (.fz t) τ R := h
theorem nF {R : Kd -> Prop} (g : Gt τ k (.own t)) (h : R (.nw t)) : zC (.sl k) τ R := .inl ⟨t, g.eq, .inl h⟩
theorem yQ (h : TV B c τ fun b τ1 => if b = true then SV B s1 τ1 ⟨nx, rt, bk, ct⟩ else SV B s2 τ1 ⟨nx, rt, bk, ct⟩) : SV B (rc c s1 s2) τ ⟨nx, rt, bk, ct⟩ := fun σ F H D r e => h σ F H _ r fun b F1 H1 τ1 f r1 h1 => by
 cases b with
 | true => rw [if_pos rfl] at h1 ⊢; exact h1 σ F1 H1 D r1 (e.on f.f)
 | false => rw [if_neg Bool.false_ne_true] at h1 ⊢; exact h1 σ F1 H1 D r1 (e.on f.f)
theorem sN (J : TSt -> Prop) (h : SV B s1 τ ⟨J, rt, bk, ct⟩) (q : ∀ τ', J τ' -> nx τ') : SV B s1 τ ⟨nx, rt, bk, ct⟩ := fun σ F H D r e => h σ F H D r ⟨fun σ F' H τ s r h => e.nx σ F' H τ s r (q τ h), e.rt, e.bk, e.ct⟩
def GA (B : Bk) (g : TG) (k : Kd) (τ : TSt) (N : TSt -> Prop) : Prop := ∀ σ F H v (S : St -> Hp -> Prop), Rp B F H σ τ -> kg B F H σ τ v k -> (∀ σ' F' H' τ', aa F F' -> Rp B F' H' σ' τ' -> N τ' -> S σ' H') -> g v σ H S
theorem xo {g : TG} (h : EV B te τ fun k τ1 => GA B g k τ1 nx) : SV B (ou te g) τ ⟨nx, rt, bk, ct⟩ := fun σ F H D r e => h σ F H _ r fun v F1 H1 k τ1 f r1 ok _ h1 => h1 σ F1 H1 v _ r1 ok fun σ' F' H' τ' s r' n => e.nx σ' F' H' τ' (f.f.trans s) r' n
theorem Ab {N : TSt -> Prop} (s : eJ τ k (.fz t) τ') (h : N τ') : GA B (dm k) (.fz t) τ N := fun σ F H v S r ok q => q _ F H τ' (aa.refl _) (by have := r.setF (i := k) ok; rw [s.eq] at this; exact this) h
theorem zx {N : TSt -> Prop} (s : eJ τ k (.own t) τ') (h : N τ') : GA B (dm k) (.nw t) τ N := fun σ F H v S r ok q => q _ F H τ' (aa.refl _) (by have := r.setN (i := k) ok; rw [s.eq] at this; exact this) h
theorem zK {N : TSt -> Prop} (g : Gt τ i (.own t)) (s : eJ τ i (.fz t) τ') (s2 : eJ τ' k (.fz t) τ2) (h : N τ2) : GA B (dm k) (.sl i) τ N := fun σ F H v S r ok q => by
 obtain ⟨F2, l, e, sF, r2, hi, _⟩ := r.fixS g.eq
 cases ag e ok
 rw [s.eq] at r2
 have r3 := r2.setF (i := k) hi
 rw [s2.eq] at r3
 exact q _ F2 H τ2 sF r3 h
def za (B : Bk) (g : TGs) (ts : List Tr) (τ : TSt) (N : TSt -> Prop) : Prop := ∀ σ F H vs (S : St -> Hp -> Prop), Rp B F H σ τ -> IsL B.K F vs ts -> (∀ σ' F' H' τ', aa F F' -> Rp B F' H' σ' τ' -> N τ' -> S σ' H') -> g vs σ H S
theorem xi {K : Fg} (hK : K = B.K) {N : TSt -> Prop} {n : Nat} {g : TGs} (hl : ts.length = n) (h : za B g ts τ N) : GA B (vL K n g) (.fz (.tup ts)) τ N := fun σ F H v S r ok q => by
 subst hK
 cases (show Is B.K F v (.tup ts) from ok) with
 | tup a b => exact ⟨_, _, rfl, r.inc.tup a, by rw [b.length]; exact hl, h σ F H _ S r b q⟩
theorem uJ {N : TSt -> Prop} (h : N τ) : za B gNil [] τ N := fun σ F H vs S r l q => by
 cases l
 exact ⟨rfl, q σ F H τ (aa.refl _) r h⟩
theorem qX {N : TSt -> Prop} {g : TG} {gr : TGs} (h : GA B g (.fz t) τ fun τ1 => za B gr ts τ1 N) : za B (pF g gr) (t :: ts) τ N := fun σ F H vs S r l q => by
 cases l with
 | cons a b => exact ⟨_, _, rfl, h σ F H _ _ r a fun σ1 F1 H1 τ1 s1 r1 h1 => h1 σ1 F1 H1 _ S r1 (b.same s1) fun σ' F' H' τ' s' r' n => q σ' F' H' τ' (s1.trans s') r' n⟩
theorem yp {i j : Nat} {tA : TA} (h : qH B tA τ fun ts τ1 => ∃ t u τ2 τ3, ts = [t, u] /\ eJ τ1 i (.fz t) τ2 /\ eJ τ2 j (.fz u) τ3 /\ nx τ3) : SV B (xO i j tA) τ ⟨nx, rt, bk, ct⟩ := fun σ F H D r e => h σ F H _ r fun vs F1 H1 ts τ1 f r1 l ⟨t, u, τ2, τ3, e1, s1, s2, hn⟩ => by
 subst e1
 cases l with
 | cons a b =>
  cases b with
  | cons b z =>
   cases z
   have r2 := r1.setF (i := i) a
   rw [s1.eq] at r2
   have r3 := r2.setF (i := j) b
   rw [s2.eq] at r3
   exact ⟨_, _, rfl, e.nx _ F1 H1 τ3 f.f r3 hn⟩
theorem zO {i j : Nat} {t u : Tr} {N : TSt -> Prop} (s1 : eJ τ i (.fz t) τ') (s2 : eJ τ' j (.fz u) τ2) (h : N τ2) : ∃ t' u' τa τb, [t, u] = [t', u'] /\ eJ τ i (.fz t') τa /\ eJ τa j (.fz u') τb /\ N τb := ⟨t, u, τ', τ2, rfl, s1, s2, h⟩
theorem xU {ff : Int -> Int -> Int} {a : Int} (g : Gt τ k (.fz (.int a))) (h : EV B te τ fun x τ1 => ∃ b, x = .fz (.int b) /\ ∃ τ2, eJ τ1 k (.fz (.int (ff a b))) τ2 /\ nx τ2) : SV B (yK k te (ipI ff)) τ ⟨nx, rt, bk, ct⟩ := fun σ F H D r e => by
 obtain ⟨v, ev, hv⟩ := r.fz _ _ g.eq
 cases hv
 refine ⟨_, ev, h σ F H _ r fun w F1 H1 kd τ1 f r1 ok _ ⟨b, e1, τ2, s, hn⟩ => ?_⟩
 subst e1
 cases ok
 refine ⟨a, b, rfl, rfl, ?_⟩
 have r2 := r1.setF (i := k) (v := .int (ff a b)) (t := .int (ff a b)) .int
 rw [s.eq] at r2
 exact e.nx _ F1 H1 τ2 f.f r2 hn
theorem zp {s : Sl} {N : TSt -> Prop} (g : eJ τ k s τ') (h : N τ') : ∃ τ2, eJ τ k s τ2 /\ N τ2 := ⟨τ', g, h⟩
def yP (B : Bk) (F : Hp) (J : It) (ts : List Tr) : Prop := ∀ σ τ F' H', aa F F' -> Rp B F' H' σ τ -> (∀ i t, ts[i]? = some t -> J.go i H' /\ ∀ x H2, J.yld i H' x H2 -> ∃ F2, Up B F' H' F2 H2 /\ Is B.K F2 x t) /\ J.stop ts.length H'
def IV (B : Bk) (wi : TI) (τ : TSt) (Φ : List Tr -> TSt -> Prop) : Prop := ∀ σ F H (R : It -> Hp -> Prop), Rp B F H σ τ -> (∀ J F' H' ts τ', Fr B σ τ F H τ' F' H' -> Rp B F' H' σ τ' -> yP B F' J ts -> Φ ts τ' -> R J H') -> wi σ H R
theorem vT {K : Fg} (hK : K = B.K) {Φ : List Tr -> TSt -> Prop} (h : EV B te τ fun x τ1 => oh x τ1 fun t τ2 => ∃ ts, t = .lst ts /\ Φ ts τ2) : IV B (nU K te) τ Φ := fun σ F H R r c => by
 subst hK
 refine h σ F H _ r fun v F1 H1 k τ1 f1 r1 ok1 n1 h1 => ?_
 obtain ⟨F2, t, τ2, f2, r2, i2, ⟨ts, e, h2⟩, _⟩ := dw f1 r1 ok1 n1 h1
 subst e
 cases i2 with
 | lst a b =>
  refine ⟨_, rfl, ⟨_, r2.inc.seq a⟩, c _ F2 H1 ts τ2 f2 r2 (fun σ' τ' F' H' sF rH => ⟨fun i t e => ?_, ⟨_, rH.inc.seq (sF.seq a), by rw [b.length]; exact Nat.le_refl _⟩⟩) h2⟩
  obtain ⟨w, ew, hw⟩ := b.get e
  refine ⟨⟨_, w, rH.inc.seq (sF.seq a), ew⟩, fun x H2 y => ?_⟩
  obtain ⟨rfl, y2⟩ := y
  have := y2 _ (rH.inc.seq (sF.seq a))
  rw [ew] at this
  cases this
  exact ⟨F', Up.refl rH.inc, hw.same sF⟩
theorem sO {K : Fg} (hK : K = B.K) {Φ : List Tr -> TSt -> Prop} (h : EV B te τ fun x τ1 => oh x τ1 fun t τ2 => ∃ ts, t = .tup ts /\ Φ ts τ2) : IV B (uI K te) τ Φ := fun σ F H R r c => by
 subst hK
 refine h σ F H _ r fun v F1 H1 k τ1 f1 r1 ok1 n1 h1 => ?_
 obtain ⟨F2, t, τ2, f2, r2, i2, ⟨ts, e, h2⟩, _⟩ := dw f1 r1 ok1 n1 h1
 subst e
 cases i2 with
 | tup a b =>
  refine ⟨_, rfl, ⟨_, r2.inc.tup a⟩, c _ F2 H1 ts τ2 f2 r2 (fun σ' τ' F' H' sF rH => ⟨fun i t e => ?_, ⟨_, rH.inc.tup (sF.tup a), by rw [b.length]; exact Nat.le_refl _⟩⟩) h2⟩
  obtain ⟨w, ew, hw⟩ := b.get e
  refine ⟨⟨_, w, rH.inc.tup (sF.tup a), ew⟩, fun x H2 y => ?_⟩
  obtain ⟨rfl, y2⟩ := y
  have := y2 _ (rH.inc.tup (sF.tup a))
  rw [ew] at this
  cases this
  exact ⟨F', Up.refl rH.inc, hw.same sF⟩
theorem wV {S : List Tr -> Prop} (q : S ts) : ∃ ts', Tr.lst ts = .lst ts' /\ S ts' := ⟨ts, rfl, q⟩
theorem wW {S : List Tr -> Prop} (q : S ts) : ∃ ts', Tr.tup ts = .tup ts' /\ S ts' := ⟨ts, rfl, q⟩
def dB (lo : Int) (n : Nat) : List Tr := (List.range n).map fun i => .int (lo + (i : Nat))
theorem eH {lo : Int} {n i : Nat} {t : Tr} (h : (dB lo n)[i]? = some t) : i < n /\ t = .int (lo + (i : Nat)) := by
 unfold dB at h
 rw [List.getElem?_map] at h
 by_cases hi : i < n
 ·rw [List.getElem?_range hi] at h; cases h; exact ⟨hi, rfl⟩
 ·rw [List.getElem?_eq_none (by rw [List.length_range]; omega)] at h; cases h
theorem du {lo : Int} {n : Nat} : (dB lo n).length = n := by unfold dB; rw [List.length_map, List.length_range]
theorem pA {F : Hp} {lo : Int} {n : Nat} : yP B F (ni lo n) (dB lo n) := fun σ' τ' F' H' sF rH => ⟨fun i t e => by
  obtain ⟨hi, rfl⟩ := eH e
  exact ⟨hi, fun x H2 y => by obtain ⟨rfl, rfl⟩ := y; exact ⟨F', Up.refl rH.inc, .int⟩⟩, by rw [du]; exact Nat.le_refl _⟩
theorem vS {Φ : List Tr -> TSt -> Prop} (h : EV B te τ fun x τ1 => ∃ j, x = .fz (.int j) /\ (-(2 ^ 62) <= j /\ j < 2 ^ 62) /\ Φ (dB 0 j.toNat) τ1) : IV B (oa (br te tNil)) τ Φ := fun σ F H R r c => by
 refine h σ F H _ r fun v F1 H1 k τ1 f1 r1 ok1 n1 ⟨j, e, hb, h1⟩ => ?_
 subst e
 cases ok1
 exact ⟨j, rfl, hb.1, hb.2, c _ F1 H1 _ τ1 f1 r1 pA h1⟩
theorem vO {Φ : List Tr -> TSt -> Prop} (h : EV B ta τ fun x τ1 => ∃ i, x = .fz (.int i) /\ EV B tb τ1 fun y τ2 => ∃ j, y = .fz (.int j) /\ (-(2 ^ 62) <= i /\ i < 2 ^ 62 /\ -(2 ^ 62) <= j /\ j < 2 ^ 62) /\ Φ (dB i (j - i).toNat) τ2) : IV B (pK (br ta (br tb tNil))) τ Φ := fun σ F H R r c => by
 refine h σ F H _ r fun v F1 H1 k τ1 f1 r1 ok1 n1 ⟨i, e, h1⟩ => ?_
 subst e
 cases ok1
 refine h1 σ F1 H1 _ r1 fun w F2 H2 k2 τ2 f2 r2 ok2 n2 ⟨j, e, hb, h2⟩ => ?_
 subst e
 cases ok2
 exact ⟨i, j, rfl, hb, c _ F2 H2 _ τ2 (f1.trans f2) r2 pA h2⟩
def pQ (n : Nat) (ts : List Tr) : List Tr := (List.range ts.length).map fun i => .tup [.int ((n + i : Nat) : Int), ts.getD i .non]
theorem rW {ts : List Tr} {i : Nat} {t : Tr} (h : (pQ 0 ts)[i]? = some t) : ∃ x, ts[i]? = some x /\ t = .tup [.int (i : Nat), x] := by
 unfold pQ at h
 rw [List.getElem?_map] at h
 by_cases hi : i < ts.length
 ·rw [List.getElem?_range hi] at h
  cases h
  refine ⟨ts[i], List.getElem?_eq_getElem hi, ?_⟩
  show Tr.tup [.int ((0 + i : Nat) : Int), ts.getD i .non] = _
  rw [List.getD_eq_getElem?_getD, List.getElem?_eq_getElem hi, Nat.zero_add]
  rfl
 ·rw [List.getElem?_eq_none (by rw [List.length_range]; omega)] at h; cases h
theorem py {n : Nat} {ts : List Tr} : (pQ n ts).length = ts.length := by unfold pQ; rw [List.length_map, List.length_range]
theorem wm {K : Fg} (hK : K = B.K) {Φ : List Tr -> TSt -> Prop} (h : EV B te τ fun x τ1 => oh x τ1 fun t τ2 => ∃ ts, t = .lst ts /\ Φ (pQ 0 ts) τ2) : IV B (oQ K (br te tNil)) τ Φ := fun σ F H R r c => by
 subst hK
 refine h σ F H _ r fun v F1 H1 k τ1 f1 r1 ok1 n1 h1 => ?_
 obtain ⟨F2, t, τ2, f2, r2, i2, ⟨ts, e, h2⟩, _⟩ := dw f1 r1 ok1 n1 h1
 subst e
 cases i2 with
 | lst a b =>
  refine ⟨_, rfl, ⟨_, r2.inc.seq a⟩, c _ F2 H1 _ τ2 f2 r2 (fun σ' τ' F' H' sF rH => ⟨fun i t e => ?_, ⟨_, rH.inc.seq (sF.seq a), by rw [b.length, py]; exact Nat.le_refl _⟩⟩) h2⟩
  obtain ⟨x0, ex, rfl⟩ := rW e
  obtain ⟨w, ew, hw⟩ := b.get ex
  refine ⟨⟨_, w, rH.inc.seq (sF.seq a), ew⟩, ?_⟩
  rintro x H2 ⟨p, y, rfl, hn, hy, rfl⟩
  have := hy _ (rH.inc.seq (sF.seq a))
  rw [ew] at this
  cases this
  have u := rH.tup (vs := [.int (i : Nat), w]) hn
  exact ⟨_, u, .tup (aH.of ad) (.cons .int (.cons ((hw.same sF).same u.f) .nil))⟩
theorem yw {wi : TI} {g : TG} {tbd : TS} (h : IV B wi τ fun ts τ1 => ∃ I : Nat -> TSt -> Prop, I 0 τ1 /\ (∀ i t τ2, ts[i]? = some t -> I i τ2 -> GA B g (.fz t) τ2 fun τ3 => SV B tbd τ3 ⟨I (i + 1), rt, nx, I (i + 1)⟩) /\ ∀ τ2, I ts.length τ2 -> nx τ2) : SV B (tz wi g tbd) τ ⟨nx, rt, bk, ct⟩ := fun σ F H D r e => by
 refine h σ F H _ r fun J F1 H1 ts τ1 f1 r1 itk ⟨I, i0, step, fin⟩ => ?_
 refine ⟨fun i m σ H => ∃ F2 τ2, aa F1 F2 /\ Rp B F2 H σ τ2 /\ I i τ2 /\ i <= ts.length /\ m = ts.length - i, ⟨_, F1, τ1, aa.refl _, r1, i0, Nat.zero_le _, rfl⟩, ?_⟩
 rintro i m σ H ⟨F2, τ2, s2, r2, i2, hi, rfl⟩
 obtain ⟨itg, its⟩ := itk σ τ2 F2 H s2 r2
 by_cases hlt : i < ts.length
 ·obtain ⟨g1, g2⟩ := itg i ts[i] (List.getElem?_eq_getElem hlt)
  refine .inr ⟨g1, fun σ' H' => ∃ F2 τ2, aa F1 F2 /\ Rp B F2 H' σ' τ2 /\ I (i + 1) τ2, fun σ' H' ⟨F2, τ2, a, b, c⟩ => ⟨_, by omega, F2, τ2, a, b, c, hlt, rfl⟩, fun x H3 y => ?_⟩
  obtain ⟨F3, u3, hx⟩ := g2 x H3 y
  refine step i ts[i] τ2 (List.getElem?_eq_getElem hlt) i2 σ F3 H3 x _ (r2.go u3) hx fun σ4 F4 H4 τ4 s4 r4 h4 => ?_
  have s14 := s2.trans (u3.f.trans s4)
  exact h4 σ4 F4 H4 _ r4 ⟨fun σ5 F5 H5 τ5 s5 r5 h5 => ⟨F5, τ5, s14.trans s5, r5, h5⟩, e.rt, fun σ5 F5 H5 τ5 s5 r5 h5 => e.nx σ5 F5 H5 τ5 (f1.f.trans (s14.trans s5)) r5 h5, fun σ5 F5 H5 τ5 s5 r5 h5 => ⟨F5, τ5, s14.trans s5, r5, h5⟩⟩
 ·have ei : i = ts.length := by omega
  subst ei
  exact .inl ⟨its, e.nx σ F2 H τ2 (f1.f.trans s2) r2 (fin τ2 i2)⟩
end
end L2
namespace L2
open PySem PySem.Spec PyProof.Rows
def xD : Ar -> Sl
 | .fz t => .fz t
 | .wd => .wd
def dA (n : Nat) (as : List Ar) : TSt := as.map xD ++ List.replicate (n - as.length) Sl.no
theorem bN {n : Nat} {as : List Ar} {i : Nat} {s : Sl} (h : bz (dA n as) i s) : (∃ a, s = xD a /\ as[i]? = some a) ∨ s = .no := by
 unfold bz dA at h
 by_cases hi : i < as.length
 ·rw [List.getElem?_append_left (by rw [List.length_map]; exact hi), List.getElem?_map, List.getElem?_eq_getElem hi] at h
  cases h
  exact .inl ⟨_, rfl, List.getElem?_eq_getElem hi⟩
 ·rw [List.getElem?_append_right (by rw [List.length_map]; omega), List.getElem?_replicate] at h
  split at h
  ·cases h; exact .inr rfl
  ·cases h
theorem oW {B : Bk} {N : List Str} {vs : List V} {as : List Ar} (k : qP B) (l : dY B B.F0 vs as) : Rp B B.F0 B.H0 (bS N vs) (dA N.length as) := by
 have got : ∀ i a, as[i]? = some a -> ∃ v, cX (bS N vs) i v /\ jN B B.F0 v a := fun i a h => by
  obtain ⟨v, hv, hi⟩ := l.get h
  refine ⟨v, ?_, hi⟩
  have hj := (List.getElem?_eq_some_iff.mp hv).1
  unfold cX bS
  rw [List.getElem?_append_left (by rw [List.length_map]; exact hj), List.getElem?_map, hv]
  rfl
 exact {
 up := Up.refl k.i
 wa := k.wa
 wf := k.wf
 wj := k.wj
 wd := fun j h => by
  rcases bN h with ⟨a, e, hu⟩ | e
  ·cases a with
   | fz t => cases e
   | wd =>
    obtain ⟨v, e, hv⟩ := got j _ hu
    cases (show v = .ref B.rt from hv)
    exact e
  ·cases e
 len := by unfold bS dA; rw [List.length_append, List.length_append, List.length_map, List.length_map, List.length_replicate, List.length_replicate, l.length]
 fz := fun j t h => by
  rcases bN h with ⟨a, e, hu⟩ | e
  ·cases a with
   | wd => cases e
   | fz u =>
    cases e
    obtain ⟨v, e, hv⟩ := got j _ hu
    exact ⟨v, e, hv⟩
  ·cases e
 ow := fun j t h => by
  rcases bN h with ⟨a, e, hu⟩ | e
  ·cases a <;> cases e
  ·cases e
 vw := fun j t h => by
  rcases bN h with ⟨a, e, hu⟩ | e
  ·cases a <;> cases e
  ·cases e
 ap := fun _ b t u l h => by
  rcases bN h with ⟨a, e, hu⟩ | e
  ·cases a <;> cases e
  ·cases e
 av := fun _ b t u l h => by
  rcases bN h with ⟨a, e, hu⟩ | e
  ·cases a <;> cases e
  ·cases e }
theorem cm {K : Fg} {S : SpT} {vs : List V} {H : Hp} {Q : VK} {E : XK} (h : cZ K S vs H Q E) : ∃ B as Φ Ψ, B.K = K /\ S B as Φ Ψ /\ (∀ C F' H', Up B B.F0 B.H0 F' H' -> Ψ C -> E (.ref C) none H') /\ ∀ (N : List Str) (t : TS), SV B t (dA N.length as) ⟨fun _ => Φ (.fz .non), Φ, fun _ => False, fun _ => False⟩ -> t { nx := fun _ H' => Q .non H', rt := Q } (bS N vs) H := by
 obtain ⟨B, as, Φ, Ψ, hK, rfl, k, l, s, q, x⟩ := h
 refine ⟨B, as, Φ, Ψ, hK, s, x, fun N t sv => sv _ _ _ _ (oW k l) ⟨?_, ?_, ?_, ?_⟩⟩
 ·intro σ F' H' τ _ r h
  exact q .non F' H' (.fz .non) r.up .non h
 ·intro v F' H' k u ok h
  exact q v F' H' k u ok h
 ·exact fun _ _ _ _ _ _ z => z
 ·exact fun _ _ _ _ _ _ z => z
theorem oq {B : Bk} {t : TS} {τ : TSt} {n : Nat} {ts : List Ar} {D : ET} (h : dA n ts = τ) (q : SV B t τ D) : SV B t (dA n ts) D := by rw [h]; exact q
inductive ip (τ : TSt) : List (Str × Nat) -> TSt -> Prop
 | nil : ip τ [] []
 | fz {x : Str} {k : Nat} {t : Tr} {r : List (Str × Nat)} {r' : TSt} : Gt τ k (.fz t) -> ip τ r r' -> ip τ ((x, k) :: r) (.fz t :: r')
 | own {x : Str} {k : Nat} {t : Tr} {r : List (Str × Nat)} {r' : TSt} : Gt τ k (.own t) -> ip τ r r' -> ip τ ((x, k) :: r) (.vw t :: r')
 | vw {x : Str} {k : Nat} {t : Tr} {r : List (Str × Nat)} {r' : TSt} : Gt τ k (.vw t) -> ip τ r r' -> ip τ ((x, k) :: r) (.vw t :: r')
 | wd {x : Str} {k : Nat} {r : List (Str × Nat)} {r' : TSt} : Gt τ k .wd -> ip τ r r' -> ip τ ((x, k) :: r) (.wd :: r')
 | no {x : Str} {k : Nat} {r : List (Str × Nat)} {r' : TSt} : ip τ r r' -> ip τ ((x, k) :: r) (.no :: r')
theorem ip.at {τ : TSt} {fr : List (Str × Nat)} {τi : TSt} (h : ip τ fr τi) : τi.length = fr.length /\ ∀ i s, bz τi i s -> ∃ x k, fr[i]? = some (x, k) /\ ((s = .no ∨ (s = .wd /\ bz τ k .wd)) ∨ (∃ t, s = .fz t /\ bz τ k (.fz t)) ∨ ∃ t, s = .vw t /\ (bz τ k (.own t) ∨ bz τ k (.vw t))) := by
 induction h with
 | nil => exact ⟨rfl, fun i s h => by unfold bz at h; simp at h⟩
 | fz g _ ih =>
  refine ⟨by rw [List.length_cons, List.length_cons, ih.1], fun i s h => ?_⟩
  cases i with
  | zero => simp [bz] at h; subst h; exact ⟨_, _, rfl, .inr (.inl ⟨_, rfl, g.eq⟩)⟩
  | succ i => exact ih.2 i s (by simpa [bz] using h)
 | own g _ ih =>
  refine ⟨by rw [List.length_cons, List.length_cons, ih.1], fun i s h => ?_⟩
  cases i with
  | zero => simp [bz] at h; subst h; exact ⟨_, _, rfl, .inr (.inr ⟨_, rfl, .inl g.eq⟩)⟩
  | succ i => exact ih.2 i s (by simpa [bz] using h)
 | vw g _ ih =>
  refine ⟨by rw [List.length_cons, List.length_cons, ih.1], fun i s h => ?_⟩
  cases i with
  | zero => simp [bz] at h; subst h; exact ⟨_, _, rfl, .inr (.inr ⟨_, rfl, .inr g.eq⟩)⟩
  | succ i => exact ih.2 i s (by simpa [bz] using h)
 | no _ ih =>
  refine ⟨by rw [List.length_cons, List.length_cons, ih.1], fun i s h => ?_⟩
  cases i with
  | zero => simp [bz] at h; subst h; exact ⟨_, _, rfl, .inl (.inl rfl)⟩
  | succ i => exact ih.2 i s (by simpa [bz] using h)
 | wd g _ ih =>
  refine ⟨by rw [List.length_cons, List.length_cons, ih.1], fun i s h => ?_⟩
  cases i with
  | zero => simp [bz] at h; subst h; exact ⟨_, _, rfl, .inl (.inr ⟨rfl, g.eq⟩)⟩
  | succ i => exact ih.2 i s (by simpa [bz] using h)
section
variable {B : Bk} {F H : Hp} {σ : St} {τ τi : TSt} {fr : List (Str × Nat)}
theorem eX {i k : Nat} {x : Str} {v : V} (h : fr[i]? = some (x, k)) (g : cX σ k v) : cX (cO σ fr) i v := by
 unfold cX cO at *
 rw [List.getElem?_map, h]
 show some ((σ[k]?).join) = _
 rw [g]; rfl
theorem ip.rp (h : ip τ fr τi) (r : Rp B F H σ τ) : Rp B F H (cO σ fr) τi where
 up := r.up
 wa := r.wa
 wf := r.wf
 wj := r.wj
 wd := fun i z => by
  obtain ⟨x, k, hk, (e | ⟨e, g⟩) | ⟨u, e, g⟩ | ⟨u, e, g⟩⟩ := h.at.2 i _ z
  ·cases e
  ·exact eX hk (r.wd _ g)
  ·cases e
  ·cases e
 len := by unfold cO; rw [List.length_map, h.at.1]
 fz := fun i t z => by
  obtain ⟨x, k, hk, (e | ⟨e, g⟩) | ⟨u, e, g⟩ | ⟨u, e, g⟩⟩ := h.at.2 i _ z
  ·cases e
  ·cases e
  ·cases e
   obtain ⟨v, a, b⟩ := r.fz _ _ g
   exact ⟨v, eX hk a, b⟩
  ·cases e
 ow := fun i t z => by
  obtain ⟨x, k, hk, (e | ⟨e, g⟩) | ⟨u, e, g⟩ | ⟨u, e, g⟩⟩ := h.at.2 i _ z <;> cases e
 vw := fun i t z => by
  obtain ⟨x, k, hk, (e | ⟨e, g⟩) | ⟨u, e, g⟩ | ⟨u, e, g⟩⟩ := h.at.2 i _ z
  ·cases e
  ·cases e
  ·cases e
  ·cases e
   rcases g with g | g
   ·obtain ⟨l, a, b, c, n0⟩ := r.ow _ _ g
    exact ⟨l, eX hk a, b, c, fun hw => r.wa l hw n0⟩
   ·obtain ⟨l, a, b, c⟩ := r.vw _ _ g
    exact ⟨l, eX hk a, b, c⟩
 ap := fun a b t u l z => by
  obtain ⟨x, k, hk, (e | ⟨e, g⟩) | ⟨u, e, g⟩ | ⟨u, e, g⟩⟩ := h.at.2 a _ z <;> cases e
 av := fun a b t u l z => by
  obtain ⟨x, k, hk, (e | ⟨e, g⟩) | ⟨u, e, g⟩ | ⟨u, e, g⟩⟩ := h.at.2 a _ z <;> cases e
theorem ip.noown (h : ip τ fr τi) {i : Nat} {t : Tr} (z : bz τi i (.own t)) : False := by
 obtain ⟨x, k, hk, (e | ⟨e, g⟩) | ⟨u, e, g⟩ | ⟨u, e, g⟩⟩ := h.at.2 i _ z <;> cases e
theorem Rp.consO {o : Option V} (r : Rp B F H σ τ) : Rp B F H (o :: σ) (.no :: τ) where
 up := r.up
 wa := r.wa
 wf := r.wf
 wj := r.wj
 wd := fun i z => by
  cases i with
  | zero => cases z
  | succ i => exact r.wd i z
 len := by rw [List.length_cons, List.length_cons, r.len]
 fz := fun i t z => by
  cases i with
  | zero => cases z
  | succ i => obtain ⟨v, a, b⟩ := r.fz i t z; exact ⟨v, a, b⟩
 ow := fun i t z => by
  cases i with
  | zero => cases z
  | succ i => exact r.ow i t z
 vw := fun i t z => by
  cases i with
  | zero => cases z
  | succ i => exact r.vw i t z
 ap := fun a b t u l ha hb ne hi hj => by
  cases a with
  | zero => cases ha
  | succ a =>
   cases b with
   | zero => cases hb
   | succ b => exact r.ap a b t u l ha hb (fun z => ne (by rw [z])) hi hj
 av := fun a b t u l ha hb hi hj => by
  cases a with
  | zero => cases ha
  | succ a =>
   cases b with
   | zero => cases hb
   | succ b => exact r.av a b t u l ha hb hi hj
theorem Rp.consF {v : V} {t : Tr} (r : Rp B F H σ τ) (h : Is B.K F v t) : Rp B F H (some v :: σ) (.fz t :: τ) := (r.consO (o := none)).setF (i := 0) h
theorem Rp.back {σi : St} {τ2 τ3 : TSt} {F' H' : Hp} (r : Rp B F H σ τ) (f : Fr B σi τ2 F H τ3 F' H') (no : ∀ i t, ¬ bz τ2 i (.own t)) (ri : Rp B F' H' σi τ3) : Rp B F' H' σ τ /\ Up B F H F' H' := by
 have up : Up B F H F' H' := ⟨f.f, fun p o nw hp => (f.k p o hp nw fun i t z => (no i t z).elim).1, ri.up.i, fun p o hp mb n => by
  by_cases hw : B.W p
  ·exact ri.wf p hw
  ·exact (f.k p o hp hw fun i t z => (no i t z).elim).2 mb n, f.h, fun p hw _ => ri.wf p hw, fun _ => ri.wj⟩
 exact ⟨r.go up, up⟩
theorem Rp.acc {acc : Addr} {o : HO} {ys : List V} (rb : Rp B F H σ τ) (hy : H acc = some (.lst ys)) (h0 : B.H0 acc = none) (na : F acc = none) (dis : ∀ i u, bz τ i (.own u) ∨ bz τ i (.vw u) -> ¬ cX σ i (.ref acc)) : Rp B F (upd H acc o) σ τ := {
      wa := rb.wa
      wf := rb.wf
      wj := B.jl _ _ (fun q hw => by
        have : q ≠ acc := fun e => rb.wa q hw (by rw [e]; exact h0)
        rw [ac this]) (fun q φ z => by rw [ac (eO z hy nofun)]; exact z) rb.wj
      wd := rb.wd
      up := { f := rb.up.f, h := fun q o nw z => by
                have : q ≠ acc := fun e => by rw [e, h0] at z; cases z
                rw [ac this]; exact rb.up.h q o nw z
              i := fun q o z => by
                have : q ≠ acc := fun e => by rw [e, na] at z; cases z
                rw [ac this]; exact rb.up.i q o z
              m := rb.up.m
              w := fun q z => rb.up.w q (dN z)
              x := rb.up.x
              j := fun z => B.jl _ _ (fun q hw => by
                have : q ≠ acc := fun e => rb.wa q hw (by rw [e]; exact h0)
                rw [ac this]) (fun q φ z => by rw [ac (eO z hy nofun)]; exact z) rb.wj }
      len := rb.len
      fz := rb.fz
      ow := fun j u z => by
        obtain ⟨l', a, b, c⟩ := rb.ow j u z
        have : l' ≠ acc := fun e => dis j u (.inl z) (by rw [<- e]; exact a)
        exact ⟨l', a, b.to (aa.refl _) (fun o ho => by rw [ac this]; exact ho), c⟩
      vw := fun j u z => by
        obtain ⟨l', a, b, c⟩ := rb.vw j u z
        have : l' ≠ acc := fun e => dis j u (.inr z) (by rw [<- e]; exact a)
        exact ⟨l', a, b.to (aa.refl _) (fun o ho => by rw [ac this]; exact ho), c⟩
      ap := rb.ap
      av := rb.av }
end
section
variable {B : Bk} {τ τi : TSt} {Φ : TK} {fr : List (Str × Nat)} {wi : TI} {te : TE}
theorem Ap (h : IV B wi τ fun ts τ1 => ∃ τi, ip τ1 fr τi /\ ts.length <= 100000 /\ ∃ P : Nat -> Tr -> Prop, (∀ i t, ts[i]? = some t -> EV B te (.fz t :: τi) fun k τ2 => oh k τ2 fun o _ => P i o) /\ ∀ os : List Tr, os.length = ts.length -> (∀ i o, os[i]? = some o -> P i o) -> Φ (.nw (.lst os)) τ1) : EV B (xM fr wi te) τ Φ := fun σ F H Q r c => by
 refine h σ F H _ r fun J F1 H1 ts τ1 f1 r1 itk ⟨τi, inr, hlen, P, step, fin⟩ => ?_
 intro acc hacc
 refine ⟨fun i m H2 => ∃ F2 vs os, Rp B F2 H2 σ τ1 /\ Fr B σ τ1 F1 H1 τ1 F2 H2 /\ H2 acc = some (.lst vs) /\ F2 acc = none /\ IsL B.K F2 vs os /\ os.length = i /\ (∀ j o, os[j]? = some o -> P j o) /\ i <= ts.length /\ m = ts.length - i, ⟨_, F1, [], [], r1.go (r1.new hacc), Fr.up (r1.new hacc), ad, r1.inc.free hacc, .nil, rfl, fun j o z => (by cases z), Nat.zero_le _, rfl⟩, ?_⟩
 rintro i m H2 ⟨F2, vs, os, r2, f2, ha, na, l2, hos, hP, hi, rfl⟩
 obtain ⟨itg, its⟩ := itk σ τ1 F2 H2 f2.f r2
 have dis : ∀ (i : Nat) (u : Tr), bz τ1 i (.own u) ∨ bz τ1 i (.vw u) -> ¬ cX σ i (.ref acc) := fun i u hu hs => by
  rcases hu with hu | hu
  ·obtain ⟨l', e', g, _⟩ := r1.ow i u hu
   obtain ⟨o, ho, _⟩ := g.mb
   cases ag e' hs
   rw [hacc] at ho; cases ho
  ·obtain ⟨l', e', g, _⟩ := r1.vw i u hu
   obtain ⟨o, ho, _⟩ := g.mb
   cases ag e' hs
   rw [hacc] at ho; cases ho
 by_cases hlt : i < ts.length
 ·obtain ⟨g1, g2⟩ := itg i ts[i] (List.getElem?_eq_getElem hlt)
  refine .inr ⟨g1, fun x H3 y => ?_⟩
  obtain ⟨F3, u3, hx⟩ := g2 x H3 y
  have r3 := r2.go u3
  have ri : Rp B F3 H3 (some x :: cO σ fr) (.fz ts[i] :: τi) := (inr.rp r3).consF hx
  refine step i ts[i] (List.getElem?_eq_getElem hlt) _ F3 H3 _ ri fun v F4 H4 k τ4 f4 r4 ok4 n4 h4 => ?_
  obtain ⟨F5, o, τ5, f5, r5, i5, hp5, _⟩ := dw f4 r4 ok4 n4 h4
  have noo' : ∀ j t, ¬ bz (Sl.fz ts[i] :: τi) j (.own t) := fun j t z => by
   cases j with
   | zero => cases z
   | succ j => exact inr.noown z
  obtain ⟨rb, ub⟩ := r3.back f5 noo' r5
  have u25 := u3.trans ub
  have nwa : ¬ B.W acc := fun hw => r1.wa acc hw (r1.up.w acc hacc)
  have ha5 : H4 acc = some (.lst vs) := u25.h _ _ nwa ha
  have na5 : F5 acc = none := u25.m _ _ ha trivial na
  refine ⟨vs, ts.length - (i + 1), ha5, by rw [l2.length, hos]; exact Nat.lt_of_lt_of_le (Nat.lt_of_lt_of_le hlt hlen) (by decide), by omega, ?_⟩
  have r6 : Rp B F5 (upd H4 acc (.lst (vs ++ [v]))) σ τ1 := rb.acc ha5 (r1.up.w acc hacc) na5 dis
  have f6 : Fr B σ τ1 F1 H1 τ1 F5 (upd H4 acc (.lst (vs ++ [v]))) := by
   have f7 := f2.trans (Fr.up u25)
   refine ⟨f7.f, fun p o hp nw no => ?_, f7.o, fun p hp => ?_⟩
   ·have : p ≠ acc := fun e => by rw [e, hacc] at hp; cases hp
    rw [ac this]; exact f7.k p o hp nw no
   ·by_cases e : p = acc
    ·rw [e, ad] at hp; cases hp
    ·rw [ac e] at hp; exact f7.h p hp
  refine ⟨F5, vs ++ [v], os ++ [o], r6, f6, ad, na5, (l2.same u25.f).snoc i5, by rw [List.length_append, hos]; rfl, fun j q hj => ?_, hlt, rfl⟩
  rcases Nat.lt_or_ge j os.length with hjl | hjl
  ·rw [List.getElem?_append_left hjl] at hj
   exact hP j q hj
  ·rw [List.getElem?_append_right hjl] at hj
   have hz := (List.getElem?_eq_some_iff.mp hj).1
   rw [List.length_singleton] at hz
   have ej : j = i := by omega
   rw [show j - os.length = 0 by omega] at hj
   cases hj
   rw [ej]; exact hp5
 ·have ei : i = ts.length := by omega
  subst ei
  exact .inl ⟨its, c _ F2 H2 (.nw (.lst os)) τ1 (f1.trans f2) r2 ⟨acc, rfl, .lst ha l2, na, r1.up.w acc hacc, dis⟩ (fun l e => by cases e; exact f1.h _ hacc) (fin os hos hP)⟩
end
end L2
namespace L2
open PySem PySem.Spec PyProof.Rows
section
variable {B : Bk} {F H : Hp} {σ : St} {τ τi : TSt} {fr : List (Str × Nat)}
theorem Rp.pre (r : Rp B F H σ τ) : ∀ (vs : List V) (ts : List Tr), IsL B.K F vs ts -> Rp B F H (vs.map some ++ σ) (ts.map Sl.fz ++ τ)
 | _, _, .nil => r
 | _, _, .cons h g => (Rp.pre r _ _ g).consF h
end
section
variable {B : Bk} {τ τi : TSt} {Φ : TK} {fr : List (Str × Nat)} {wi : TI} {te : TE} {tc : TT} {g : TG} {k : Nat}
theorem xm {Ψ : Bool -> TSt -> Prop} (h : Ψ true τ) : TV B zU τ Ψ := fun σ F H Q r c => c true F H τ Fr.refl r h
theorem sq {iy : Nat} {nx bk ct : TSt -> Prop} {rt : Kd -> Prop} (h : EV B (xM fr wi te) τ fun k τ1 => GA B (dm iy) k τ1 nx) : SV B (uE iy fr wi te) τ ⟨nx, rt, bk, ct⟩ := fun σ F H D r e => h σ F H _ r fun v F1 H1 k τ1 f r1 ok _ h1 => h1 σ F1 H1 v _ r1 ok fun σ' F' H' τ' s r' n => e.nx σ' F' H' τ' (f.f.trans s) r' n
end
section
variable {B : Bk} {τ τ' : TSt} {Φ : TK} {x : Kd} {i j : Int} {ts : List Tr} {b : Bool} {t : Tr} {K : Fg}
theorem vM (hK : K = B.K) (rk : Rk τ x (.lst ts)) (q : Φ (.fz (.int (ts.length : Nat))) τ) : RU B (fun v H Q => ∃ p ys, [v] = [V.ref p] /\ (ak K H p ys ∨ aH K H p ys) /\ Q (.int (ys.length : Nat)) H) x τ Φ := fun σ F H v Q r a c => by
 subst hK
 obtain ⟨p, vs, rfl, s, l⟩ := rk.list r a
 refine ⟨p, vs, rfl, .inl s, ?_⟩
 rw [l.length]; exact c.pl r .int q
theorem sh (hK : K = B.K) (rk : Rk τ x (.tup ts)) (q : Φ (.fz (.int (ts.length : Nat))) τ) : RU B (fun v H Q => ∃ p ys, [v] = [V.ref p] /\ (ak K H p ys ∨ aH K H p ys) /\ Q (.int (ys.length : Nat)) H) x τ Φ := fun σ F H v Q r a c => by
 subst hK
 obtain ⟨p, vs, rfl, s, l⟩ := rk.tuple r a
 refine ⟨p, vs, rfl, .inr s, ?_⟩
 rw [l.length]; exact c.pl r .int q
theorem qw (h : RU B (fun v H Q => ∃ p ys, [v] = [V.ref p] /\ (ak K H p ys ∨ aH K H p ys) /\ Q (.int (ys.length : Nat)) H) x τ Φ) : RU B (fun v H Q => tV K [v] H Q) x τ Φ := h
theorem uf (q : Φ (.fz (.int (if i < 0 then -i else i))) τ) : RU B (fun v H Q => ∃ i, [v] = [V.int i] /\ Q (.int (if i < 0 then -i else i)) H) (.fz (.int i)) τ Φ := fun σ F H v Q r a c => by
 cases aC a
 exact ⟨i, rfl, c.pl r .int q⟩
theorem uN (q : Φ (.fz (.int i)) τ) : RU B (fun v H Q => (∃ i, [v] = [V.int i] /\ Q (.int i) H) ∨ ∃ k, [v] = [V.bl k] /\ Q (.int (if k = true then 1 else 0)) H) (.fz (.int i)) τ Φ := fun σ F H v Q r a c => by
 cases aC a
 exact .inl ⟨i, rfl, c.pl r .int q⟩
theorem vc (q : Φ (.fz (.int (if b = true then 1 else 0))) τ) : RU B (fun v H Q => (∃ i, [v] = [V.int i] /\ Q (.int i) H) ∨ ∃ k, [v] = [V.bl k] /\ Q (.int (if k = true then 1 else 0)) H) (.fz (.bl b)) τ Φ := fun σ F H v Q r a c => by
 cases dM a
 exact .inr ⟨b, rfl, c.pl r .int q⟩
theorem qS (hK : K = B.K) (rk : Rk τ x (.lst ts)) (q : Φ (.nw (.lst ts)) τ) : RU B (fun v H Q => ∃ p ys, [v] = [V.ref p] /\ (ak K H p ys ∨ aH K H p ys) /\ ∀ l, H l = none -> Q (.ref l) (upd H l (.lst ys))) x τ Φ := fun σ F H v Q r a c => by
 subst hK
 obtain ⟨p, vs, rfl, s, l⟩ := rk.list r a
 exact ⟨p, vs, rfl, .inl s, fun l' hl => c.nl r l hl q⟩
theorem pN (hK : K = B.K) (rk : Rk τ x (.tup ts)) (q : Φ (.nw (.lst ts)) τ) : RU B (fun v H Q => ∃ p ys, [v] = [V.ref p] /\ (ak K H p ys ∨ aH K H p ys) /\ ∀ l, H l = none -> Q (.ref l) (upd H l (.lst ys))) x τ Φ := fun σ F H v Q r a c => by
 subst hK
 obtain ⟨p, vs, rfl, s, l⟩ := rk.tuple r a
 exact ⟨p, vs, rfl, .inr s, fun l' hl => c.nl r l hl q⟩
theorem uB (hK : K = B.K) (rk : Rk τ x (.lst ts)) (q : Φ (.fz (.tup ts)) τ) : RU B (fun v H Q => ∃ p ys, [v] = [V.ref p] /\ ((ak K H p ys /\ ∀ l, H l = none -> Q (.ref l) (upd H l (.tup ys))) ∨ (aH K H p ys /\ Q (.ref p) H))) x τ Φ := fun σ F H v Q r a c => by
 subst hK
 obtain ⟨p, vs, rfl, s, l⟩ := rk.list r a
 exact ⟨p, vs, rfl, .inl ⟨s, fun l' hl => c.nt r l hl q⟩⟩
theorem rD (q : Φ (.fz (.int (if j > i then j else i))) τ) : RO B (fun v w H Q => ∃ i j, [v, w] = [V.int i, V.int j] /\ Q (.int (if j > i then j else i)) H) (.fz (.int i)) (.fz (.int j)) τ Φ := fun σ F H v w Q r a b c => by
 cases aC a; cases aC b
 exact ⟨i, j, rfl, c.pl r .int q⟩
theorem qz (q : Φ (.fz (.int (if j < i then j else i))) τ) : RO B (fun v w H Q => ∃ i j, [v, w] = [V.int i, V.int j] /\ Q (.int (if j < i then j else i)) H) (.fz (.int i)) (.fz (.int j)) τ Φ := fun σ F H v w Q r a b c => by
 cases aC a; cases aC b
 exact ⟨i, j, rfl, c.pl r .int q⟩
def qm : Tr -> Option Tg
 | .non => some .non
 | .bl _ => some .bl
 | .int _ => some .int
 | .str _ => some .str
 | .tup _ => some .tup
 | .lst _ => some .lst
 | .dct _ => some .dic
 | .ty _ => none
theorem sC {F H : Hp} {v : V} {g : Tg} (i : aa F H) (h : Is K F v t) (e : qm t = some g) : uM K H v g := by
 cases h with
 | tup a b => cases e; exact ⟨_, i.tup a⟩
 | lst a b => cases e; exact ⟨_, i.seq a⟩
 | dct a b c => cases e; exact ⟨_, i _ _ a⟩
 | ty => cases e
 | _ => cases e; trivial
theorem pE (hK : K = B.K) {n : String} {f : Tg -> Bool} {g : Tg} (e : qm t = some g) (q : Φ (.fz (.bl (f g))) τ) : RO B (fun v w H Q => fF K n f [v, w] H Q) (.fz t) (.fz (.ty n)) τ Φ := fun σ F H v w Q r a b c => by
 subst hK
 cases (show Is B.K F w (.ty n) from b)
 exact ⟨v, g, rfl, sC r.inc a e, c.pl r .bl q⟩
theorem rQ (hK : K = B.K) {n : String} {f : Tg -> Bool} {g : Tg} (e : qm t = some g) (hb : f g = true) (q : Φ (.fz (.bl true)) τ) : RO B (fun v w H Q => fF K n f [v, w] H Q) (.fz t) (.fz (.ty n)) τ Φ := pE hK e (by rw [hb]; exact q)
theorem qy (hK : K = B.K) {n : String} {f : Tg -> Bool} {g : Tg} (e : qm t = some g) (hb : f g = false) (q : Φ (.fz (.bl false)) τ) : RO B (fun v w H Q => fF K n f [v, w] H Q) (.fz t) (.fz (.ty n)) τ Φ := pE hK e (by rw [hb]; exact q)
theorem qQ (h : t.isN = true) (q : Φ (.fz (.bl true)) τ) : RO B kf (.fz t) (.fz .non) τ Φ := nT (by rw [h]; exact q)
theorem so (h : t.isN = false) (q : Φ (.fz (.bl false)) τ) : RO B kf (.fz t) (.fz .non) τ Φ := nT (by rw [h]; exact q)
theorem pc (h : t.isN = true) (q : Φ (.fz (.bl false)) τ) : RO B fh (.fz t) (.fz .non) τ Φ := lA (by rw [h]; exact q)
theorem pw (h : t.isN = false) (q : Φ (.fz (.bl true)) τ) : RO B fh (.fz t) (.fz .non) τ Φ := lA (by rw [h]; exact q)
end
end L2
namespace L2
open PySem PySem.Spec PyProof.Rows
theorem xS {α : Type} {l : List α} {n : Nat} {S : Prop} (h : l.length <= n) (q : S) : l.length <= n /\ S := ⟨h, q⟩
section
variable {B : Bk} {τ : TSt} {ta tb : TE}
theorem Aa.same {q : Bool} {K : Fg} {H H' : Hp} {a : Addr} {xs : List V} (s : aa H H') (h : Aa q K H a xs) : Aa q K H' a xs := by
 cases q with
 | true => exact s.tup h
 | false => exact s.seq h
end
section
variable {B : Bk} {τ τ' : TSt} {Φ : TK} {x y : Kd} {ts us : List Tr} {K : Fg}
theorem hI (hK : K = B.K) (r1 : Rk τ x (.lst ts)) (r2 : Rk τ y (.lst us)) (hl : ts.length + us.length <= 100000) (q : Φ (.nw (.lst (ts ++ us))) τ) : RO B (oT K) x y τ Φ := fun _ _ _ _ _ _ r a b c => by
 subst hK
 obtain ⟨p, vs, rfl, s, l⟩ := r1.list r a
 obtain ⟨p2, ws, rfl, s2, l2⟩ := r2.list r b
 exact ⟨p, p2, vs, ws, rfl, rfl, s, s2, by rw [l.length, l2.length]; exact Nat.le_trans hl (by decide), fun p' hp => c.nl r (l.app l2) hp q⟩
end
end L2
namespace L2
open PySem PySem.Spec PyProof.Rows
inductive Dp : Nat -> Tr -> Prop
 | non {n : Nat} : Dp n .non
 | bl {n : Nat} {b : Bool} : Dp n (.bl b)
 | int {n : Nat} {i : Int} : Dp n (.int i)
 | str {n : Nat} {x : Str} : Dp n (.str x)
 | tup {n : Nat} {ts : List Tr} : (∀ t ∈ ts, Dp n t) -> Dp (n + 1) (.tup ts)
 | lst {n : Nat} {ts : List Tr} : (∀ t ∈ ts, Dp n t) -> Dp (n + 1) (.lst ts)
 | dct {n : Nat} : Dp n (.dct [])
theorem rg {n : Nat} {t : Tr} {r : List Tr} (h : Dp n t) (g : ∀ t ∈ r, Dp n t) : ∀ u ∈ t :: r, Dp n u := List.forall_mem_cons.mpr ⟨h, g⟩
theorem Dp.up {n : Nat} {t : Tr} (h : Dp n t) : ∀ {m : Nat}, n <= m -> Dp m t := by
 induction h with
 | non => exact fun _ => .non
 | bl => exact fun _ => .bl
 | int => exact fun _ => .int
 | str => exact fun _ => .str
 | dct => exact fun _ => .dct
 | @tup n ts _ ih =>
  intro m hm
  obtain ⟨k, rfl⟩ : ∃ k, m = k + 1 := ⟨m - 1, by omega⟩
  exact .tup fun t ht => ih t ht (by omega)
 | @lst n ts _ ih =>
  intro m hm
  obtain ⟨k, rfl⟩ : ∃ k, m = k + 1 := ⟨m - 1, by omega⟩
  exact .lst fun t ht => ih t ht (by omega)
theorem oP {K : Fg} {F G H : Hp} {n : Nat} {t : Tr} (d : Dp n t) : ∀ {v w : V}, aa F H -> aa G H -> Is K F v t -> Is K G w t -> cg K H n v w := by
 induction d with
 | non => intro v w i j a b; cases a; cases b; exact .non
 | bl => intro v w i j a b; cases a; cases b; exact .bl
 | int => intro v w i j a b; cases a; cases b; exact .int
 | str => intro v w i j a b; cases a; cases b; exact .str
 | dct =>
  intro v w i j a b
  cases a with
  | @dct p kvs _ h1 k1 _ =>
   cases b with
   | @dct q kvs' _ h2 k2 _ =>
    cases kvs with
    | cons _ _ => cases k1
    | nil =>
     cases kvs' with
     | cons _ _ => cases k2
     | nil => exact .dct (i _ _ h1) (j _ _ h2)
 | tup _ ih =>
  intro v w i j a b
  cases a with
  | tup s1 l1 =>
   cases b with
   | tup s2 l2 =>
    refine .tup (i.tup s1) (j.tup s2) (by rw [l1.length, l2.length]) fun k x y hx hy => ?_
    obtain ⟨t1, e1, h1⟩ := l1.get2 hx
    obtain ⟨t2, e2, h2⟩ := l2.get2 hy
    rw [e1] at e2
    cases e2
    exact ih t1 (List.mem_of_getElem? e1) i j h1 h2
 | lst _ ih =>
  intro v w i j a b
  cases a with
  | lst s1 l1 =>
   cases b with
   | lst s2 l2 =>
    refine .lst (i.seq s1) (j.seq s2) (by rw [l1.length, l2.length]) fun k x y hx hy => ?_
    obtain ⟨t1, e1, h1⟩ := l1.get2 hx
    obtain ⟨t2, e2, h2⟩ := l2.get2 hy
    rw [e1] at e2
    cases e2
    exact ih t1 (List.mem_of_getElem? e1) i j h1 h2
section
variable {B : Bk} {τ τ' : TSt} {Φ : TK} {x y : Kd} {ts us : List Tr} {K : Fg} {b : Bool}
theorem eW {z : Str} : ∀ {ws : List Str}, wH (.str z) (ws.map V.str) = decide (z ∈ ws)
 | [] => rfl
 | x :: r => by
  have ih := eW (z := z) (ws := r)
  unfold wH at ih ⊢
  rw [List.map_cons, List.any_cons, ih]
  show ((x == z) || decide (z ∈ r)) = _
  by_cases h : x = z
  ·subst h; simp
  ·have h1 : (x == z) = false := by simpa using h
   rw [h1, Bool.false_or]
   by_cases k : z ∈ r
   ·rw [decide_eq_true k, decide_eq_true (List.mem_cons_of_mem _ k)]
   ·rw [decide_eq_false k, decide_eq_false (fun q => (List.mem_cons.mp q).elim (fun e => h e.symm) k)]
theorem dU : ∀ {ws : List Str}, (ws.map V.str).all dq = true
 | [] => rfl
 | _ :: _ => by rw [List.map_cons, List.all_cons, dU]; rfl
theorem xu (hK : K = B.K) {ws : List Str} {z : Str} (r2 : Rk τ y (.lst (ws.map Tr.str))) (q : Φ (.fz (.bl (decide (z ∈ ws)))) τ) : RO B (wB K false) (.fz (.str z)) y τ Φ := fun σ F H v w Q r a b c => by
 subst hK
 cases dz a
 obtain ⟨p, vs, rfl, s, l⟩ := r2.list r b
 rw [l.strs] at s
 refine ⟨p, _, rfl, .inl s, rfl, dU, ?_⟩
 rw [eW]; exact c.pl r .bl q
theorem nC (hK : K = B.K) {ws : List Str} {z : Str} (r2 : Rk τ y (.lst (ws.map Tr.str))) (q : Φ (.fz (.bl (!decide (z ∈ ws)))) τ) : RO B (wB K true) (.fz (.str z)) y τ Φ := fun σ F H v w Q r a b c => by
 subst hK
 cases dz a
 obtain ⟨p, vs, rfl, s, l⟩ := r2.list r b
 rw [l.strs] at s
 refine ⟨p, _, rfl, .inl s, rfl, dU, ?_⟩
 rw [eW]; exact c.pl r .bl q
theorem oK {tA : TA} {n : Int} (h0 : 0 <= n) (h1 : n <= 1000) (h : qH B tA τ fun ts τ1 => ts.length <= 1000 /\ Φ (.nw (.lst (List.replicate n.toNat ts).flatten)) τ1) : EV B (tL Ak (rR tA) (tC (.int n))) τ Φ := fun σ F H Q r c => by
 refine h σ F H _ r fun vs F1 H1 ts τ1 f1 r1 l1 ⟨hl, h2⟩ => ⟨by rw [l1.length]; exact Nat.le_trans hl (by decide), fun p hp => ?_⟩
 have u := r1.new (o := .lst vs) hp
 refine ⟨p, n, vs, rfl, rfl, ad, by omega, by omega, Nat.le_trans (Nat.mul_le_mul (show vs.length <= 1000 by rw [l1.length]; exact hl) (show n.toNat <= 1000 by omega)) (by decide), fun p' hp' => ?_⟩
 refine (c.on (f1.trans (Fr.up u))).nl (r1.go u) ?_ hp' h2
 generalize n.toNat = m
 induction m with
 | zero => exact .nil
 | succ m ih => rw [List.replicate_succ, List.replicate_succ, List.flatten_cons, List.flatten_cons]; exact l1.app ih
theorem rN (hK : K = B.K) {te : TE} (h : EV B te τ fun x τ1 => ir x τ1 fun x τ1 => ∃ t g b, x = .fz t /\ qm t = some g /\ (g.isTup || g.isLst) = b /\ Φ (.fz (.bl b)) τ1) : EV B (sy (uC K) (br te (br (qr (br (tC (.ty "tuple")) (br (tC (.ty "list")) tNil))) tNil))) τ Φ := fun σ F H Q rp c => by
 subst hK
 refine h σ F H _ rp fun v F1 H1 k τ1 f1 r1 ok1 n1 h1 => ?_
 obtain ⟨F2, k', f2, r2, ok2, ⟨t, g, b, e1, e2, e3, φ⟩, _⟩ := bB f1 r1 ok1 n1 h1
 subst e1
 subst e3
 refine ⟨by decide, fun p hp => ?_⟩
 have u := r2.tup (vs := [.ty "tuple", .ty "list"]) hp
 refine ⟨v, g, p, rfl, aH.of ad, sC (r2.go u).inc (Is.same u.f ok2) e2, ?_⟩
 exact (c.on (f2.trans (Fr.up u))).pl (r2.go u) .bl φ
theorem vt {t : Tr} {g : Tg} {S : Bool -> Prop} (e : qm t = some g) (h : (g.isTup || g.isLst) = true) (q : S true) : ∃ t' g' b, Kd.fz t = .fz t' /\ qm t' = some g' /\ (g'.isTup || g'.isLst) = b /\ S b := ⟨t, g, true, rfl, e, h, q⟩
theorem tK {t : Tr} {g : Tg} {S : Bool -> Prop} (e : qm t = some g) (h : (g.isTup || g.isLst) = false) (q : S false) : ∃ t' g' b, Kd.fz t = .fz t' /\ qm t' = some g' /\ (g'.isTup || g'.isLst) = b /\ S b := ⟨t, g, false, rfl, e, h, q⟩
end
section
variable {B : Bk} {τ : TSt} {Φ : TK}
theorem oD {K : Fg} (hK : K = B.K) {S : SpT} {E : XK} {tA : TA} {j : Int} (h : wn B tA τ fun as τ1 => ∀ F H, S (B.now F H) (as ++ [.fz (.int j)]) (fun k => Φ k τ1) fun _ => False) : EV B (dO (cZ K S) [.int j] E tA) τ Φ := fun σ F H Q rp c => by
 subst hK
 unfold dO
 refine h σ F H _ rp fun vs F1 H1 as τ1 f1 r1 l1 h1 => ?_
 refine ⟨B.now F1 H1, _, _, _, rfl, rfl, r1.bkok, l1.now.app (.cons (a := .fz (.int j)) Is.int .nil), h1 F1 H1, fun v F2 H2 kd u ok φ => ?_, fun C F2 H2 u ψ => ψ.elim⟩
 obtain ⟨a, b⟩ := pT r1 (B' := B.now F1 H1) rfl rfl ok
 exact c.on f1 v F2 H2 kd τ1 (Fr.up u.of_now) (r1.go u.of_now) (by
  cases kd with
  | nw t => exact ⟨a.choose, a.choose_spec.1, a.choose_spec.2.1, a.choose_spec.2.2⟩
  | _ => exact a) b φ
end
end L2
namespace L2
open PySem PySem.Spec PyProof.Rows
end L2
namespace L2
open PySem PySem.Spec PyProof.Rows
section
variable {B : Bk} {τ : TSt} {s1 s2 : TS} {D : cP} {i j : Nat} {ts us : List Tr}
end
def bkL (K : Fg) (F H : Hp) (p : Addr) (l : List (Addr × List V)) : Bk where
 K := K
 F0 := F
 H0 := H
 W := fun q => ∃ vs, (q, vs) ∈ l
 J := fun H' => ∀ x ∈ l, H' x.1 = some (.lst x.2)
 rt := p
 jl := fun H H' e _ h x hx => by rw [<- e x.1 ⟨x.2, hx⟩]; exact h x hx
 jm := fun H q h hw => by
  obtain ⟨vs, hx⟩ := hw
  exact ⟨_, h _ hx, trivial⟩
section
variable {B : Bk} {τ : TSt} {σ : St} {F H F' H' : Hp} {p : Addr} {l : List (Addr × List V)} {k : Nat}
variable {D : cP} {s2 : TS}
variable {B' : Bk} {a b : Addr} {ws : List V} {ts us ms : List Tr}
theorem Rp.plain {H3 : Hp} (r : Rp B F H σ τ) (cl : ∀ i s, bz τ i s -> s = .no ∨ ∃ t, s = .fz t) (s : aa F H3) : Rp (bkL B.K F H3 p []) F H3 σ τ where
 up := Up.refl s
 wa := fun q hw => by obtain ⟨_, hx⟩ := hw; exact absurd hx List.not_mem_nil
 wf := fun q hw => by obtain ⟨_, hx⟩ := hw; exact absurd hx List.not_mem_nil
 wj := fun x hx => absurd hx List.not_mem_nil
 wd := fun i e => by rcases cl i _ e with z | ⟨_, z⟩ <;> cases z
 len := r.len
 fz := r.fz
 ow := fun i t e => by rcases cl i _ e with z | ⟨_, z⟩ <;> cases z
 vw := fun i t e => by rcases cl i _ e with z | ⟨_, z⟩ <;> cases z
 ap := fun i j t u l e => by rcases cl i _ e with z | ⟨_, z⟩ <;> cases z
 av := fun i j t u l e => by rcases cl i _ e with z | ⟨_, z⟩ <;> cases z
end
end L2
namespace L2
open PySem PySem.Spec PyProof.Rows
section
variable {B B' : Bk} {τ τ' : TSt} {D : cP} {s2 : TS} {p a b : Addr} {vs ws : List V} {ts us : List Tr} {k : Nat}
end
end L2
namespace L2
open PySem PySem.Spec PyProof.Rows
def Ay (B : Bk) (ts : List Tr) : Prop := ∃ vs, IsL B.K B.F0 vs ts /\ ∀ H, B.J H -> H B.rt = some (.lst vs)
theorem Ay.now {B : Bk} {ts : List Tr} {F H : Hp} (h : Ay B ts) (s : aa B.F0 F) : Ay (B.now F H) ts := by
 obtain ⟨vs, a, b⟩ := h
 exact ⟨vs, a.same s, b⟩
section
variable {B : Bk} {τ τ' : TSt} {k : Nat}
abbrev Bk.at (B : Bk) (l : Addr) : Bk := { B with rt := l }
theorem dY.base {B1 B2 : Bk} {F : Hp} (hK : B1.K = B2.K) (hr : B1.rt = B2.rt) : ∀ {vs : List V} {as : List Ar}, dY B1 F vs as -> dY B2 F vs as
 | _, _, .nil => .nil
 | _, _, .cons (a := .fz t) h g => .cons (a := .fz t) (by have h : Is B1.K F _ t := h; rw [hK] at h; exact h) (dY.base hK hr g)
 | _, _, .cons (a := .wd) h g => .cons (a := .wd) (by have h : _ = V.ref B1.rt := h; rw [hr] at h; exact h) (dY.base hK hr g)
end
end L2
namespace L2
end L2
namespace L2
open PySem PySem.Spec PyProof.Rows
section
variable {B : Bk} {τ τ1 : TSt} {Φ : TK} {te : TE} {K : Fg} {x y : Kd}
theorem mr (hK : K = B.K) {ws : List Str} {z : Str} (r2 : Rk τ y (.tup (ws.map Tr.str))) (q : Φ (.fz (.bl (!decide (z ∈ ws)))) τ) : RO B (wB K true) (.fz (.str z)) y τ Φ := fun σ F H v w Q r a b c => by
 subst hK
 cases dz a
 obtain ⟨p, vs, rfl, s, l⟩ := r2.tuple r b
 rw [l.strs] at s
 refine ⟨p, _, rfl, .inr s, rfl, dU, ?_⟩
 rw [eW]; exact c.pl r .bl q
theorem jt : ∀ {ns : List Int}, (ns.map V.int).all dq = true
 | [] => rfl
 | _ :: _ => by rw [List.map_cons, List.all_cons, jt]; rfl
theorem kR {z : Int} : ∀ {ns : List Int}, wH (.int z) (ns.map V.int) = decide (z ∈ ns)
 | [] => rfl
 | x :: r => by
  have ih := kR (z := z) (ns := r)
  unfold wH at ih ⊢
  rw [List.map_cons, List.any_cons, ih]
  show ((x == z) || decide (z ∈ r)) = _
  by_cases h : x = z
  ·subst h; simp
  ·have h1 : (x == z) = false := by simpa using h
   rw [h1, Bool.false_or]
   by_cases k : z ∈ r
   ·rw [decide_eq_true k, decide_eq_true (List.mem_cons_of_mem _ k)]
   ·rw [decide_eq_false k, decide_eq_false (fun q => (List.mem_cons.mp q).elim (fun e => h e.symm) k)]
end
end L2
namespace L2
open PySem PySem.Spec PyProof.Rows
def fX (acc : List Str) (z : Str) : List Str := if z ∈ acc then acc else acc ++ [z]
def bM (ws : List Str) : List Str := ws.foldl fX []
theorem lX (ws : List Str) (z : Str) : bM (ws ++ [z]) = fX (bM ws) z := by unfold bM; rw [List.foldl_append]; rfl
theorem oJ {acc : List Str} {z x : Str} : x ∈ fX acc z ↔ x ∈ acc ∨ x = z := by
 unfold fX
 split
 ·rename_i h; exact ⟨.inl, fun q => q.elim id fun e => e ▸ h⟩
 ·rw [List.mem_append, List.mem_singleton]
theorem iu {acc : List Str} {z : Str} : (fX acc z).length = if decide (z ∈ acc) = true then acc.length else acc.length + 1 := by
 unfold fX
 by_cases h : z ∈ acc
 ·rw [if_pos h, decide_eq_true h, if_pos rfl]
 ·rw [if_neg h, decide_eq_false h, if_neg Bool.false_ne_true, List.length_append]; rfl
theorem su : ∀ ws : List Str, (bM ws).length <= ws.length := by
 have g : ∀ (ws acc : List Str), (ws.foldl fX acc).length <= acc.length + ws.length := by
  intro ws
  induction ws with
  | nil => intro acc; exact Nat.le_refl _
  | cons z r ih =>
   intro acc
   have h1 := ih (fX acc z)
   have h2 : (fX acc z).length <= acc.length + 1 := by rw [iu]; split <;> omega
   rw [List.foldl_cons, List.length_cons]
   omega
 intro ws
 have := g ws []
 unfold bM
 simpa using this
section
variable {prog : Program} {w : World} {A : Around} {R : Result -> Shared -> Prop} {I : Addr} {fp wr : List Addr} {G : Array GenState -> Array GenState -> Prop} {n : Nat} {P : Nat -> Value -> Prop} {St : Nat -> Shared -> Prop}
theorem je (W : WalksS prog w A.in1 I fp wr G n P St) (S : Addr) (nS : S ∉ fp) (ws : List Str) (lw : ws.length = n)
  (tx : ∀ i v, P i v -> ∃ z t, ws[i]? = some z /\ v = .str z t) (room : n + 1 < scanBound) : ∀ (k i : Nat) (s : Shared), n - i = k -> i <= n -> St i s ->
   s.heap.SetOf (strKind prog w) S (fun x => decide (x ∈ bM (ws.take i))) (bM (ws.take i)).length ->
   (∀ s', Moved (S :: wr) G s s' -> s'.heap.SetOf (strKind prog w) S (fun x => decide (x ∈ bM ws)) (bM ws).length -> R (.ok (.ret .none)) s') ->
   codeAny (model prog w) A (.builtin "set.update.loop" ⟨[.ref S, .ref I], []⟩) R s := by
 have nW : S ∉ wr := fun z => nS (W.sub _ z)
 have up : ∀ b ∈ wr, b ∈ S :: wr := fun b z => List.mem_cons_of_mem _ z
 have on : ∀ {s s' : Shared} {f : Str -> Bool} {m : Nat}, Moved wr G s s' -> s.heap.SetOf (strKind prog w) S f m -> s'.heap.SetOf (strKind prog w) S f m := fun mv q => by
  obtain ⟨o, es, ep, t, ho, r⟩ := q
  exact ⟨o, es, ep, t, mv.heap S _ nW ho, r⟩
 intro k
 induction k with
 | zero =>
  intro i s ek il st hS fin
  obtain rfl : i = n := by omega
  refine codeAny_builtin F.entry_set_update_loop ?_
  rw [Around.under_plainId F.plain_set_update_loop _]
  refine wpAny_bind (m := pyNext (.ref I)) (W.done s _ _ st fun s' mv => ?_)
  refine wpAny_pure (fin s' (mv.mono up) ?_)
  have q := on mv hS
  rw [<- lw, List.take_length] at q
  exact q
 | succ k ih =>
  intro i s ek il st hS fin
  have lt : i < n := by omega
  refine codeAny_builtin F.entry_set_update_loop ?_
  rw [Around.under_plainId F.plain_set_update_loop _]
  refine wpAny_bind (m := pyNext (.ref I)) (W.item i s _ _ lt st fun v s' pv st' mv => ?_)
  obtain ⟨z, t, ez, rfl⟩ := tx i v pv
  have hS' := on mv hS
  refine wpAny_bind (m := holding [Value.str z t] (setAdd S (.str z t))) (wpAny_holding ?_)
  unfold setAdd
  refine wpAny_holding (wpAny_bind ((strKind prog w).pyHash (k := z) (strKind_is _ _ _ _) ?_))
  have rm : (bM (ws.take i)).length + 1 < scanBound := by
   have h1 := su (ws.take i)
   rw [List.length_take] at h1
   omega
  refine wpAny_setAddHashed_of (knd := strKind prog w) (s := { s' with toks := s'.toks + 1 }) (strKind_is _ _ _ _) rfl hS' rm fun h' sb hS2 => ?_
  have ei : bM (ws.take (i + 1)) = fX (bM (ws.take i)) z := by rw [List.take_succ, ez]; exact lX _ _
  have hN : h'.SetOf (strKind prog w) S (fun x => decide (x ∈ bM (ws.take (i + 1)))) (bM (ws.take (i + 1))).length :=
   SetOf_congr hS2 (fun x => by rw [ei, Bool.eq_iff_iff, decide_eq_true_eq, oJ, Bool.or_eq_true, decide_eq_true_eq, decide_eq_true_eq]) (by rw [ei, iu])
  refine wpAny_pure ⟨plainId_quiet F.plain_set_update_loop _, ih (i + 1) _ (by omega) lt (W.frame _ s' _ _ st' (Nat.le_succ _) fun b z o e => ?_) hN fun s'' mv2 q => ?_⟩
  ·rw [sb.2 b (fun y : b = S => nS (by rw [<- y]; exact z))]; exact e
  ·refine fin s'' (Moved.trans W.gtrans ((mv.mono up).then_heap (Nat.le_succ _) fun b o z e => ?_) mv2) q
   rw [sb.2 b (fun y : b = S => z (by rw [y]; exact List.mem_cons_self))]; exact e
end
end L2
namespace L2
open PySem PySem.Spec PyProof.Rows
section
variable {prog : Program} {w : World} {A : Around} {E : Value -> Shared -> Prop} {s : Shared}
abbrev noSet (b : Bool) : Obj := { cls := .type "set", dict := none, data := .set #[] 0 (.fresh 0 0 b) }
set_option maxHeartbeats 6400000 in
theorem vz {l : Addr} {its : Array Value} {ws : List Str} {Q : Value -> Shared -> Prop} (nh : A.handled = none) (tl : s.heap.IsTuple l its) (lw : ws.length = its.size) (tx : ∀ (i : Nat) (v : Value), its[i]? = some v -> ∃ z t, ws[i]? = some z /\ v = Value.str z t) (room : its.size + 1 < scanBound)
  (q : ∀ (h' : Heap) (tk : Nat), h'.SetOf (strKind prog w) s.heap.objs.size (fun x => decide (x ∈ bM ws)) (bM ws).length -> (∀ b o, b < s.heap.objs.size -> s.heap.get? b = some o -> h'.get? b = some o) -> Q (.ref s.heap.objs.size) { s with heap := h', toks := tk }) :
  wpAny (model prog w) A (call (.type "set") [.ref l]) Q E s := by
 obtain ⟨c0, c1, order⟩ := F.called_set.mro
 have made := F.called_set.made
 have sub0 := F.called_set.sub
 refine wpAny_call (codeAny_of_tree ?_)
 show wpAny _ _ (callAny (.type "set") _) _ _ _
 refine wpAny_pure ⟨Code.quiet_builtin _ (by decide +kernel), codeAny_builtin F.entry_type_call ?_⟩
 rw [Around.under_plain (weight_type_call_type "set" [.ref l] []) rfl]
 have k1 := F.called_set.notType
 have k2 := F.called_set.canCreate
 have k3 := F.typeCall_set_1 (.ref l)
 repeat any_goals first | assumption | wp_step
 refine codeAny_mono (code_set_new_1 (.ref l) (E := E) (Q₁ := fun v s1 => ∃ ld : Bool, v = .ref s.heap.objs.size /\ s1 = { s with heap := s.heap.push (noSet ld) }) fun ld => ⟨ld, rfl, rfl⟩) fun r s1 hr => ?_
 cases r with
 | error e => exact hr
 | ok fl =>
  cases fl with
  | ret v =>
   obtain ⟨ld, rfl, rfl⟩ := hr
   have gS : (s.heap.push (noSet ld)).get? s.heap.objs.size = some (noSet ld) := Heap.get?_push_size _ rfl
   have ty : Shared.TypeIs { s with heap := s.heap.push (noSet ld) } (.ref s.heap.objs.size) "set" := ⟨_, gS, rfl⟩
   have i1 := F.called_set.init.lookup
   have i2 := F.called_set.init.bind (.ref s.heap.objs.size)
   repeat any_goals first | assumption | wp_step
   refine codeAny_mono (codeAny_call_builtin (R := wants (fun r s2 => r = .none /\ ∃ h' tk, s2 = { s with heap := h', toks := tk } /\ h'.SetOf (strKind prog w) s.heap.objs.size (fun x => decide (x ∈ bM ws)) (bM ws).length /\ ∀ b o, b < s.heap.objs.size -> s.heap.get? b = some o -> h'.get? b = some o) E) F.called_set.init.plain F.entry_set_init (check_set_init_1 ty ?_)) fun r2 s2 hr2 => ?_
   ·obtain ⟨ot, got, ct, nt, dt⟩ := tl
    obtain ⟨oc, od, odt, os⟩ := ot
    simp only at ct dt
    subst ct; subst dt
    have got1 : (s.heap.push (noSet ld)).get? l = some { cls := .type "tuple", dict := od, data := .seq its nt, slots := os } := Heap.get?_push_of_some _ got
    have t1 := F.sub_tuple_set
    have t2 := F.sub_tuple_frozenset
    have t3 : (Value.type "tuple" == Value.type "dict") = false := by decide
    have tl1 : (s.heap.push (noSet ld)).IsTuple l its := ⟨_, got1, rfl, nt, rfl⟩
    unfold Builtin.«set.__init__» noKeywords Builtin.Frozenset.updateFrom
    generalize ePI : pyIter = PI
    wp_walk
    subst ePI
    refine wpAny_pyIter_tuple tl1 ?_
    refine wpAny_bind (wpAny_runValue ?_)
    have lS : l < s.heap.objs.size := Heap.lt_size got
    have nh3 : A.in1.in1.in1.handled = none := by simp [nh]
    have sz : (s.heap.push (noSet ld)).objs.size = s.heap.objs.size + 1 := Heap.size_push ..
    have nI : l ≠ (s.heap.push (noSet ld)).objs.size := by rw [sz]; exact Nat.ne_of_lt (Nat.lt_succ_of_lt lS)
    have nS : s.heap.objs.size ∉ [(s.heap.push (noSet ld)).objs.size, l] := by
     rw [sz]
     simp only [List.mem_cons, List.not_mem_nil, or_false, not_or]
     exact ⟨Nat.ne_of_lt (Nat.lt_succ_self _), Nat.ne_of_gt lS⟩
    refine je ((Walks.tuple nh3 _ l nI its).toS) s.heap.objs.size nS ws lw tx room (its.size - 0) 0 _ (by omega) (Nat.zero_le _) ⟨⟨_, Heap.get?_push_size _ rfl, rfl, rfl⟩, (tl1.push _)⟩ ?z0 ?z1
    case z0 =>
     exact SetOf_congr ((setObjOf_fresh (knd := strKind prog w) ld).setOf (Heap.get?_push_of_some _ gS) (by unfold scanBound; omega)) (fun x => by simp [bM]) rfl
    case z1 =>
     intro s' mv gs
     obtain ⟨h', g', d', tk', os'⟩ := s'
     obtain rfl : g' = s.gens := mv.gens
     obtain rfl : d' = s.drawn := mv.drawn
     obtain rfl : os' = s.os := mv.os
     refine wpAny_pure ?_
     show wpAny _ _ (ret Value.none) _ _ _
     refine wpAny_pure ⟨rfl, h', tk', rfl, gs, fun b o lb e => mv.heap b o ?_ (Heap.get?_push_of_some _ (Heap.get?_push_of_some _ e))⟩
     simp only [List.mem_cons, List.not_mem_nil, or_false, not_or]
     rw [sz]
     exact ⟨Nat.ne_of_lt lb, Nat.ne_of_lt (Nat.lt_succ_of_lt lb)⟩
   ·cases r2 with
    | error e => exact hr2
    | ok f2 =>
     cases f2 with
     | ret v2 =>
      obtain ⟨rfl, h', tk, rfl, gs, kp⟩ := hr2
      repeat any_goals first | assumption | wp_step
      exact q _ _ gs kp
     | _ => exact hr2.elim
  | _ => exact hr.elim
end
end L2
namespace L2
open PySem PySem.Spec PyProof.Rows
section
variable {X : Cx}
end
section
variable {B : Bk} {τ : TSt} {Φ : TK} {te : TE} {K : Fg} {P : Program} {w : World}
end
end L2
namespace L2
open PySem PySem.Spec PyProof.Rows
section
variable {prog : Program} {w : World} {A : Around} {E : Value -> Shared -> Prop} {s : Shared}
set_option maxHeartbeats 6400000 in
theorem wg {l : Addr} {its : Array Value} {ws : List Str} {Q : Value -> Shared -> Prop} (nh : A.handled = none) (tl : s.heap.IsList l its) (lw : ws.length = its.size) (tx : ∀ (i : Nat) (v : Value), its[i]? = some v -> ∃ z t, ws[i]? = some z /\ v = Value.str z t) (room : its.size + 1 < scanBound)
  (q : ∀ (h' : Heap) (tk : Nat), h'.SetOf (strKind prog w) s.heap.objs.size (fun x => decide (x ∈ bM ws)) (bM ws).length -> (∀ b o, b < s.heap.objs.size -> s.heap.get? b = some o -> h'.get? b = some o) -> Q (.ref s.heap.objs.size) { s with heap := h', toks := tk }) :
  wpAny (model prog w) A (call (.type "set") [.ref l]) Q E s := by
 obtain ⟨c0, c1, order⟩ := F.called_set.mro
 have made := F.called_set.made
 have sub0 := F.called_set.sub
 refine wpAny_call (codeAny_of_tree ?_)
 show wpAny _ _ (callAny (.type "set") _) _ _ _
 refine wpAny_pure ⟨Code.quiet_builtin _ (by decide +kernel), codeAny_builtin F.entry_type_call ?_⟩
 rw [Around.under_plain (weight_type_call_type "set" [.ref l] []) rfl]
 have k1 := F.called_set.notType
 have k2 := F.called_set.canCreate
 have k3 := F.typeCall_set_1 (.ref l)
 repeat any_goals first | assumption | wp_step
 refine codeAny_mono (code_set_new_1 (.ref l) (E := E) (Q₁ := fun v s1 => ∃ ld : Bool, v = .ref s.heap.objs.size /\ s1 = { s with heap := s.heap.push (noSet ld) }) fun ld => ⟨ld, rfl, rfl⟩) fun r s1 hr => ?_
 cases r with
 | error e => exact hr
 | ok fl =>
  cases fl with
  | ret v =>
   obtain ⟨ld, rfl, rfl⟩ := hr
   have gS : (s.heap.push (noSet ld)).get? s.heap.objs.size = some (noSet ld) := Heap.get?_push_size _ rfl
   have ty : Shared.TypeIs { s with heap := s.heap.push (noSet ld) } (.ref s.heap.objs.size) "set" := ⟨_, gS, rfl⟩
   have i1 := F.called_set.init.lookup
   have i2 := F.called_set.init.bind (.ref s.heap.objs.size)
   repeat any_goals first | assumption | wp_step
   refine codeAny_mono (codeAny_call_builtin (R := wants (fun r s2 => r = .none /\ ∃ h' tk, s2 = { s with heap := h', toks := tk } /\ h'.SetOf (strKind prog w) s.heap.objs.size (fun x => decide (x ∈ bM ws)) (bM ws).length /\ ∀ b o, b < s.heap.objs.size -> s.heap.get? b = some o -> h'.get? b = some o) E) F.called_set.init.plain F.entry_set_init (check_set_init_1 ty ?_)) fun r2 s2 hr2 => ?_
   ·obtain ⟨ot, got, ct, nt, dt⟩ := tl
    obtain ⟨oc, od, odt, os⟩ := ot
    simp only at ct dt
    subst ct; subst dt
    have got1 : (s.heap.push (noSet ld)).get? l = some { cls := .type "list", dict := od, data := .seq its nt, slots := os } := Heap.get?_push_of_some _ got
    have t1 := F.sub_list_set
    have t2 := F.sub_list_frozenset
    have t3 : (Value.type "list" == Value.type "dict") = false := by decide
    have tl1 : (s.heap.push (noSet ld)).IsList l its := ⟨_, got1, rfl, nt, rfl⟩
    unfold Builtin.«set.__init__» noKeywords Builtin.Frozenset.updateFrom
    generalize ePI : pyIter = PI
    wp_walk
    subst ePI
    refine wpAny_pyIter_list tl1 ?_
    refine wpAny_bind (wpAny_runValue ?_)
    have lS : l < s.heap.objs.size := Heap.lt_size got
    have nh3 : A.in1.in1.in1.handled = none := by simp [nh]
    have sz : (s.heap.push (noSet ld)).objs.size = s.heap.objs.size + 1 := Heap.size_push ..
    have nI : l ≠ (s.heap.push (noSet ld)).objs.size := by rw [sz]; exact Nat.ne_of_lt (Nat.lt_succ_of_lt lS)
    have nS : s.heap.objs.size ∉ [(s.heap.push (noSet ld)).objs.size, l] := by
     rw [sz]
     simp only [List.mem_cons, List.not_mem_nil, or_false, not_or]
     exact ⟨Nat.ne_of_lt (Nat.lt_succ_self _), Nat.ne_of_gt lS⟩
    refine je ((Walks.list nh3 _ l nI its).toS) s.heap.objs.size nS ws lw tx room (its.size - 0) 0 _ (by omega) (Nat.zero_le _) ⟨⟨_, Heap.get?_push_size _ rfl, rfl, rfl⟩, (tl1.push _)⟩ ?z0 ?z1
    case z0 =>
     exact SetOf_congr ((setObjOf_fresh (knd := strKind prog w) ld).setOf (Heap.get?_push_of_some _ gS) (by unfold scanBound; omega)) (fun x => by simp [bM]) rfl
    case z1 =>
     intro s' mv gs
     obtain ⟨h', g', d', tk', os'⟩ := s'
     obtain rfl : g' = s.gens := mv.gens
     obtain rfl : d' = s.drawn := mv.drawn
     obtain rfl : os' = s.os := mv.os
     refine wpAny_pure ?_
     show wpAny _ _ (ret Value.none) _ _ _
     refine wpAny_pure ⟨rfl, h', tk', rfl, gs, fun b o lb e => mv.heap b o ?_ (Heap.get?_push_of_some _ (Heap.get?_push_of_some _ e))⟩
     simp only [List.mem_cons, List.not_mem_nil, or_false, not_or]
     rw [sz]
     exact ⟨Nat.ne_of_lt lb, Nat.ne_of_lt (Nat.lt_succ_of_lt lb)⟩
   ·cases r2 with
    | error e => exact hr2
    | ok f2 =>
     cases f2 with
     | ret v2 =>
      obtain ⟨rfl, h', tk, rfl, gs, kp⟩ := hr2
      repeat any_goals first | assumption | wp_step
      exact q _ _ gs kp
     | _ => exact hr2.elim
  | _ => exact hr.elim
end
section
variable {X : Cx}
end
section
variable {B : Bk} {τ : TSt} {Φ : TK} {te : TE} {K : Fg} {P : Program} {w : World}
end
end L2
namespace L2
open PySem PySem.Spec PyProof.Rows
section
variable {B : Bk} {τ τ1 : TSt} {k : Nat} {F H F2 H2 : Hp} {σ : St} {l : Addr} {Ok : List V -> Prop}
end
end L2
namespace L2
open PySem PySem.Spec PyProof.Rows
section
variable {B : Bk} {τ : TSt} {ta tb tc : TE}
end
end L2
namespace L2
open PySem PySem.Spec PyProof.Rows
section
variable {B : Bk} {τ : TSt} {Φ : TK} {x y : Kd} {ts us : List Tr} {K : Fg}
theorem qu {xs : List Tr} {lo hi : Option Int} {t : Tr} (h : t ∈ eE xs lo hi) : t ∈ xs := List.mem_of_mem_drop (List.mem_of_mem_take h)
theorem gI {xs : List Tr} {lo hi : Option Int} : (eE xs lo hi).length <= xs.length := by
 unfold eE
 rw [List.length_take, List.length_drop]
 omega
end
end L2
namespace L2
open PySem PySem.Spec PyProof.Rows PySem.W
structure xf (X : Cx) (H : Hp) (it : Addr) : Prop where
 n : H it = none
 l : it ≠ X.env.locals
 f : it ∉ X.fs
 a : X.s₀.heap.objs.size <= it
 c : ∀ x c, X.env.cells.lookup x = some c -> c ≠ it
 p : ∀ p ∈ X.pn, p.1 ≠ it
section
variable {X : Cx} {pins : Pn} {σ : St} {H : Hp} {s : Shared}
theorem ae.old (I : ae X pins σ H s) {it : Addr} (h : s.heap.objs.size <= it) : ∀ p ∈ pins, p.1 ≠ it := fun p hp z => absurd (z ▸ Heap.lt_size (I.pin p (List.mem_append_right _ hp)).1) (Nat.not_lt_of_le h)
theorem ae.two {a k : Addr} {h' : Heap} {t' : Nat} {m : Str -> Option Value} (I : ae X pins σ H s) (ma : xf X H a) (mk : xf X H k) (hp : ∀ p ∈ pins, p.1 ≠ k /\ p.1 ≠ a)
  (kp : ∀ b o, b ≠ X.env.locals -> b ≠ k -> b ≠ a -> s.heap.get? b = some o -> h'.get? b = some o) (hm : s.heap.Ns X.env.locals m) (hn : h'.Ns X.env.locals m) : ae X pins σ H { s with heap := h', toks := t' } := by
 have nt : ∀ b u, H b = some u -> b ≠ X.env.locals /\ b ≠ k /\ b ≠ a := fun b u e => ⟨aO e I.free, aO e mk.n, aO e ma.n⟩
 refine I.step (g' := s.gens) (d' := s.drawn) (ch := [k, a]) (fun b hb => ?_) (fun b o n1 _ hc e _ => kp b o n1 (fun z => hc (by simp [z])) (fun z => hc (by simp [z])) e) (fun b o n1 _ hc e _ => ⟨o.slots, kp b o n1 (fun z => hc (by simp [z])) (fun z => hc (by simp [z])) e⟩) (fun _ _ _ _ n => n)
  (fun b o hc e => ?_) (fun _ _ e => e) (fun _ _ _ e => e) (fun b ps e => ⟨#[], by rw [e]; simp⟩) (fun m' hm' => by rw [hm'.eq_nsMap, <- hm.eq_nsMap]; exact hn) (fun b u e => ?_) I.bare
 ·rcases List.mem_cons.mp hb with z | z
  ·subst z
   exact ⟨.inr mk.a, mk.l, mk.c, fun p z => (List.mem_append.mp z).elim (mk.p p) fun z => (hp p z).1⟩
  ·obtain rfl : b = a := by simpa using z
   exact ⟨.inr ma.a, ma.l, ma.c, fun p z => (List.mem_append.mp z).elim (ma.p p) fun z => (hp p z).2⟩
 ·by_cases z : b = X.env.locals
  ·obtain ⟨o', _, _, q, _⟩ := id hn
   exact ⟨o', by rw [z]; exact q⟩
  ·exact ⟨o, kp b o z (fun z => hc (by simp [z])) (fun z => hc (by simp [z])) e⟩
 ·refine (I.hok b u e).stay (fun c v hc q => ?_) (fun _ q => q) fun _ _ q => q
  have z : c ≠ X.env.locals /\ c ≠ k /\ c ≠ a := by
   rcases hc with z | z
   ·rw [z]; exact nt b u e
   ·exact nt c _ z
  exact kp c v z.1 z.2.1 z.2.2 q
end
section
variable {X : Cx} {pins : Pn} {σ : St} {H : Hp} {s : Shared} {A : Around} {f : Value} {b : Bool} {vs : List Value} {kz : List Int} {kS a : Addr} {e1 : Nat} {R : PySem.Fin -> Shared -> Prop} {E : Value -> Shared -> Prop}
end
end L2
namespace L2
open PySem PySem.Spec PyProof.Rows PySem.W
def jJ (c' : Addr) (qual : Str) : Heap -> Prop := fun h => h.CodeRec (.ref c') qual
def sB (Pt : Addr) (pos : Pos) (qual : Str) (H : Hp) : Prop :=
 ∃ ps, H Pt = some (.tbl ps) /\ TriplesOk ps.toList /\ (codeAmong pos ps.toList = none ∨ ∃ c', codeAmong pos ps.toList = some (.ref c') /\ H c' = some (.ext (jJ c' qual)))
inductive hG (Pt : Addr) (pos : Pos) (qual : Str) (H : Hp) : Hp -> Prop
 | hit : hG Pt pos qual H H
 | new {ps more : Array Value} {c' : Addr} : H Pt = some (.tbl ps) -> H c' = none -> sB Pt pos qual (upd (upd H Pt (.tbl (ps ++ more))) c' (.ext (jJ c' qual))) -> hG Pt pos qual H (upd (upd H Pt (.tbl (ps ++ more))) c' (.ext (jJ c' qual)))
section
variable {X : Cx} {pins : Pn} {σ : St} {H : Hp} {s : Shared} {E : Value -> Shared -> Prop}
end
end L2
namespace L2
open PySem PySem.Spec PyProof.Rows PySem.W PySem.Calls
end L2
namespace L2
open PySem PySem.Spec PyProof.Rows
structure kK (Pt : Addr) (pos : Pos) (q : Str) (B : Bk) : Prop where
 w : B.W Pt
 t : ∀ H, B.J H -> sB Pt pos q H
 s : ∀ H H', hG Pt pos q H H' -> B.J H -> B.J H'
theorem kK.now {Pt : Addr} {pos : Pos} {q : Str} {B : Bk} (h : kK Pt pos q B) (F H : Hp) : kK Pt pos q (B.now F H) := ⟨h.w, h.t, h.s⟩
end L2
namespace L2
open PySem PySem.Spec PyProof.Rows
section
variable {P : Program} {w : World} {K : Fg} {mg : Str -> Option Value} {base : Heap}
end
end L2
namespace L2
open PySem PySem.Spec PyProof.Rows PySem.W PySem.Calls
section
variable {X : Cx}
end
end L2
namespace L2
open PySem PySem.Spec PyProof.Rows
section
variable {B : Bk} {K : Fg} {τ : TSt} {Φ : TK} {x : Kd} {ns : List Int}
end
end L2
namespace L2
open PySem PySem.Spec
section
variable {B : Bk} {τ τ' : TSt} {Φ : TK} {te ta : TE}
end
end L2
namespace L2
open PySem PySem.Spec
theorem IsL.set {K : Fg} {F : Hp} : ∀ {vs : List V} {ts : List Tr} {v : V} {t : Tr} (n : Nat), IsL K F vs ts -> Is K F v t -> IsL K F (vs.set n v) (ts.set n t)
 | _, _, _, _, _, .nil, _ => .nil
 | _, _, _, _, 0, .cons _ g, h => .cons h g
 | _, _, _, _, n + 1, .cons a g, h => .cons a (IsL.set n g h)
section
variable {B : Bk} {τ τ' : TSt} {N : TSt -> Prop} {ti : TE}
variable {Φ : TK} {te : TE}
end
end L2
namespace L2
open PySem PySem.Spec PyProof.Rows
section
variable {X : Cx}
end
section
variable {B : Bk} {τ : TSt} {Φ : TK}
end
end L2
namespace L2
open PySem PySem.Spec PyProof.Rows
section
variable {X : Cx} {x : Str} {C : Addr}
theorem bh.here {P : Program} {w : World} {H : Hp} {h : Heap} {a : Addr} {o : HO} (x : bh P w H h a o) : ∃ u, h.get? a = some u := by
 cases o with
 | lst xs => obtain ⟨_, _, _, _, e⟩ := x; exact ⟨_, e⟩
 | tup xs => obtain ⟨_, _, _, p⟩ := x; obtain ⟨_, e⟩ := p; exact ⟨_, e.1⟩
 | dK kvs => obtain ⟨_, _, _, _, o, _, _, e, _⟩ := x; exact ⟨_, e⟩
 | dT kvs => obtain ⟨_, _, _, _, o, _, _, e, _⟩ := x; exact ⟨_, e⟩
 | set S n => obtain ⟨o, _, _, _, e, _⟩ := x; exact ⟨_, e⟩
 | ins C dx fs => obtain ⟨_, _, _, e, _⟩ := x; exact ⟨_, e⟩
 | own y => obtain ⟨_, e⟩ := x; exact ⟨_, e⟩
 | xd fs => obtain ⟨_, ⟨_, _, _, e, _⟩, _⟩ := x; exact ⟨_, e⟩
 | rng lo hi => obtain ⟨_, _, _, e⟩ := x; exact ⟨_, e⟩
 | frz ob u => obtain ⟨e, _⟩ := x; exact ⟨_, e⟩
 | tbl ps => exact ⟨_, (show h.get? a = some _ from x)⟩
 | met f y => exact ⟨_, (show h.get? a = some _ from x)⟩
 | ext φ => obtain ⟨_, ⟨_, e⟩, _⟩ := x; exact ⟨_, e⟩
variable {p pos : Pos} {e0 : Expr} {es : List Expr} {t : TA}
end
end L2
namespace PySem
open Sem (wp)
section
open PySem.W
variable {prog : Program} {w : World} {A : Around} {h : Heap} {g : Array GenState} {d : Drawn} {t : Nat} {os : OsState} {E : Value -> Shared -> Prop}
variable {nm q : Str} {C N fI : Addr} {bs bm bmB : List Value} {hdct : Bool} {sn : List Str} {sub : List Value} {ab : Bool} {col : Option Bool} {dd : Option Addr} {k0 k1 k2 k3 k5 : Option Value} {B Bn newId nid initId inN : String} {bmN : List Value}
end
end PySem
namespace L2
open PySem PySem.Spec PyProof.Rows
section
open PySem.W PySem.Calls PySem.Builtin PySem.Builtin.ObjectAttr
variable {prog : Program} {w : World} {A : Around} {E : Value -> Shared -> Prop} {s : Shared} {K : Frag} {a C : Addr} {oe : Obj}
end
end L2
namespace L2
open PySem PySem.Spec PyProof.Rows
section
variable {P : Program} {w : World} {H : Hp} {h : Heap} {a C dx t : Addr} {oe : Obj} {vs : Array Value}
end
section
variable {X : Cx} {pins : Pn} {σ : St} {H : Hp} {s : Shared}
end
section
variable {X : Cx} {k : Nat} {C fI : Addr} {fd : FuncData} {f : Str}
end
end L2
namespace L2
open PySem PySem.Spec PyProof.Rows
section
variable {X : Cx} {x : Str} {C fI : Addr} {r : List V -> Hp -> VK -> Prop} {p pos : Pos} {e0 : Expr} {es : List Expr} {t : TA}
end
section
variable {X : Cx} {k : Nat} {f : Addr} {fd : FuncData} {ps : List Str} {sp : Sp} {dvs : List V} {ds : List Value} {fx cx n : Str} {p cpos epos np hpos pos : Pos} {e : Expr} {es : List Expr} {t : TA} {T C : Addr} {b0 : Stmt} {suite : List Stmt} {ts : Addr -> TS} {j : Nat}
end
end L2
namespace PySem
section
variable {M : Model} {A : Around} {E : Value -> Shared -> Prop} {s : Shared} {env : Env}
variable {nm q : Str} {C N : Addr} {bs bm : List Value} {hdct : Bool} {sn : List Str} {sub : List Value} {ab : Bool} {col : Option Bool} {dd : Option Addr} {k0 k1 k2 k3 k5 : Option Value} {newId : String}
end
end PySem
namespace L2
open PySem PySem.Spec PyProof.Rows
section
variable {P : Program} {w : World} {K : Fg} {mg : Str -> Option Value} {base : Heap} {N : List Str} {qual : Str} {scope : Scope} {f : Addr} {cd : Value} {A : Around} {outer : List Env} {s : Shared} {H : Hp} {E : XK}
 {pins : Pn} {σ : St} {H1 : Hp} {s1 : Shared} {a C dx : Addr} {fld : Str} {v : V}
end
section
variable {X : Cx} {k : Nat} {C fI : Addr} {fd : FuncData} {f : Str}
variable {E : XK} {x : Str} {np cpos pos : Pos} {e0 : Expr} {es : List Expr} {t : TA}
end
end L2
namespace PySem
section
variable {M : Model} {A : Around} {E : Value -> Shared -> Prop} {s : Shared} {base : Heap} {env : Env} {outer l : List Env} {L e : Addr} {cls : Value} {dx : Option Addr} {Q : Unit -> Shared -> Prop}
def Heap.StX (h base : Heap) (e : Addr) (cls : Value) (dx : Option Addr) (L : Addr) : Prop :=
 (∃ (x : Obj) (vs : Array Value), h.get? e = some x /\ (x.cls = cls /\ x.dict = dx /\ (dx = none -> vs[2]? = some .none)) /\ x.data = .fields vs /\ vs[1]? = some .none) ∨ h.TrX base e cls dx .none ∨ h.TrX base e cls dx (rawInt L)
end
end PySem
namespace L2
open PySem PySem.Spec PyProof.Rows
structure Way (X : Cx) (H' : Hp) (B : Heap) (a : Addr) (s' : Shared) : Prop where
 os : s'.os = X.s₀.os
 bare : AllBare s'.gens
 hok : eP X.prog X.w H' B
 st : B.StaysIn s'.heap
 na : B.get? a = none
 ff : s'.heap.FunFrames B X.stack
 un : Un (gB X.outer) [] X.H₀ H' X.s₀.heap s'.heap
 kU : ∀ b o, X.s₀.heap.get? b = some o -> X.H₀ b = none -> b ∉ gB X.outer -> B.get? b = some o
 kT : ∀ b o, X.s₀.heap.get? b = some o -> b ∉ gB X.outer -> ∃ o', B.get? b = some o'
def XeS (X : Cx) (E : XK) : Value -> Shared -> Prop := fun e s' => ∃ (a C : Addr) (dx : Option Addr) (H' : Hp) (B : Heap), e = .ref a /\ Way X H' B a s' /\ s'.heap.StX B a (.ref C) dx X.env.locals /\ E (.ref C) dx H'
section
variable {X : Cx} {E : XK} {H' : Hp} {B h2 : Heap} {a : Addr} {s' : Shared} {cls : Value} {dx : Option Addr} {fl : Value}
end
section
variable {P : Program} {w : World} {K : Fg} {mg : Str -> Option Value} {base : Heap} {N : List Str} {qual : Str} {scope : Scope} {f : Addr} {cd : Value} {A : Around} {outer : List Env} {s : Shared} {H : Hp} {E : XK}
abbrev cxS (P : Program) (w : World) (K : Fg) (mg : Str -> Option Value) (base : Heap) (N : List Str) (qual : Str) (scope : Scope) (f : Addr) (cd : Value) (A : Around) (outer : List Env) (s : Shared) (H : Hp) (E : XK) : Cx :=
 (iQ (CXe P w) P w K mg base N qual scope f cd A outer s H E).wish (XeS (iQ (CXe P w) P w K mg base N qual scope f cd A outer s H E) E)
end
section
variable {P : Program} {w : World} {K : Fg} {mg : Str -> Option Value} {base : Heap} {N : List Str} {qual : Str} {scope : Scope} {f : Addr} {cd : Value} {A : Around} {outer : List Env} {s : Shared} {H : Hp} {E : XK}
end
end L2
namespace PySem
section
variable {prog : Program} {w : World} {A : Around} {E : Value -> Shared -> Prop} {s : Shared} {env : Env}
variable {nm q : Str} {C N : Addr} {bs bm : List Value} {hdct : Bool} {sn : List Str} {sub : List Value} {ab : Bool} {col : Option Bool} {dd : Option Addr} {k0 k1 k2 k3 k5 : Option Value} {newId : String}
end
end PySem
namespace L2
open PySem PySem.Spec PyProof.Rows
section
variable {X : Cx} {k : Nat} {C fI : Addr} {fd : FuncData} {f : Str}
end
section
variable {P : Program} {w : World} {K : Fg} {mg : Str -> Option Value} {base : Heap} {N : List Str} {qual : Str} {scope : Scope} {f : Addr} {cd : Value} {A : Around} {outer : List Env} {s : Shared} {H : Hp} {E : XK}
end
section
variable {X : Cx} {k k2 : Nat} {f fI : Addr} {fd fd2 : FuncData} {ps : List Str} {sp : Sp} {dvs : List V} {ds : List Value} {fx x c1 c2 cx : Str} {p cpos px apos q1 q2 tpos np c2pos kpos rpos spos hpos pos : Pos} {e : Expr} {es : List Expr} {t : TA} {T1 T2 C : Addr} {i : Nat} {E : XK} {fld : Str} {tx n1 n2 : Nat}
end
end L2
namespace L2
open PySem PySem.Spec PyProof.Rows
section
variable {X : Cx} {pins : Pn} {σ : St} {H : Hp} {s : Shared}
end
section
variable {X : Cx} {pins : Pn} {σ : St} {H : Hp} {s s' : Shared} {E : XK} {ex : Value} {x n : Str} {T C : Addr} {np hpos : Pos} {b0 : Stmt} {suite : List Stmt} {ts : Addr -> TS} {D : cP} {j : Nat}
end
section
variable {X : Cx} {k : Nat} {f : Addr} {fd : FuncData} {ps : List Str} {sp : Sp} {dvs : List V} {ds : List Value} {fx cx n : Str} {p cpos epos np hpos pos : Pos} {e : Expr} {es : List Expr} {t : TA} {T C : Addr} {b0 : Stmt} {suite : List Stmt} {ts : Addr -> TS} {j : Nat}
end
end L2
namespace L2
open PySem PySem.Spec PyProof.Rows PySem.SeqAt
section
end
section
variable {X : Cx}
def PsL (K : Fg) (H : Hp) (ps : List V) (cs : List (List Str)) : Prop := ps.length = cs.length /\ ∀ (j : Nat) (v : V) (c : List Str), ps[j]? = some v -> cs[j]? = some c -> ∃ r, v = .ref r /\ aH K H r (c.map V.str)
def zj (K : Fg) : R2 := fun x y H Q => ∃ (p q : Addr) (ps : List V) (zs : List Str) (cs : List (List Str)), x = .ref p /\ y = .ref q /\ aH K H p (zs.map V.str) /\ ak K H q ps /\ PsL K H ps cs /\ Q (.bl (!decide (zs ∈ cs))) H
theorem fQ : ∀ {xs ys : List Str}, xs.map V.str = ys.map V.str -> xs = ys
 | [], [], _ => rfl
 | [], _ :: _, h => by cases h
 | _ :: _, [], h => by cases h
 | x :: xs, y :: ys, h => by
  rw [List.map_cons, List.map_cons] at h
  injection h with h1 h2
  injection h1 with h1
  rw [h1, fQ h2]
theorem pB {c zs : List Str} : ((List.range (min c.length zs.length)).all (fun j => decide (c[j]? = zs[j]?)) && c.length == zs.length) = decide (c = zs) := by
 by_cases h : c = zs
 ·subst h
  rw [decide_eq_true rfl]
  simp
 ·rw [decide_eq_false h, Bool.and_eq_false_iff]
  by_cases hl : c.length = zs.length
  ·refine .inl ?_
   cases ha : (List.range (min c.length zs.length)).all (fun j => decide (c[j]? = zs[j]?)) with
   | false => rfl
   | true =>
    refine absurd (List.ext_getElem? fun i => ?_) h
    rcases Nat.lt_or_ge i c.length with k | k
    ·exact of_decide_eq_true (List.all_eq_true.mp ha i (List.mem_range.mpr (by omega)))
    ·rw [List.getElem?_eq_none k, List.getElem?_eq_none (by omega)]
  ·exact .inr (by simpa using hl)
theorem ae.eqStrs {pins : Pn} {σ : St} {H : Hp} {s : Shared} (I : ae X pins σ H s) {A : Around} {r p : Addr} {c zs : List Str} (hu : A.units < cLine) (hr : aH X.K H r (c.map V.str)) (hp : aH X.K H p (zs.map V.str)) : EqAt A s (.ref r) (.ref p) (decide (c = zs)) := by
 by_cases e : r = p
 ·subst e
  have : c = zs := fQ (I.tuple_inj hr hp)
  rw [decide_eq_true this]
  exact EqAt.same _
 refine EqAt.of_refs e ?_
 obtain ⟨its, v1, p1, _⟩ := I.tuple hr
 obtain ⟨its2, v2, p2, _⟩ := I.tuple hp
 have l1 := v1.length
 have l2 := v2.length
 rw [List.length_map] at l1 l2
 have key := RcAt.tuples (A := A) (s := s) (l := r) (b := p) (items := its.toArray) (items2 := its2.toArray) (e := fun j => decide (c[j]? = zs[j]?)) p1 p2 hu (fun j g1 g2 => by
  have g1' : j < its.length := by simpa using g1
  have g2' : j < its2.length := by simpa using g2
  obtain ⟨x, ex, rx⟩ := aN v1 (List.getElem?_eq_getElem g1')
  obtain ⟨y, ey, ry⟩ := aN v2 (List.getElem?_eq_getElem g2')
  have w1 : its.toArray[j] = its[j] := by simp
  have w2 : its2.toArray[j] = its2[j] := by simp
  rw [w1, w2]
  rw [List.getElem?_map] at ex ey
  obtain ⟨a, ea, rfl⟩ := Option.map_eq_some_iff.mp ex
  obtain ⟨b, eb, rfl⟩ := Option.map_eq_some_iff.mp ey
  obtain ⟨t, et⟩ := rx
  obtain ⟨t', et'⟩ := ry
  rw [ea, eb, et, et']
  have e : decide (some a = some b) = (a == b) := by
   by_cases z : a = b
   ·subst z; simp
   ·simp [z]
  rw [e]
  exact EqAt.str_str a t b t')
 have e2 : ((List.range (min its.toArray.size its2.toArray.size)).all (fun j => decide (c[j]? = zs[j]?)) && its.toArray.size == its2.toArray.size) = decide (c = zs) := by
  rw [List.size_toArray, List.size_toArray, <- l1, <- l2, pB]
 rw [e2] at key
 exact key
open Classical in
theorem wC (hu : X.A.units + 150 < cLine) : eQ X (compareOp .NotIn) (zj X.K) := by
 intro pins s σ H x y v u Q I rx ry h
 obtain ⟨p, q, ps, zs, cs, rfl, rfl, hp, hq, hP, k⟩ := h
 cases rx
 cases ry
 obtain ⟨its, r, pl, hz⟩ := I.list hq
 have rel : ∀ (j : Nat) (w : Value), its[j]? = some w -> ∃ a c, w = .ref a /\ cs[j]? = some c /\ aH X.K H a (c.map V.str) := fun j w hw => by
  obtain ⟨x, hx, rx⟩ := aN r hw
  obtain ⟨c, hc⟩ : ∃ c, cs[j]? = some c := ⟨_, List.getElem?_eq_getElem (by rw [<- hP.1]; exact (List.getElem?_eq_some_iff.mp hx).1)⟩
  obtain ⟨a, rfl, ha⟩ := hP.2 j x c hx hc
  cases rx
  exact ⟨a, c, rfl, hc, ha⟩
 let e : Value -> Bool := fun w => decide (∃ a, w = .ref a /\ aH X.K H a (zs.map V.str))
 have ev : ∀ (a : Addr) (c : List Str), aH X.K H a (c.map V.str) -> e (.ref a) = decide (c = zs) := fun a c ha => by
  show decide _ = decide _
  by_cases z : c = zs
  ·subst z
   rw [decide_eq_true rfl]
   exact decide_eq_true ⟨a, rfl, ha⟩
  ·rw [decide_eq_false z]
   exact decide_eq_false fun ⟨a', ea, ha'⟩ => z (by cases ea; exact fQ (I.tuple_inj ha ha'))
 refine SeqAt.notIn_listAt e pl.isList (fun w hw => ?_) ⟨.bl _, H, I, rfl, ?_⟩
 ·have hw : w ∈ its := by simpa using hw
  obtain ⟨j, hj⟩ := List.getElem?_of_mem hw
  obtain ⟨a, c, rfl, _, ha⟩ := rel j w hj
  rw [ev a c ha]
  exact I.eqStrs (by show X.A.units + 1 < cLine; omega) ha hp
 ·have ea : its.toArray.any e = decide (zs ∈ cs) := by
   rw [show its.toArray.any e = its.any e by simp]
   by_cases z : zs ∈ cs
   ·rw [decide_eq_true z, List.any_eq_true]
    obtain ⟨j, hj⟩ := List.getElem?_of_mem z
    have l1 := r.length
    obtain ⟨w, hw⟩ : ∃ w, its[j]? = some w := ⟨_, List.getElem?_eq_getElem (by rw [<- l1, hP.1]; exact (List.getElem?_eq_some_iff.mp hj).1)⟩
    obtain ⟨a, c, rfl, hc, ha⟩ := rel j w hw
    rw [hj] at hc
    cases hc
    exact ⟨_, List.mem_of_getElem? hw, by rw [ev a zs ha]; exact decide_eq_true rfl⟩
   ·rw [decide_eq_false z, List.any_eq_false]
    intro w hw
    obtain ⟨j, hj⟩ := List.getElem?_of_mem hw
    obtain ⟨a, c, rfl, hc, ha⟩ := rel j w hj
    rw [ev a c ha, decide_eq_false (fun h : c = zs => z (by rw [<- h]; exact List.mem_of_getElem? hc))]
    decide
  rw [ea]
  exact k
end
section
variable {B : Bk} {τ τ' : TSt} {Φ : TK} {K : Fg}
end
end L2
namespace L2
open PySem PySem.Spec PyProof.Rows
section
variable {X : Cx} {k : Nat} {f : Addr} {fd : FuncData} {ps : List Str} {sp : Sp} {fx cx n : Str} {p cpos cmpos kpos ipos np hpos pos : Pos} {e : Expr} {es : List Expr} {t : TA} {T C : Addr} {b0 : Stmt} {suite body : List Stmt} {ts : Addr -> TS} {i j : Nat} {kj}
end
end L2
namespace L2
open PySem PySem.Spec PyProof.Rows
section
variable {X : Cx}
end
end L2
namespace L2
open PySem PySem.Spec PyProof.Rows
section
variable {X : Cx} {k : Nat} {f : Bool -> Addr} {fd : Bool -> FuncData} {ps : List Str} {sp : Bool -> Sp} {fx x cx n : Str} {p cpos px apos np hpos pos : Pos} {e : Expr} {es : List Expr} {t : TA} {T C : Addr} {b0 : Stmt} {suite : List Stmt} {ts : Addr -> TS} {i0 i j : Nat}
end
end L2
namespace L2
open PySem PySem.Spec PyProof.Rows
section
variable {B : Bk} {τ : TSt} {Φ : TK} {K : Fg}
end
end L2
namespace L2
open PySem PySem.Spec PyProof.Rows
section
variable {K : Fg} {F : Hp}
end
section
variable {B : Bk} {τ : TSt} {Φ : TK} {td ty tv : TE} {nx bk ct : TSt -> Prop} {rt : Kd -> Prop}
end
end L2
namespace L2
open PySem PySem.Spec PyProof.Rows
section
variable {P : Program} {w : World} {A : Around} {E : Value -> Shared -> Prop} {s : Shared} {q1 q2 : Bool} {z ti to n1 n2 a1 a2 : Addr} {k : Nat} {us vs : Array Value} {u v c d : Value}
def yE (h : Heap) (z ti to : Addr) : Prop := ∃ (a : Nat) (b : Bool) (o : Obj), h.get? a = some o /\ h.get? z = some { cls := .type "zip", dict := none, data := .fields #[rawInt a, .bool b, .bool false, .ref ti, .ref to], slots := #[] }
def vk (h : Heap) (z ti to : Addr) : Prop := (IsZip h z ti to .none /\ ∃ c d, IsPair h to c d) ∨ yE h z ti to
def iK (h : Heap) (base : Nat) (us vs : Array Value) (ps : List Addr) : Prop := ps.Nodup /\ ∀ (j : Nat) (p : Addr), ps[j]? = some p -> base <= p /\ ∃ u v, us[j]? = some u /\ vs[j]? = some v /\ IsPair h p u v
theorem iK.at {h h' : Heap} {base : Nat} {us vs : Array Value} {ps : List Addr} (x : iK h base us vs ps) (k : ∀ b o, base <= b -> h.get? b = some o -> h'.get? b = some o) : iK h' base us vs ps := ⟨x.1, fun j p e => by
 obtain ⟨h1, u, v, h3, h4, h5⟩ := x.2 j p e
 exact ⟨h1, u, v, h3, h4, k _ _ h1 h5⟩⟩
theorem iK.new {h : Heap} {base : Nat} {us vs : Array Value} {ps : List Addr} (x : iK h base us vs ps) : h.objs.size ∉ ps := fun hm => by
 obtain ⟨j, hj, e⟩ := List.getElem_of_mem hm
 obtain ⟨_, u, v, _, _, h5⟩ := x.2 j _ (by rw [List.getElem?_eq_getElem hj, e])
 exact Nat.lt_irrefl _ (Heap.lt_size h5)
theorem iK.snoc {h : Heap} {base : Nat} {us vs : Array Value} {ps : List Addr} {p : Addr} {u v : Value} (x : iK h base us vs ps) (n : p ∉ ps) (hb : base <= p) (hu : us[ps.length]? = some u) (hv : vs[ps.length]? = some v) (hp : IsPair h p u v) : iK h base us vs (ps ++ [p]) := by
 refine ⟨List.nodup_append.mpr ⟨x.1, by simp, fun a ha b hb' e => by rw [List.mem_singleton] at hb'; exact n (by rw [<- hb', <- e]; exact ha)⟩, fun j q e => ?_⟩
 rw [List.getElem?_append] at e
 split at e
 ·exact x.2 j q e
 ·rename_i hj
  have : j = ps.length := by
   have := (List.getElem?_eq_some_iff.mp e).1
   rw [List.length_singleton] at this
   omega
  subst this
  rw [Nat.sub_self] at e
  cases e
  exact ⟨hb, u, v, hu, hv, hp⟩
theorem vk.at {h h' : Heap} {S : Addr} (x : vk h z ti to) (zS : z ≠ S) (oS : to ≠ S) (hS : ∃ o, h'.get? S = some o) (k : ∀ b o, b ≠ S -> h.get? b = some o -> h'.get? b = some o) : vk h' z ti to := by
 rcases x with ⟨hz, c, d, ho⟩ | ⟨a, b, o, ha, hz⟩
 ·exact .inl ⟨k _ _ zS hz, c, d, k _ _ oS ho⟩
 ·by_cases e : a = S
  ·obtain ⟨o', ho'⟩ := hS
   exact .inr ⟨a, b, o', by rw [e]; exact ho', k _ _ zS hz⟩
  ·exact .inr ⟨a, b, o, k _ _ e ha, k _ _ zS hz⟩
end
section
variable {X : Cx} {pins : Pn} {σ : St} {H H0 : Hp} {s : Shared}
end
end L2
namespace L2
open PySem PySem.Spec PyProof.Rows
section
variable {X : Cx} {k : Nat} {f : Addr} {fd : FuncData} {ps : List Str} {sp : Sp} {dvs dv1 dv2 : List V} {ds ds1 ds2 : List Value} {fx x cx : Str} {p cpos px apos q cpos2 qx apos2 np hpos pos ipos : Pos} {e e2 c : Expr} {es es2 : List Expr} {t t1 t2 : TA} {tc : TT} {T : Addr} {b0 : Stmt} {suite : List Stmt} {ts : TS} {i : Nat}
end
end L2
namespace L2
open PySem PySem.Spec PyProof.Rows
section
variable {X : Cx}
end
section
variable {B : Bk} {τ : TSt} {ta tb tc : TE} {Φ : TK}
end
end L2
namespace L2
open PySem PySem.Spec PyProof.Rows
section
variable {prog : Program} {w : World} {A : Around} {R : Result -> Shared -> Prop} {I : Addr} {fp wr : List Addr} {n : Nat} {P : Nat -> Value -> Prop} {St : Nat -> Heap -> Prop} {kw : List (Str × Value)}
end
section
variable {X : Cx}
end
end L2
namespace L2
open PySem PySem.Spec PyProof.Rows
instance trDec : DecidableEq Tr := Classical.typeDecidableEq Tr
def dZ (h : Heap) : Nat -> Tr -> Value -> Prop
 | 0, t, v => match t with
  | .int i => ∃ k, v = .int i k
  | .str x => ∃ k, v = .str x k
  | _ => False
 | n + 1, t, v => match t with
  | .int i => ∃ k, v = .int i k
  | .str x => ∃ k, v = .str x k
  | .tup ts => ∃ a its, v = .ref a /\ h.IsTuple a its /\ Paired (dZ h n) ts its.toList
  | .lst ts => ∃ a its, v = .ref a /\ h.IsList a its /\ Paired (dZ h n) ts its.toList
  | _ => False
def NH (w : World) : Nat -> Tr -> Int
 | 0, t => match t with
  | .int i => hashInt i
  | .str x => hashStr w x
  | _ => 0
 | n + 1, t => match t with
  | .int i => hashInt i
  | .str x => hashStr w x
  | .tup ts => reduceHash (Builtin.Tuple.tupleHashOf (ts.map (NH w n)))
  | _ => 0
def ND : Nat -> Tr -> Nat
 | 0, _ => 1
 | n + 1, t => match t with
  | .tup ts => (ts.map (ND n)).sum + 1
  | _ => 1
def aF : Nat -> Tr -> Bool
 | 0, t => match t with
  | .int _ => true
  | .str _ => true
  | _ => false
 | n + 1, t => match t with
  | .int _ => true
  | .str _ => true
  | .tup ts => ts.all (aF n)
  | _ => false
theorem bP {α β : Type} {F : α -> β -> Prop} (f : ∀ x y v, F x v -> F y v -> x = y) : ∀ {xs ys : List α} {vs : List β}, Paired F xs vs -> Paired F ys vs -> xs = ys
 | _, _, _, .nil, .nil => rfl
 | _, _, _, .cons a r, .cons b s => by rw [f _ _ _ a b, bP f r s]
theorem aj {h : Heap} {n : Nat} {t : Tr} {v : Value} (q : dZ h n t v) : (∃ i k, t = .int i /\ v = .int i k) ∨ (∃ x k, t = .str x /\ v = .str x k) ∨ (∃ m ts a its, n = m + 1 /\ t = .tup ts /\ v = .ref a /\ h.IsTuple a its /\ Paired (dZ h m) ts its.toList) ∨ ∃ m ts a its, n = m + 1 /\ t = .lst ts /\ v = .ref a /\ h.IsList a its /\ Paired (dZ h m) ts its.toList := by
 cases n with
 | zero =>
  cases t with
  | int i => obtain ⟨k, e⟩ := q; exact .inl ⟨i, k, rfl, e⟩
  | str x => obtain ⟨k, e⟩ := q; exact .inr (.inl ⟨x, k, rfl, e⟩)
  | _ => exact False.elim q
 | succ m =>
  cases t with
  | int i => obtain ⟨k, e⟩ := q; exact .inl ⟨i, k, rfl, e⟩
  | str x => obtain ⟨k, e⟩ := q; exact .inr (.inl ⟨x, k, rfl, e⟩)
  | tup ts => obtain ⟨a, its, e, p, r⟩ := q; exact .inr (.inr (.inl ⟨m, ts, a, its, rfl, rfl, e, p, r⟩))
  | lst ts => obtain ⟨a, its, e, p, r⟩ := q; exact .inr (.inr (.inr ⟨m, ts, a, its, rfl, rfl, e, p, r⟩))
  | _ => exact False.elim q
theorem eN {h : Heap} {a : Addr} {x y : Array Value} (hx : h.IsTuple a x) (hy : h.IsTuple a y) : x = y := by
 obtain ⟨o, e, _, n, d⟩ := hx
 obtain ⟨o', e', _, n', d'⟩ := hy
 rw [e] at e'; cases e'
 rw [d] at d'; injection d'
theorem fN {h : Heap} {a : Addr} {x y : Array Value} (hx : h.IsList a x) (hy : h.IsList a y) : x = y := by
 obtain ⟨o, e, _, n, d⟩ := hx
 obtain ⟨o', e', _, n', d'⟩ := hy
 rw [e] at e'; cases e'
 rw [d] at d'; injection d'
theorem ji {h : Heap} {a : Addr} {x y : Array Value} (hx : h.IsTuple a x) (hy : h.IsList a y) : False := by
 obtain ⟨o, e, c, _⟩ := hx
 obtain ⟨o', e', c', _⟩ := hy
 rw [e] at e'; cases e'
 rw [c] at c'; injection c' with z; exact absurd z (by decide)
theorem gN {h : Heap} : ∀ {n : Nat} {x y : Tr} {v : Value}, dZ h n x v -> dZ h n y v -> x = y := by
 intro n
 induction n with
 | zero =>
  intro x y v hx hy
  rcases aj hx with ⟨i, k, rfl, rfl⟩ | ⟨i, k, rfl, rfl⟩ | ⟨m, _, _, _, e, _⟩ | ⟨m, _, _, _, e, _⟩
  ·rcases aj hy with ⟨j, l, rfl, e⟩ | ⟨j, l, rfl, e⟩ | ⟨m, _, _, _, e, _⟩ | ⟨m, _, _, _, e, _⟩ <;> cases e
   rfl
  ·rcases aj hy with ⟨j, l, rfl, e⟩ | ⟨j, l, rfl, e⟩ | ⟨m, _, _, _, e, _⟩ | ⟨m, _, _, _, e, _⟩ <;> cases e
   rfl
  ·cases e
  ·cases e
 | succ n ih =>
  intro x y v hx hy
  rcases aj hx with ⟨i, k, rfl, rfl⟩ | ⟨i, k, rfl, rfl⟩ | ⟨m, ts, a, its, e0, rfl, rfl, p, r⟩ | ⟨m, ts, a, its, e0, rfl, rfl, p, r⟩
  ·rcases aj hy with ⟨j, l, rfl, e⟩ | ⟨j, l, rfl, e⟩ | ⟨m, _, _, _, _, _, e, _⟩ | ⟨m, _, _, _, _, _, e, _⟩ <;> cases e
   rfl
  ·rcases aj hy with ⟨j, l, rfl, e⟩ | ⟨j, l, rfl, e⟩ | ⟨m, _, _, _, _, _, e, _⟩ | ⟨m, _, _, _, _, _, e, _⟩ <;> cases e
   rfl
  ·rcases aj hy with ⟨j, l, rfl, e⟩ | ⟨j, l, rfl, e⟩ | ⟨m', us, b, jts, e1, rfl, e, p', r'⟩ | ⟨m', us, b, jts, e1, rfl, e, p', r'⟩
   ·cases e
   ·cases e
   ·cases e; cases e0; cases e1
    rw [eN p' p] at r'
    rw [bP (F := dZ h n) (fun _ _ _ p q => ih p q) r r']
   ·cases e; exact (ji p p').elim
  ·rcases aj hy with ⟨j, l, rfl, e⟩ | ⟨j, l, rfl, e⟩ | ⟨m', us, b, jts, e1, rfl, e, p', r'⟩ | ⟨m', us, b, jts, e1, rfl, e, p', r'⟩
   ·cases e
   ·cases e
   ·cases e; exact (ji p' p).elim
   ·cases e; cases e0; cases e1
    rw [fN p' p] at r'
    rw [bP (F := dZ h n) (fun _ _ _ p q => ih p q) r r']
theorem fj {α β : Type} {F G : α -> β -> Prop} {c : α -> Bool} (f : ∀ x v, c x = true -> F x v -> G x v) : ∀ {xs : List α} {vs : List β}, xs.all c = true -> Paired F xs vs -> Paired G xs vs
 | _, _, _, .nil => .nil
 | _, _, k, .cons a r => by
  rw [List.all_cons, Bool.and_eq_true] at k
  exact .cons (f _ _ k.1 a) (fj f k.2 r)
theorem nY {h h' : Heap} (k : ∀ b its, h.IsTuple b its -> h'.IsTuple b its) : ∀ {n : Nat} {t : Tr} {v : Value}, aF n t = true -> dZ h n t v -> dZ h' n t v := by
 intro n
 induction n with
 | zero => intro t v _ q; cases t <;> exact q
 | succ n ih =>
  intro t v kt q
  cases t with
  | tup ts =>
   obtain ⟨a, its, e, p, r⟩ := q
   refine ⟨a, its, e, k _ _ p, ?_⟩
   have kt : ts.all (aF n) = true := kt
   clear p
   generalize its.toList = us at r ⊢
   exact fj (fun x v => ih) kt r
  | lst ts => cases kt
  | _ => exact q
section
variable {prog : Program} {w : World}
theorem pL : ∀ {n : Nat} {A : Around} {E : Value -> Shared -> Prop} {s : Shared} {t : Tr} {v : Value} {Q : Int -> Shared -> Prop}, A.units + n < cLine -> aF n t = true -> dZ s.heap n t v -> Q (NH w n t) { s with toks := s.toks + ND n t } -> wpAny (model prog w) A (pyHash v) Q E s := by
 intro n
 induction n with
 | zero =>
  intro A E s t v Q hu kt hk h
  rcases aj hk with ⟨i, k, rfl, rfl⟩ | ⟨x, k, rfl, rfl⟩ | ⟨m, _, _, _, e, _⟩ | ⟨m, _, _, _, e, _⟩
  ·exact wpAny_pyHash_int h
  ·exact wpAny_pyHash_str h
  ·cases e
  ·cases e
 | succ n ih =>
  intro A E s t v Q hu kt hk h
  rcases aj hk with ⟨i, k, rfl, rfl⟩ | ⟨x, k, rfl, rfl⟩ | ⟨m, ts, a, its, e, rfl, rfl, p, r⟩ | ⟨m, ts, a, its, e, rfl, rfl, p, r⟩
  ·exact wpAny_pyHash_int h
  ·exact wpAny_pyHash_str h
  rotate_left
  ·cases kt
  ·cases e
   obtain ⟨o, ho, hc, m, hd⟩ := p
   have kt : ts.all (aF n) = true := kt
   have hT : s.TypeIs (.ref a) "tuple" := ⟨o, ho, hc⟩
   unfold pyHash
   first | unfold pyHashByItsType | skip
   first | refine wpAny_bind (wpAny_cRoomFor_or (.inr (by omega)) ?_) | skip
   refine wpAny_bind (wpAny_specialOf hT PySem.F.slot_tuple_hash.lookup ?_)
   show wpAny _ _ (if (some (Value.builtin "tuple.__hash__") == some Value.none) = true then _ else _) Q E s
   rw [if_neg (by rw [beq_builtin_none]; exact Bool.false_ne_true)]
   refine wpAny_bind (wpAny_specialOf hT PySem.F.slot_tuple_hash.lookup ?_)
   show wpAny _ _ (callSpecialIfBoundUnlessNone? (.ref a) "__hash__" _ >>= _) Q E s
   refine wpAny_bind (wpAny_callSpecialIfBoundUnlessNone?_slot hT PySem.F.slot_tuple_hash (wpAny_call_entry PySem.F.slot_tuple_hash hT PySem.F.entry_tuple_hash ?_ (PySem.F.args_tuple_hash_1 _)))
   show wpAny _ _ (Builtin.Tuple.tupleItemsOf (.ref a) >>= _) _ _ s
   refine wpAny_bind (wpAny_tupleItemsOf ho hd ?_)
   refine wpAny_bind ?_
   rw [<- Array.forIn_toList]
   refine wpAny_forIn_list _
    (fun db (b : Array Int) s' => ∃ done left, ts = done ++ left /\ left.all (aF n) = true /\ Paired (dZ s.heap n) left db /\ b.toList = done.map (NH w n) /\ s' = { s with toks := s.toks + (done.map (ND n)).sum })
    _ ?_ ?_ _ _ ⟨[], ts, rfl, kt, r, rfl, rfl⟩
   ·rintro x db b s' ⟨done, left, rfl, kl, hl, hb, rfl⟩
    cases hl with
    | @cons k _ ks' _ h1 hl' =>
     rw [List.all_cons, Bool.and_eq_true] at kl
     refine wpAny_bind (ih ?_ kl.1 h1 ?_)
     ·show A.units + 1 + n < cLine; omega
     ·first
       | exact wpAny_pure ⟨done ++ [k], ks', by simp, kl.2, hl', by simp [hb], by simp [Nat.add_assoc]⟩
       | exact wpAny_bind (wpAny_pure (wpAny_pure ⟨done ++ [k], ks', by simp, kl.2, hl', by simp [hb], by simp [Nat.add_assoc]⟩))
   ·rintro b s' ⟨done, left, rfl, kl, hl, hb, rfl⟩
    cases hl
    rw [List.append_nil] at h
    show wpAny _ _ (retInt (Builtin.Tuple.tupleHashOf b.toList)) _ _ _
    rw [hb]
    refine wpAny_ret_mkInt ?_
    show wpAny _ _ (if (decide (-(2 : Int) ^ 63 <= Builtin.Tuple.tupleHashOf (done.map (NH w n))) && decide (Builtin.Tuple.tupleHashOf (done.map (NH w n)) < 2 ^ 63)) = true then _ else _) Q E _
    have h : Q (reduceHash (Builtin.Tuple.tupleHashOf (done.map (NH w n)))) { s with toks := s.toks + ((done.map (ND n)).sum + 1) } := h
    unfold reduceHash at h
    by_cases hr : (decide (-(2 : Int) ^ 63 <= Builtin.Tuple.tupleHashOf (done.map (NH w n))) && decide (Builtin.Tuple.tupleHashOf (done.map (NH w n)) < 2 ^ 63)) = true
    ·rw [if_pos hr]
     rw [if_pos hr] at h
     exact wpAny_pure (by simpa [Nat.add_assoc] using h)
    ·rw [if_neg hr]
     rw [if_neg hr] at h
     exact wpAny_bind (wpAny_rule (wpAny_pure (by simpa [Nat.add_assoc] using h)))
end
theorem nV {a b : Int} : decide (Tr.int a = Tr.int b) = (a == b) := by
 by_cases e : a = b
 ·subst e; simp
 ·rw [decide_eq_false (fun z => e (by injection z))]; exact (beq_eq_false_iff_ne.mpr e).symm
theorem oB {a b : Str} : decide (Tr.str a = Tr.str b) = (a == b) := by
 by_cases e : a = b
 ·subst e; simp
 ·rw [decide_eq_false (fun z => e (by injection z))]; exact (beq_eq_false_iff_ne.mpr e).symm
theorem cn {α β : Type} {F : α -> β -> Prop} : ∀ {xs : List α} {vs : List β} {i : Nat} {v : β}, Paired F xs vs -> vs[i]? = some v -> ∃ x, xs[i]? = some x /\ F x v
 | _, _, _, _, .nil, e => by simp at e
 | _, _, 0, _, .cons h _, e => by simp at e; subst e; exact ⟨_, rfl, h⟩
 | _, _, i + 1, v, .cons _ g, e => by
  obtain ⟨u, h1, h2⟩ := cn (i := i) (v := v) g (by simpa using e)
  exact ⟨u, by simpa using h1, h2⟩
theorem jS {ts us : List Tr} : ((List.range (min ts.length us.length)).all (fun j => decide (ts[j]? = us[j]?)) && ts.length == us.length) = decide (Tr.tup ts = Tr.tup us) := by
 by_cases e : ts = us
 ·subst e
  rw [decide_eq_true rfl, Bool.and_eq_true]
  exact ⟨List.all_eq_true.mpr fun j _ => decide_eq_true rfl, by simp⟩
 ·rw [decide_eq_false (fun z => e (by injection z)), Bool.eq_false_iff]
  intro h
  rw [Bool.and_eq_true] at h
  have hl : ts.length = us.length := by simpa using h.2
  refine e (List.ext_getElem? fun j => ?_)
  by_cases hj : j < ts.length
  ·exact of_decide_eq_true (List.all_eq_true.mp h.1 j (List.mem_range.mpr (by omega)))
  ·rw [List.getElem?_eq_none (by omega), List.getElem?_eq_none (by omega)]
theorem pz : ∀ {n : Nat} {A : Around} {s : Shared} {x y : Tr} {u v : Value}, A.units + n < cLine -> dZ s.heap n x u -> dZ s.heap n y v -> SeqAt.EqAt A s u v (decide (x = y)) := by
 intro n
 induction n with
 | zero =>
  intro A s x y u v hu hx hy
  rcases aj hx with ⟨i, k, rfl, rfl⟩ | ⟨i, k, rfl, rfl⟩ | ⟨m, _, _, _, e, _⟩ | ⟨m, _, _, _, e, _⟩
  ·rcases aj hy with ⟨j, l, rfl, rfl⟩ | ⟨j, l, rfl, rfl⟩ | ⟨m, _, _, _, e, _⟩ | ⟨m, _, _, _, e, _⟩
   ·rw [nV]; exact .int_int _ _ _ _
   ·rw [decide_eq_false nofun]; exact .int_str _ _ _ _
   ·cases e
   ·cases e
  ·rcases aj hy with ⟨j, l, rfl, rfl⟩ | ⟨j, l, rfl, rfl⟩ | ⟨m, _, _, _, e, _⟩ | ⟨m, _, _, _, e, _⟩
   ·rw [decide_eq_false nofun]; exact .str_int _ _ _ _
   ·rw [oB]; exact .str_str _ _ _ _
   ·cases e
   ·cases e
  ·cases e
  ·cases e
 | succ n ih =>
  intro A s x y u v hu hx hy
  have hu0 : A.units < cLine := by omega
  have step : ∀ {ts us : List Tr} {its jts : Array Value}, Paired (dZ s.heap n) ts its.toList -> Paired (dZ s.heap n) us jts.toList -> ts.length = its.size /\ us.length = jts.size /\ ∀ j (h1 : j < its.size) (h2 : j < jts.size), SeqAt.EqAt A.in1 s its[j] jts[j] (decide (ts[j]? = us[j]?)) := fun {ts us its jts} r r' => by
   refine ⟨by have := Paired.length r; simpa using this, by have := Paired.length r'; simpa using this, fun j h1 h2 => ?_⟩
   obtain ⟨x, ex, nx⟩ := cn r (i := j) (v := its[j]) (by simp [h1])
   obtain ⟨y, ey, ny⟩ := cn r' (i := j) (v := jts[j]) (by simp [h2])
   have := ih (A := A.in1) (show A.units + 1 + n < cLine by omega) nx ny
   rw [ex, ey]
   have e : decide (some x = some y) = decide (x = y) := by
    by_cases z : x = y
    ·subst z; simp
    ·simp [z]
   rw [e]
   exact this
  rcases aj hx with ⟨i, k, rfl, rfl⟩ | ⟨i, k, rfl, rfl⟩ | ⟨m, ts, a, its, e0, rfl, rfl, p, r⟩ | ⟨m, ts, a, its, e0, rfl, rfl, p, r⟩
  ·rcases aj hy with ⟨j, l, rfl, rfl⟩ | ⟨j, l, rfl, rfl⟩ | ⟨m, _, _, _, _, rfl, rfl, p', _⟩ | ⟨m, _, _, _, _, rfl, rfl, p', _⟩
   ·rw [nV]; exact .int_int _ _ _ _
   ·rw [decide_eq_false nofun]; exact .int_str _ _ _ _
   ·rw [decide_eq_false nofun]; exact .int_tuple _ _ p' hu0
   ·rw [decide_eq_false nofun]; exact .int_list _ _ p' hu0
  ·rcases aj hy with ⟨j, l, rfl, rfl⟩ | ⟨j, l, rfl, rfl⟩ | ⟨m, _, _, _, _, rfl, rfl, p', _⟩ | ⟨m, _, _, _, _, rfl, rfl, p', _⟩
   ·rw [decide_eq_false nofun]; exact .str_int _ _ _ _
   ·rw [oB]; exact .str_str _ _ _ _
   ·rw [decide_eq_false nofun]; exact .str_tuple _ _ p' hu0
   ·rw [decide_eq_false nofun]; exact .str_list _ _ p' hu0
  ·rcases aj hy with ⟨j, l, rfl, rfl⟩ | ⟨j, l, rfl, rfl⟩ | ⟨m', us, b, jts, e1, rfl, rfl, p', r'⟩ | ⟨m', us, b, jts, e1, rfl, rfl, p', r'⟩
   ·rw [decide_eq_false nofun]; exact .tuple_int _ _ p hu0
   ·rw [decide_eq_false nofun]; exact .tuple_str _ _ p hu0
   ·cases e0; cases e1
    by_cases hab : a = b
    ·subst hab
     rw [eN p' p] at r'
     rw [bP (F := dZ s.heap n) (fun _ _ _ p q => gN p q) r r', decide_eq_true rfl]
     exact .same _
    ·obtain ⟨l1, l2, st⟩ := step r r'
     rw [<- jS, l1, l2]
     exact .of_refs hab (.tuples p p' hu0 st)
   ·rw [decide_eq_false nofun]; exact .tuple_list p p' hu0
  ·rcases aj hy with ⟨j, l, rfl, rfl⟩ | ⟨j, l, rfl, rfl⟩ | ⟨m', us, b, jts, e1, rfl, rfl, p', r'⟩ | ⟨m', us, b, jts, e1, rfl, rfl, p', r'⟩
   ·rw [decide_eq_false nofun]; exact .list_int _ _ p hu0
   ·rw [decide_eq_false nofun]; exact .list_str _ _ p hu0
   ·rw [decide_eq_false nofun]; exact .list_tuple p p' hu0
   ·cases e0; cases e1
    by_cases hab : a = b
    ·subst hab
     rw [fN p' p] at r'
     rw [bP (F := dZ s.heap n) (fun _ _ _ p q => gN p q) r r', decide_eq_true rfl]
     exact .same _
    ·obtain ⟨l1, l2, st⟩ := step r r'
     have el : decide (Tr.lst ts = Tr.lst us) = decide (Tr.tup ts = Tr.tup us) := by
      by_cases z : ts = us
      ·subst z; simp
      ·rw [decide_eq_false (fun q => z (by injection q)), decide_eq_false (fun q => z (by injection q))]
     rw [el, <- jS, l1, l2]
     by_cases hz : its.size = jts.size
     ·rw [hz, Nat.min_self, beq_self_eq_true, Bool.and_true, <- hz]
      exact .of_refs hab (.lists p p' hz hu0 st)
     ·rw [beq_eq_false_iff_ne.mpr hz, Bool.and_false]
      exact .of_refs hab (.lists_lengths p p' (by simpa using hz) hu0)
section
variable {prog : Program} {w : World}
theorem mO : ∀ {n m : Nat} {A : Around} {E : Value -> Shared -> Prop} {s : Shared} {t : Tr} {v : Value} {Q : Bool -> Shared -> Prop}, n <= m -> aF n t = true -> dZ s.heap n t v -> Q true s -> wpAny (model prog w) A (eqIsQuiet m v) Q E s := by
 intro n
 induction n with
 | zero =>
  intro m A E s t v Q hm kt hk h
  rcases aj hk with ⟨i, k, rfl, rfl⟩ | ⟨x, k, rfl, rfl⟩ | ⟨m, _, _, _, e, _⟩ | ⟨m, _, _, _, e, _⟩
  ·rw [eqIsQuiet_byValue _ rfl]; exact wpAny_pure h
  ·rw [eqIsQuiet_byValue _ rfl]; exact wpAny_pure h
  ·cases e
  ·cases e
 | succ n ih =>
  intro m A E s t v Q hm kt hk h
  rcases aj hk with ⟨i, k, rfl, rfl⟩ | ⟨x, k, rfl, rfl⟩ | ⟨n', ts, a, its, e, rfl, rfl, p, r⟩ | ⟨n', ts, a, its, e, rfl, rfl, p, r⟩
  ·rw [eqIsQuiet_byValue _ rfl]; exact wpAny_pure h
  ·rw [eqIsQuiet_byValue _ rfl]; exact wpAny_pure h
  rotate_left
  ·cases kt
  ·cases e
   have kt : ts.all (aF n) = true := kt
   obtain ⟨m, rfl⟩ : ∃ k, m = k + 1 := ⟨m - 1, by omega⟩
   obtain ⟨o, ho, hc, _, hd⟩ := p
   have hT : s.TypeIs (.ref a) "tuple" := ⟨o, ho, hc⟩
   unfold eqIsQuiet
   refine wpAny_bind (wpAny_specialOf hT PySem.F.slot_tuple_eq.lookup ?_)
   show wpAny _ _ (isInstance (.ref a) (.type "tuple") >>= _) _ _ s
   refine wpAny_bind (wpAny_isInstance hT isSubtype_tuple_tuple ?_)
   simp only [Bool.not_true, Bool.false_eq_true, if_false]
   refine wpAny_bind (wpAny_seqItems ho hd ?_)
   refine wpAny_bind ?_
   show wpAny _ _ (forIn its _ _) _ _ s
   rw [<- Array.forIn_toList]
   refine wpAny_forIn_list _ (fun db r s' => r.1 = none /\ s' = s /\ ∃ left, left.all (aF n) = true /\ Paired (dZ s.heap n) left db) _ ?_ ?_ _ _ ⟨rfl, rfl, ts, kt, r⟩
   ·rintro v db r s' ⟨hr, rfl, left, kl, hall⟩
    cases hall with
    | cons h1 h2 =>
     rw [List.all_cons, Bool.and_eq_true] at kl
     refine wpAny_bind (ih (by omega) kl.1 h1 ?_)
     simp only [Bool.not_true, Bool.false_eq_true, if_false]
     exact wpAny_pure ⟨rfl, rfl, _, kl.2, h2⟩
   ·rintro ⟨r1, r2⟩ s' ⟨hr, rfl, _⟩
    simp only at hr
    subst hr
    exact wpAny_pure h
end
def bT (prog : Program) (w : World) : HeapKind prog w Tr where
 is := fun h t a => dZ h 6 t (.ref a) /\ aF 6 t = true
 hash := NH w 6
 draws := ND 6
 room := fun A => A.units + 6 < cLine
 inj := fun x y => gN x.1 y.1
 keeps := fun {h h' k a d o es ep} x ho hd hs => ⟨nY (fun b its p => by
  obtain ⟨ob, e, c, n, e2⟩ := p
  refine ⟨ob, (hs.2 b ?_).trans e, c, n, e2⟩
  rintro rfl
  rw [ho] at e; cases e
  rw [hd] at e2; cases e2) x.2 x.1, x.2⟩
 pyHash := fun hu hk h => pL hu hk.2 hk.1 h
 eqBool := fun {A E s x y a b Q} hu hx hy h => pz hu hx.1 hy.1 _ _ _ _ h
 quiet := fun hk h => mO (by decide) hk.2 hk.1 h
end L2
namespace L2
open PySem PySem.Spec PyProof.Rows
structure gE (h : Heap) (d : Addr) (es : Array DictEntry) (ep : Nat) : Prop where
 ex : ∃ o, h.get? d = some o /\ o.ExactDict /\ o.data = .dict es ep
theorem gE.ty {s : Shared} {d : Addr} {es : Array DictEntry} {ep : Nat} (x : gE s.heap d es ep) : s.TypeIs (.ref d) "dict" := let ⟨o, e, c, _⟩ := x.ex; ⟨o, e, c.1⟩
theorem gE.to {h h' : Heap} {d : Addr} {es : Array DictEntry} {ep : Nat} (x : gE h d es ep) (k : ∀ o, h.get? d = some o -> h'.get? d = some o) : gE h' d es ep := let ⟨o, e, r⟩ := x.ex; ⟨o, k o e, r⟩
section
variable {prog : Program} {w : World} {A : Around} {E : Value -> Shared -> Prop} {s : Shared} {d it : Addr} {es : Array DictEntry} {ep i : Nat}
theorem pj {Q : Value -> Shared -> Prop} (hd : (d == sysModules) = false) (hm : gE s.heap d es ep)
  (q : ∀ h', (∀ b o, s.heap.get? b = some o -> h'.get? b = some o) -> h'.IsKeyIter s.heap.objs.size d 0 es.size ep -> Q (.ref s.heap.objs.size) { s with heap := h' }) : wpAny (model prog w) A (pyIter (.ref d)) Q E s := by
 have hT := hm.ty
 obtain ⟨o, ho, hc, hdat⟩ := hm.ex
 refine wpAny_pyIter_slot hT PySem.F.slot_dict_iter (wpAny_call_entry PySem.F.slot_dict_iter hT PySem.F.entry_dict_iter ?_ (PySem.F.args_dict_iter_1 _))
 unfold Builtin.«dict.__iter__»
 refine wpAny_bind ?_
 unfold Builtin.Dict.dictSlotNone
 refine wpAny_bind (wpAny_notOrdered_dict hT (show wpAny _ _ (pure (Value.ref d)) _ _ s from wpAny_pure ?_))
 show wpAny _ _ (Builtin.Dict.showsAll d >>= _) _ _ s
 unfold Builtin.Dict.showsAll
 rw [hd, if_neg Bool.false_ne_true]
 refine wpAny_bind (wpAny_pure (wpAny_bind (wpAny_dictEntries ho hdat (wpAny_bind (wpAny_dictEpoch ho hdat ?_)))))
 refine wpAny_bind (wpAny_newObj_type (wpAny_pure ⟨_, rfl, "dict_keyiterator", _, ⟨_, Heap.get?_push_size _ rfl, rfl⟩, PySem.F.slot_dict_keyiterator_next.lookup, ?_⟩))
 exact q _ (fun _ _ e => Heap.get?_push_of_some _ e) ⟨_, Heap.get?_push_size _ rfl, rfl, rfl⟩
theorem rh {e : DictEntry} {Q : Option Value -> Shared -> Prop} (hit : s.heap.IsKeyIter it d i es.size ep) (hm : gE s.heap d es ep) (hx : es[i]? = some e)
  (q : ∀ h', h'.IsKeyIter it d (i + 1) es.size ep -> Heap.SameBut it s.heap h' -> Q (some e.key) { s with heap := h' }) : wpAny (model prog w) A (pyNext (.ref it)) Q E s := by
 obtain ⟨o, ho, hc, hd⟩ := id hit
 obtain ⟨od, hod, hcd, hdd⟩ := hm.ex
 have hown : Builtin.Dict_items.ownsTuple "dict_keyiterator" = false := by decide
 obtain ⟨hlt, rfl⟩ := Array.getElem?_eq_some_iff.mp hx
 unfold pyNext
 refine wpAny_bind (wpAny_attempt (wpAny_callSpecial?_slot (name := Str.ofString "__next__") hit.typeIs PySem.F.slot_dict_keyiterator_next
  (wpAny_call_entry PySem.F.slot_dict_keyiterator_next hit.typeIs PySem.F.entry_dict_keyiterator_next (wpAny_bind (wpAny_pure (wpAny_bind (wpAny_bind ?_)))) (PySem.F.args_dict_keyiterator_next_1 _))))
 first | refine wpAny_bind (wpAny_typeNameOfWhole_keyiter hit.typeIs (wpAny_pure ?_)) | refine wpAny_bind (wpAny_typeNameOf_keyiter hit.typeIs (wpAny_pure ?_))
 refine wpAny_bind (wpAny_fieldsOf ho hd ?_)
 simp only [hown, Bool.false_eq_true, if_false]
 show wpAny _ _ (if (Value.ref d == Value.none) = true then _ else _) _ _ s
 rw [if_neg (show ¬ ((Value.ref d == Value.none) = true) from Bool.false_ne_true)]
 refine wpAny_bind (wpAny_pure (wpAny_bind (wpAny_dictEntries hod hdd ?_)))
 rw [if_neg (by simp)]
 refine wpAny_bind (wpAny_pure (wpAny_bind (wpAny_dictEpoch hod hdd ?_)))
 rw [if_neg (by simp)]
 refine wpAny_pure ?_
 simp only [show ¬ ((i : Int) < 0) from by omega, if_false, Int.toNat_natCast, Array.getElem?_eq_getElem hlt]
 refine wpAny_bind ?_
 first | refine wpAny_bind (wpAny_typeNameOfWhole_keyiter hit.typeIs (wpAny_pure ?_)) | refine wpAny_bind (wpAny_typeNameOf_keyiter hit.typeIs (wpAny_pure ?_))
 refine wpAny_bind (wpAny_isOneOf_keyiter hit.typeIs (show wpAny _ _ (setField (.ref it) 1 (rawInt ((i : Int) + 1)) >>= _) _ _ s from wpAny_bind (wpAny_setField ho hd (by simp) ?_)))
 have hit' : (s.heap.update it (Obj.mapFields (·.setIfInBounds 1 (rawInt ((i : Int) + 1))))).IsKeyIter it d (i + 1) es.size ep :=
  ⟨_, Heap.get?_update_self _ ho (Obj.isFreed_of_fields (Obj.data_mapFields hd _)), (Obj.cls_mapFields ..).trans hc, by rw [Obj.data_mapFields hd]; simp [rawInt]⟩
 refine wpAny_bind (wpAny_holding (wpAny_bind (wpAny_isOneOf_keyiter (s := { s with heap := s.heap.update it (Obj.mapFields (·.setIfInBounds 1 (rawInt ((i : Int) + 1)))) }) hit'.typeIs ?_)))
 show wpAny _ _ (pure es[i].key) _ _ _
 exact wpAny_pure (wpAny_pure ⟨_, rfl, wpAny_pure (q _ hit' (Heap.SameBut.update ..))⟩)
theorem tO {Q : Option Value -> Shared -> Prop} (hh : A.handled = none) (hit : s.heap.IsKeyIter it d i es.size ep) (hm : gE s.heap d es ep) (hx : es.size <= i)
  (q : ∀ h', Heap.ExtBut it s.heap h' -> Q none { s with heap := h' }) : wpAny (model prog w) A (pyNext (.ref it)) Q E s := by
 obtain ⟨o, ho, hc, hd⟩ := id hit
 obtain ⟨od, hod, hcd, hdd⟩ := hm.ex
 have hown : Builtin.Dict_items.ownsTuple "dict_keyiterator" = false := by decide
 unfold pyNext
 refine wpAny_bind (wpAny_attempt (wpAny_callSpecial?_slot (name := Str.ofString "__next__") hit.typeIs PySem.F.slot_dict_keyiterator_next
  (wpAny_call_entry PySem.F.slot_dict_keyiterator_next hit.typeIs PySem.F.entry_dict_keyiterator_next (wpAny_bind (wpAny_pure (wpAny_bind (wpAny_bind ?_)))) (PySem.F.args_dict_keyiterator_next_1 _))))
 first | refine wpAny_bind (wpAny_typeNameOfWhole_keyiter hit.typeIs (wpAny_pure ?_)) | refine wpAny_bind (wpAny_typeNameOf_keyiter hit.typeIs (wpAny_pure ?_))
 refine wpAny_bind (wpAny_fieldsOf ho hd ?_)
 simp only [hown, Bool.false_eq_true, if_false]
 show wpAny _ _ (if (Value.ref d == Value.none) = true then _ else _) _ _ s
 rw [if_neg (show ¬ ((Value.ref d == Value.none) = true) from Bool.false_ne_true)]
 refine wpAny_bind (wpAny_pure (wpAny_bind (wpAny_dictEntries hod hdd ?_)))
 rw [if_neg (by simp)]
 refine wpAny_bind (wpAny_pure (wpAny_bind (wpAny_dictEpoch hod hdd ?_)))
 rw [if_neg (by simp)]
 refine wpAny_pure ?_
 simp only [show ¬ ((i : Int) < 0) from by omega, if_false, Int.toNat_natCast, Array.getElem?_eq_none hx]
 refine wpAny_bind ?_
 first | refine wpAny_bind (wpAny_typeNameOfWhole_keyiter hit.typeIs (wpAny_pure ?_)) | refine wpAny_bind (wpAny_typeNameOf_keyiter hit.typeIs (wpAny_pure ?_))
 refine wpAny_bind (m := setField (.ref it) 0 .none) (wpAny_setField ho hd (by simp) (wpAny_bind ?_))
 simp only [newExc, newTuple]
 refine wpAny_bind (wpAny_newObj_type ?_ (by size_fits))
 refine wpAny_bind (m := firstArgMember _ _) (wpAny_of_eq (a := Value.none) (by first | rfl | (simp only [firstArgMember]; rfl)) ?_)
 refine wpAny_newObj_type ?_ (by size_fits)
 simp only [raiseNew]
 refine wpAny_bind (wpAny_handled ?_)
 rw [show A.in1.handled = none from hh]
 refine wpAny_bind (wpAny_pure (wpAny_throw ?_))
 refine wpAny_bind (wpAny_isInstance (T := "StopIteration") (b := true) ⟨_, Heap.get?_push_size _ rfl, rfl⟩ isSubtype_stop ?_)
 exact wpAny_pure (q _ (((Heap.SameBut.update ..).extBut.push _).push _))
end
end L2
namespace L2
open PySem PySem.Spec PyProof.Rows
abbrev KN := Tr × Addr × Addr
def dv (xs : List KN) : List (Tr × Addr × Value) := xs.map fun x => (x.1, x.2.1, .ref x.2.2)
def io (xs : List KN) (t : Tr) : Option (Addr × Addr) := (xs.find? fun x => decide (x.1 = t)).map (·.2)
theorem hR {xs : List KN} {t : Tr} : atKey (dv xs) t = (io xs t).map fun p => (p.1, Value.ref p.2) := by
 unfold atKey io dv
 induction xs with
 | nil => rfl
 | cons x r ih =>
  rw [List.map_cons, List.find?_cons, List.find?_cons]
  by_cases h : x.1 = t
  ·simp [h]
  ·simp only [h, decide_false]; exact ih
structure xt (P : Program) (w : World) (a : Addr) (xs : List KN) (es : Array DictEntry) (ep : Nat) (h : Heap) : Prop where
 z : xs.length <= sizeLine
 d : (a == sysModules) = false
 r : gE h a es ep
 e : es.toList = (dv xs).map (entryOfKey (bT P w))
 n : ((dv xs).map (·.1)).Nodup
def DN (P : Program) (w : World) (a : Addr) (xs : List KN) (es : Array DictEntry) (ep : Nat) : HO := .ext (xt P w a xs es ep)
def fV : Nat -> Tr -> Bool
 | 0, t => match t with
  | .int _ => true
  | .str _ => true
  | _ => false
 | n + 1, t => match t with
  | .int _ => true
  | .str _ => true
  | .tup ts => ts.all (fV n)
  | .lst ts => ts.all (fV n)
  | _ => false
theorem dE : ∀ {n : Nat} {t : Tr}, aF n t = true -> fV n t = true
 | 0, t, h => by cases t <;> first | rfl | cases h
 | n + 1, t, h => by
  cases t with
  | tup ts =>
   have h : ts.all (aF n) = true := h
   show ts.all (fV n) = true
   rw [List.all_eq_true] at h ⊢
   exact fun x hx => dE (h x hx)
  | int => rfl
  | str => rfl
  | _ => cases h
theorem fU {h : Heap} {n : Nat} {K : Fg} {H : Hp} (ih : ∀ {t : Tr} {v : V} {u : Value}, fV n t = true -> Is K H v t -> aw v u -> dZ h n t u) : ∀ {vs : List V} {ts : List Tr} {its : List Value}, IsL K H vs ts -> am vs its -> ts.all (fV n) = true -> Paired (dZ h n) ts its
 | _, _, _, .nil, .nil, _ => .nil
 | _, _, _, .cons a b, .cons ra rb, k => by
  rw [List.all_cons, Bool.and_eq_true] at k
  exact .cons (ih k.1 a ra) (fU ih b rb k.2)
def fJ (K : Fg) (H : Hp) (xs : List KN) : Prop := ∀ x ∈ xs, Is K H (.ref x.2.1) x.1 /\ aF 6 x.1 = true
theorem fJ.same {K : Fg} {H H' : Hp} {xs : List KN} (s : aa H H') (k : fJ K H xs) : fJ K H' xs := fun x hx => ⟨(k x hx).1.same s, (k x hx).2⟩
section
variable {X : Cx} {pins : Pn} {σ : St} {H : Hp} {s : Shared} {a : Addr}
theorem fO (I : ae X pins σ H s) : ∀ {n : Nat} {t : Tr} {v : V} {u : Value}, fV n t = true -> Is X.K H v t -> aw v u -> dZ s.heap n t u := by
 intro n
 induction n with
 | zero =>
  intro t v u k i r
  cases i with
  | int => obtain ⟨y, e⟩ := r; exact ⟨y, e⟩
  | str => obtain ⟨y, e⟩ := r; exact ⟨y, e⟩
  | _ => cases k
 | succ n ih =>
  intro t v u k i r
  cases i with
  | int => obtain ⟨y, e⟩ := r; exact ⟨y, e⟩
  | str => obtain ⟨y, e⟩ := r; exact ⟨y, e⟩
  | @tup p vs ts hp hl =>
   obtain rfl : u = Value.ref p := r
   obtain ⟨its, rv, pl, _⟩ := I.tuple hp
   have k : ts.all (fV n) = true := k
   refine ⟨p, its.toArray, rfl, pl, ?_⟩
   rw [List.toList_toArray]
   exact fU ih hl rv k
  | @lst p vs ts hp hl =>
   obtain rfl : u = Value.ref p := r
   obtain ⟨its, rv, pl, _⟩ := I.list hp
   have k : ts.all (fV n) = true := k
   refine ⟨p, its.toArray, rfl, pl.isList, ?_⟩
   rw [List.toList_toArray]
   exact fU ih hl rv k
  | _ => cases k
theorem eG {xs : List KN} {es : Array DictEntry} {ep : Nat} (I : ae X pins σ H s) (h : H a = some (DN X.prog X.w a xs es ep)) : xt X.prog X.w a xs es ep s.heap :=
 (show bh X.prog X.w H s.heap a (DN X.prog X.w a xs es ep) from I.hok a _ h).1
theorem sV {xs : List KN} {es : Array DictEntry} {ep : Nat} (I : ae X pins σ H s) (h : H a = some (DN X.prog X.w a xs es ep)) (k : fJ X.K H xs) : s.heap.DictOfH (bT X.prog X.w) a (dv xs) := by
 obtain ⟨z, hd, ⟨o, e1, e2, e3⟩, e4, e5⟩ := eG I h
 refine ⟨o, es, ep, e1, e2, e3, e4, fun x hx => ?_, e5⟩
 obtain ⟨y, hy, rfl⟩ := List.mem_map.mp hx
 exact ⟨fO I (dE (k y hy).2) (k y hy).1 rfl, (k y hy).2⟩
theorem sL {P : Program} {w : World} {h : Heap} {xs : List KN} (hz : xs.length <= sizeLine) (hd : (a == sysModules) = false) (q : h.DictOfH (bT P w) a (dv xs)) : ∃ es ep, ∀ H : Hp, bh P w H h a (DN P w a xs es ep) := by
 obtain ⟨o, es, ep, e1, e2, e3, e4, _, e5⟩ := q
 exact ⟨es, ep, fun _ => ⟨⟨hz, hd, ⟨o, e1, e2, e3⟩, e4, e5⟩, ⟨o, e1⟩, fun h1 h2 ⟨z, hd, r, e, n⟩ k => ⟨z, hd, r.to k, e, n⟩⟩⟩
theorem js {prog : Program} {w : World} {K : Type} [DecidableEq K] {knd : HeapKind prog w K} {A : Around} {E : Value -> Shared -> Prop} {s : Shared} {d a : Addr} {xs : List (K × Addr × Value)} {k : K} {v : Value} {Q : Value -> Shared -> Prop} (hu : knd.room A) (hkey : knd.is s.heap k a) (hm : s.heap.DictOfH knd d xs)
  (h1 : ∀ p, atKey xs k = some p -> Q p.2 { s with toks := s.toks + knd.draws k }) (h2 : atKey xs k = none -> ∀ h', h'.DictOfH knd d (xs ++ [(k, a, v)]) -> Heap.SameBut d s.heap h' -> Q v { s with heap := h', toks := s.toks + knd.draws k })
  (hsz : xs.length <= sizeLine) : wpAny (model prog w) A (dictSetDefault d (.ref a) v) Q E s := by
 obtain ⟨o, es, ep, ho, hc, hd, he, his, hn⟩ := hm
 unfold dictSetDefault
 try with_reducible refine wpAny_holding ?_
 refine wpAny_bind (knd.pyHash hu hkey (wpAny_bind (wpAny_dictFind_heap (s := { s with toks := s.toks + knd.draws k }) hu hkey ho hd he his hn (fun hno => ?_) fun j p hj => ?_)))
 ·have hnot : k ∉ xs.map (·.1) := not_mem_keys_of_get hno
  refine wpAny_bind (wpAny_rule (wpAny_bind (wpAny_updateDictKeys (hz := by have e := size_of_entries he; omega) (s := { s with toks := s.toks + knd.draws k }) ho hd (wpAny_pure (h2 (atKey_none_of_get hno) _ ⟨_, _, ep + 1, Heap.get?_update_self _ ho (Obj.isFreed_of_dict (Obj.data_mapDictKeys hd _)), hc.mapDictKeys _, Obj.data_mapDictKeys hd _, ?_, fun x hx => ?_, ?_⟩ (Heap.SameBut.update ..))))))
  ·simp [he, entryOfKey]
  ·rcases List.mem_append.mp hx with hx | hx
   ·exact knd.keeps (his x hx) ho hd (Heap.SameBut.update ..)
   ·obtain rfl := List.mem_singleton.mp hx
    exact knd.keeps hkey ho hd (Heap.SameBut.update ..)
  ·rw [List.map_append, List.nodup_append]
   refine ⟨hn, by simp, fun x hx y hy => ?_⟩
   obtain rfl : y = k := by simpa using hy
   exact fun e => hnot (e ▸ hx)
 ·refine wpAny_bind (wpAny_dictEntries (s := { s with toks := s.toks + knd.draws k }) ho hd ?_)
  rw [entry_at he j, hj]
  exact wpAny_bind (wpAny_rule (wpAny_pure (h1 p (atKey_of_get hn hj))))
theorem gO {prog : Program} {w : World} {K : Type} [DecidableEq K] (knd : HeapKind prog w K) (d a : Addr) (v : Value) (hd : (d == sysModules) = false) :
  MeetsIn prog w (Builtin.«dict.setdefault» ⟨[.ref d, .ref a, v], []⟩) (fun A R s => knd.room A.in1 /\ ∃ k xs, knd.is s.heap k a /\ s.heap.DictOfH knd d xs /\ xs.length <= sizeLine /\
   (∀ p, atKey xs k = some p -> R (.ok (.ret p.2)) { s with toks := s.toks + knd.draws k }) /\ (atKey xs k = none -> ∀ h', h'.DictOfH knd d (xs ++ [(k, a, v)]) -> Heap.SameBut d s.heap h' -> R (.ok (.ret v)) { s with heap := h', toks := s.toks + knd.draws k })) :=
 .of_wp fun A R s ⟨hu, k, xs, hkey, hm, hz, h1, h2⟩ => by
  unfold Builtin.«dict.setdefault»
  refine wpAny_bind ?_
  unfold Builtin.Dict.keyAndDefault
  refine wpAny_bind (wpAny_notOrdered_dict hm.typeIs (show wpAny _ _ (pure (d, Value.ref a, some v)) _ _ s from wpAny_pure ?_))
  show wpAny _ _ (if (d == sysModules) = true then _ else (dictSetDefault d (.ref a) v >>= _)) _ _ s
  rw [hd, if_neg Bool.false_ne_true]
  exact wpAny_bind (js hu hkey hm (fun p hp => wpAny_pure ⟨p.2, rfl, h1 p hp⟩) (fun hn h' hm' hs' => wpAny_pure ⟨v, rfl, h2 hn h' hm' hs'⟩) hz)
end
def wJ (K : Fg) : R2 := fun x y H Q => ∃ ts us, Is K H x (.tup ts) /\ Is K H y (.tup us) /\ ts.all (fV 6) = true /\ us.all (fV 6) = true /\ Q (.bl (decide (Tr.tup ts = Tr.tup us))) H
theorem uz {X : Cx} (hu : X.A.units + 20 < cLine) : eQ X (compareOp .Eq) (wJ X.K) := by
 intro pins s σ H x y v u Q I rx ry h
 obtain ⟨ts, us, ix, iy, kx, ky, q⟩ := h
 obtain ⟨a, its, ev, pa, ra⟩ : dZ s.heap 7 (.tup ts) v := fO I (n := 7) kx ix rx
 obtain ⟨b, jts, eu, pb, rb⟩ : dZ s.heap 7 (.tup us) u := fO I (n := 7) ky iy ry
 subst ev eu
 have l1 : ts.length = its.size := by have := Paired.length ra; simpa using this
 have l2 : us.length = jts.size := by have := Paired.length rb; simpa using this
 refine (SeqAt.RcAt.tuples (A := X.A) (s := s) (e := fun j => decide (ts[j]? = us[j]?)) pa pb (by omega) fun j h1 h2 => ?_) _ _ _ _ ⟨.bl _, H, I, ?_, q⟩
 ·obtain ⟨x, ex, nx⟩ := cn ra (i := j) (v := its[j]) (by simp [h1])
  obtain ⟨y, ey, ny⟩ := cn rb (i := j) (v := jts[j]) (by simp [h2])
  rw [ex, ey]
  have e : decide (some x = some y) = decide (x = y) := by
   by_cases z : x = y
   ·subst z; simp
   ·simp [z]
  rw [e]
  exact pz (A := X.A.in1) (show X.A.units + 1 + 6 < cLine by omega) nx ny
 ·have := jS (ts := ts) (us := us)
  rw [l1, l2] at this
  rw [this]
  rfl
def ph (P : Program) (w : World) : TE := fun _ H Q => ∀ p es ep, H p = none -> Q (.ref p) (upd H p (DN P w p [] es ep))
def sM (P : Program) (w : World) (K : Fg) (td ty tx : TE) : TE := fun σ H Q => td σ H fun x H1 => ∃ a, x = .ref a /\ (∃ xs es ep, H1 a = some (DN P w a xs es ep)) /\ ty σ H1 fun y H2 => tx σ H2 fun z H3 => ∃ xs es ep t b l, H3 a = some (DN P w a xs es ep) /\ fJ K H3 xs /\ xs.length < sizeLine /\ y = .ref b /\ Is K H3 y t /\ aF 6 t = true /\ z = .ref l /\
 (∀ p, io xs t = some p -> Q (.ref p.2) H3) /\ (io xs t = none -> ∀ es ep, Q z (upd H3 a (DN P w a (xs ++ [(t, b, l)]) es ep)))
def nZ (P : Program) (w : World) (K : Fg) (td ty : TE) : TE := fun σ H Q => td σ H fun x H1 => ty σ H1 fun y H2 => ∃ a xs es ep t b p, x = .ref a /\ H2 a = some (DN P w a xs es ep) /\ fJ K H2 xs /\ y = .ref b /\ Is K H2 y t /\ aF 6 t = true /\ io xs t = some p /\ Q (.ref p.2) H2
def Ad (P : Program) (w : World) (a : Addr) (xs : List KN) (es : Array DictEntry) (ep : Nat) : It :=
 ⟨fun i H => H a = some (DN P w a xs es ep) /\ i < xs.length, fun i H x H' => H' = H /\ ∃ k, xs[i]? = some k /\ x = .ref k.2.1, fun i H => H a = some (DN P w a xs es ep) /\ xs.length <= i⟩
def sJ (P : Program) (w : World) (td : TE) : TI := fun σ H R => td σ H fun x H1 => ∃ a xs es ep, x = .ref a /\ H1 a = some (DN P w a xs es ep) /\ R (Ad P w a xs es ep) H1
section
variable {X : Cx} {pos apos cpos : Pos} {o e f i tg : Expr} {td ty tx : TE}
theorem pd : PE X (.Dict [] [] pos) (ph X.prog X.w) := fun pins s σ H Q I h => by
 obtain ⟨es, ep, ok⟩ := sL (P := X.prog) (w := X.w) (h := s.heap.push { cls := .type "dict", data := .dict #[] }) (a := s.heap.objs.size) (xs := []) (Nat.zero_le _) (beq_eq_false_iff_ne.mpr (Ne.symm (Nat.ne_of_lt I.big))) (.new s.heap)
 exact wpAny_Dict_empty ⟨.ref s.heap.objs.size, _, I.laid (a := s.heap.objs.size) (o := DN X.prog X.w s.heap.objs.size [] es ep) (t' := s.toks) (fun _ _ q => Heap.get?_push_of_some _ q) (Nat.le_refl _) (ok _), rfl, h _ es ep (I.hok.fresh (Nat.le_refl _))⟩
theorem oN (hu : X.A.units + 20 < cLine) (ho : PE X o td) (he : PE X e ty) (hf : PE X f tx) (m : M2 X o "setdefault" apos e f cpos) : PE X (.Call (.Attribute o "setdefault" apos) [e, f] [] cpos) (sM X.prog X.w X.K td ty tx) := by
 intro pins s σ H Q I h
 refine wpAny_Call_method m.base m.few m.line PySem.F.plainAttrs_dict PySem.F.slot_dict_setdefault PySem.F.type_dict_setdefault (aV (ho pins s σ H _ I h) fun u s1 ⟨x, H1, I1, rx, a, ex, ⟨ys, es, ep, hys⟩, q1⟩ => ?_)
 subst ex
 obtain rfl : u = Value.ref a := rx
 have r := (eG I1 hys).r
 refine ⟨r.ty, fun b z => ?_, ?_⟩
 ·cases z
  obtain ⟨ob, e1, e2, _⟩ := r.ex
  exact ⟨ob, e1, e2.2.1⟩
 rw [m.trees]
 refine Calls.callWith_builtin rfl (Calls.evalArgs_plain (Calls.spliced_cons (aV (he pins s1 σ H1 _ I1 q1) fun iv s2 ⟨y, H2, I2, ry, q2⟩ =>
  Calls.spliced_cons (aV (hf pins s2 σ H2 _ I2 q2) fun fv s3 ⟨z, H3, I3, rz, xs, es, ep, t, b, l, hx, hk, hl, ey, iy, ky, ez, g1, g2⟩ => Calls.spliced_nil ?_))))
 subst ey ez
 obtain rfl : iv = Value.ref b := ry
 obtain rfl : fv = Value.ref l := rz
 have dd := sV I3 hx hk
 have hd := (eG I3 hx).d
 have hzr : (dv xs).length <= sizeLine := by unfold dv; rw [List.length_map]; exact Nat.le_of_lt hl
 refine call_meetsIn PySem.F.slot_dict_setdefault dd.typeIs PySem.F.entry_dict_setdefault (PySem.F.args_dict_setdefault_3 _ _ _) (gO (bT X.prog X.w) a b (.ref l) hd) ⟨show X.A.units + 1 + 6 < cLine by omega, t, dv xs, ⟨fO I3 (dE ky) iy rfl, ky⟩, dd, hzr, fun p hp => ?_, fun hn h' dd' hs => ?_⟩
 ·rw [hR] at hp
  obtain ⟨p', hp', rfl⟩ := Option.map_eq_some_iff.mp hp
  exact ⟨.ref p'.2, H3, I3.tok _, rfl, g1 p' hp'⟩
 ·rw [hR, Option.map_eq_none_iff] at hn
  have e : dv xs ++ [(t, b, Value.ref l)] = dv (xs ++ [(t, b, l)]) := by unfold dv; rw [List.map_append]; rfl
  rw [e] at dd'
  have ho : ∃ q, h'.get? a = some q := let ⟨q, _, _, hq, _⟩ := dd'; ⟨q, hq⟩
  obtain ⟨es', ep', ok⟩ := sL (xs := xs ++ [(t, b, l)]) (by rw [List.length_append, List.length_singleton]; omega) hd dd'
  exact ⟨.ref l, _, I3.write (x := a) (e := a) (by rw [hx]; exact True.intro) (.inl rfl) (fun c q hc z => (hs.2 c hc).trans z) ho (ok _), rfl, g2 hn es' ep'⟩
theorem jx {P : Program} {w : World} {K : Fg} (hP : X.prog = P) (hw : X.w = w) (hK : X.K = K) (hu : X.A.units + 20 < cLine) (ho : PE X o td) (hi : PE X i ty) (hs : wN i) : PE X (.Subscript o i pos) (nZ P w K td ty) := by
 subst hP hw hK
 intro pins s σ H Q I h
 refine rC PySem.F.slot_dict_getitem.lookup hs (aV (ho pins s σ H _ I h) fun u s1 ⟨x, H1, I1, rx, q1⟩ => aV (hi pins s1 σ H1 _ I1 q1) fun iv s2 ⟨y, H2, I2, ry, a, xs, es, ep, t, b, p, ex, hx, hk, ey, iy, ky, hp, q2⟩ => ?_)
 subst ex ey
 obtain rfl : u = Value.ref a := rx
 obtain rfl : iv = Value.ref b := ry
 have dd := sV I2 hx hk
 exact ⟨dd.typeIs, wpAny_getItem_heap (knd := bT X.prog X.w) (show X.A.units + 1 + 6 < cLine by omega) ⟨fO I2 (dE ky) iy rfl, ky⟩ dd (p := (p.1, .ref p.2)) (by rw [hR, hp]; rfl) ⟨.ref p.2, H2, I2.tok _, rfl, q2⟩⟩
theorem mR {P : Program} {w : World} {K : Fg} (a it : Addr) (xs : List KN) (es : Array DictEntry) (ep : Nat) (he : es.toList = (dv xs).map (entryOfKey (bT P w))) :
  mf P w K tg (Ad P w a xs es ep) [it] it (fun i h => h.IsKeyIter it a i es.size ep) where
 mem := by simp
 obj := fun i h st b hb => by
  obtain rfl : b = it := by simpa using hb
  obtain ⟨o, e, c, d⟩ := st
  exact ⟨o, e, fun v z => by rw [d] at z; cases z⟩
 keep := fun i h h' st k => st.at fun o e => k it (by simp) o e
 item := by
  intro X hP hw hK hc i pins s σ H E I hf st ⟨hg, hi⟩
  subst hP hw hK
  have r := (eG I hg).r
  obtain ⟨f0, f1, f2, f3, f4, f5⟩ := hf it (by simp)
  have ge : es[i]? = some (entryOfKey (bT X.prog X.w) (xs[i].1, xs[i].2.1, .ref xs[i].2.2)) := by
   rw [<- Array.getElem?_toList, he]
   unfold dv
   simp [List.getElem?_eq_getElem hi]
  refine rh st r ge fun h' st' sb => ?_
  have I1 : ae X pins σ H { s with heap := h' } := I.turned (t' := s.toks) (fun b o hb e => (sb.2 b hb).trans e) f0 f1 f3 f4 f5
  obtain ⟨o, e, c, d⟩ := id st'
  exact ⟨_, rfl, lh (s := { s with heap := h' }) e c d (by decide) ⟨.ref xs[i].2.1, H, I1, rfl, ⟨rfl, xs[i], List.getElem?_eq_getElem hi, rfl⟩, st', fun b hb => (hf b hb).1⟩⟩
 done := by
  intro X hP hw hK hc i pins s σ H E I hf st ⟨hg, hi⟩
  subst hP hw hK
  have r := (eG I hg).r
  obtain ⟨f0, f1, f2, f3, f4, f5⟩ := hf it (by simp)
  have hz : es.size = xs.length := by
   have := congrArg List.length he
   unfold dv at this
   simpa using this
  exact tO (I.ok.hd hc) st r (by omega) fun h' eb => ⟨rfl, I.turned (t' := s.toks) (fun b o hb e => eb b o hb e) f0 f1 f3 f4 f5⟩
 self := fun _ _ _ _ _ st h => wpAny_pyIter_keyiter st h
theorem qE {l : Expr} (hl : PE X l td) : PI X tg l (sJ X.prog X.w td) := by
 intro pins s σ H R I h
 refine aV (hl pins s σ H _ I h) fun v s1 ⟨x, H1, I1, r1, a, xs, es, ep, ex, ha, q⟩ => ?_
 subst ex
 obtain rfl : v = Value.ref a := r1
 have ok := eG I1 ha
 refine pj ok.d ok.r fun h' kk it => ?_
 refine ⟨s1.heap.objs.size, [s1.heap.objs.size], _, _, H1, rfl, I1.kept (t' := s1.toks) kk, mR a _ xs es ep ok.e, it, fun b hb => ?_, q⟩
 obtain rfl : b = s1.heap.objs.size := by simpa using hb
 exact I1.fpOk (Nat.le_refl _) (I1.hok.fresh (Nat.le_refl _))
end
theorem mK {X : Cx} {K : Fg} (hK : X.K = K) : cq X (.type "tuple") (fun xs H Q => ∃ p ys, xs = [V.ref p] /\ ((ak K H p ys /\ ∀ (l : Addr), H l = none -> Q (V.ref l) (upd H l (HO.tup ys))) ∨ (aH K H p ys /\ Q (V.ref p) H))) := by
 subst hK
 exact dr
end L2
namespace L2
open PySem PySem.Spec PyProof.Rows
section
variable {X : Cx}
theorem rF {K : Fg} (hK : X.K = K) {e : Expr} {te : TE} {n : Str} {T : String} {f : Tg -> Bool} {p p2 pos : Pos} (hc : cq X (.builtin "isinstance") (fF X.K T f)) (hg : Gl X "isinstance") (hg2 : Gl X n) (hm : X.mg "isinstance" = none) (hm2 : X.mg n = none) (hb : bootBuiltins n = some (.type T)) (he : PE X e te)
  (hn : n ≠ "__name__" := by decide) (hd : (n == ("__debug__" : Str)) = false := by decide)
  (hs1 : starEach [e, .Name n p2] X.env = (false, eval e X.env) :: starEach [.Name n p2] X.env := by rfl) (hs2 : starEach [.Name n p2] X.env = (false, eval (.Name n p2) X.env) :: starEach [] X.env := by rfl)
  (hpl : (backTo pos (starEach [.Name n p2] X.env)).any (·.1) = false := by rfl) :
  PE X (.Call (.Name "isinstance" p) [e, .Name n p2] [] pos) (sy (fF K T f) (br te (br (tC (.ty T)) tNil))) := by
 subst hK
 exact ko hc hg hg2 hm hm2 hb he hn hd hs1 hs2 hpl
end
end L2
set_option Elab.async false
set_option linter.all false
set_option maxRecDepth 100000
set_option maxHeartbeats 4000000
namespace MyLaw
open PySem L2
local macro_rules | `(tactic| kby_int) => `(tactic| exact ⟨rfl, rfl, rfl, by decide +kernel, rfl, by decide +kernel, by decide +kernel⟩)
abbrev Kp (K : Fg) (f : Addr) : Prop := PySem.W.keepIn K (.ref f) = true
abbrev Mm (m : Str -> Option Value) (n : Str) (f : Addr) : Prop := m n = some (.ref f)
def nq (i : Nat) : Stmt := PySem.Challenge.pw_markscale_k56_marks_not_told_apart.main.body.getD i (.Pass ⟨0, 0, 0, 0⟩)
abbrev cW : Stmt := nq 2
theorem kA : aM ["shape"] ["shape"] (ai cW) := by kby_int
abbrev bc : Stmt := nq 3
theorem aG : aM ["shapes", "numbers", "frames", "shape"] ["shapes"] (ai bc) := by kby_int
abbrev aY : Stmt := nq 5
theorem fP : aM ["shape"] ["shape"] (ai aY) := by kby_int
abbrev bI : Stmt := nq 6
theorem bu : aM ["shapes", "numbers", "alike", "at", "shape"] ["shapes"] (ai bI) := by kby_int
abbrev bY : Stmt := nq 8
theorem hC : aM ["_law_script", "_law_k"] ["_law_script", "_law_k"] (ai bY) := by kby_int
abbrev cr : Stmt := nq 9
theorem cM : aM ["_law_script", "_law_k", "_law_cell", "_law_seed"] ["_law_script", "_law_k"] (ai cr) := by kby_int
abbrev dC : Stmt := nq 10
theorem gA : aM ["_law_source_here", "_law_many", "_law_digit"] ["_law_source_here", "_law_many"] (ai dC) := by kby_int
abbrev dQ : Stmt := nq 13
theorem bR : aM ["_law_source_here", "_law_side", "_law_kind", "_law_a", "_law_b", "_law_c", "_law_colour"] ["_law_source_here"] (ai dQ) := by kby_int
abbrev cV : Stmt := nq 14
theorem bx : aM ["_law_k", "_law_title", "_law_found", "_law_side", "_law_ends"] ["_law_k"] (ai cV) := by kby_int
abbrev cT : Stmt := nq 15
theorem az : aM ["_law_script", "_law_frames", "_law_many", "_law_shapes", "_law_marked", "_law_k", "_law_keys", "_law_j", "_law_source_here", "_law_mark"] ["_law_script"] (ai cT) := by kby_int
abbrev fg : Stmt := nq 16
theorem bp : aM ["_law_shapes", "_law_found", "_law_taken", "_law_k", "_law_alike", "_law_frame", "_law_j"] ["_law_shapes"] (ai fg) := by kby_int
abbrev fu : Stmt := nq 17
theorem fL : aM ["_law_script", "_law_shapes", "_law_due_here", "_law_found", "_law_one_here"] ["_law_script"] (ai fu) := by kby_int
theorem gF {us : List Value} (h : us.length = 1) : ∃ a0, us = [a0] := by
 match us, h with
 | [a0], _ => exact ⟨a0, rfl⟩
theorem tR {us : List Value} (h : us.length = 2) : ∃ a0 a1, us = [a0, a1] := by
 match us, h with
 | [a0, a1], _ => exact ⟨a0, a1, rfl⟩
structure eT (K : Fg) (f : Addr) (oc : Value) (od : Option Addr) (n : Str) (st : Stmt) (df kV dc pm : Value) (an : Option Addr) (cd ct : Value) (sl : Array (Option Value)) : Prop where
 a : PySem.W.nsIn K mainGlobals n = some (some (.ref f))
 l : K.lookup f = some ⟨oc, od, .func (PySem.W.fnOf n n (cS st) (cv st) (ai st) df kV dc pm an cd ct), sl⟩
 c : PySem.W.codeIn K cd n = true
 k : PySem.W.keepIn K (.ref f) = true
set_option genInjectivity false in
structure zr where
 (f_zae : Addr) (d_zae : FuncData)
 (f_zaf : Addr) (d_zaf : FuncData)
 (f_zag : Addr) (d_zag : FuncData)
 (f_zad : Addr) (d_zad : FuncData)
 (f_zac : Addr) (d_zac : FuncData)
 (f_zah : Addr) (d_zah : FuncData)
 (f_zaa : Addr) (d_zaa : FuncData)
 (f_zai : Addr) (d_zai : FuncData)
 (f_zaj : Addr) (d_zaj : FuncData)
 (f_zab : Addr) (d_zab : FuncData)
 (f_zak : Addr) (d_zak : FuncData)
 (f_law : Addr) (d_law : FuncData)
 (g_GROUND : Addr)
structure mS (K : Fg) (mg : Str -> Option Value) (t : zr) : Prop where
 F_zae : iW K "is_mark" "is_mark" cW t.f_zae t.d_zae
 m_zae : Mm mg "is_mark" t.f_zae
 k_is_mark : Kp K t.f_zae
 b_is_mark : bF K t.d_zae ["shape"] []
 F_zaf : iW K "frame_numbers" "frame_numbers" bc t.f_zaf t.d_zaf
 m_zaf : Mm mg "frame_numbers" t.f_zaf
 k_frame_numbers : Kp K t.f_zaf
 b_frame_numbers : bF K t.d_zaf ["shapes"] []
 F_zag : iW K "likeness_of" "likeness_of" aY t.f_zag t.d_zag
 m_zag : Mm mg "likeness_of" t.f_zag
 k_likeness_of : Kp K t.f_zag
 b_likeness_of : bF K t.d_zag ["shape"] []
 F_zad : iW K "not_apart" "not_apart" bI t.f_zad t.d_zad
 m_zad : Mm mg "not_apart" t.f_zad
 k_not_apart : Kp K t.f_zad
 b_not_apart : bF K t.d_zad ["shapes"] []
 F_zac : iW K "_law_cell_at" "_law_cell_at" bY t.f_zac t.d_zac
 m_zac : Mm mg "_law_cell_at" t.f_zac
 k_l_cell_at : Kp K t.f_zac
 b_l_cell_at : bF K t.d_zac ["_law_script", "_law_k"] []
 F_zah : iW K "_law_source" "_law_source" cr t.f_zah t.d_zah
 m_zah : Mm mg "_law_source" t.f_zah
 k_l_source : Kp K t.f_zah
 b_l_source : bF K t.d_zah ["_law_script", "_law_k"] []
 F_zaa : iW K "_law_draw" "_law_draw" dC t.f_zaa t.d_zaa
 m_zaa : Mm mg "_law_draw" t.f_zaa
 k_l_draw : Kp K t.f_zaa
 b_l_draw : bF K t.d_zaa ["_law_source_here", "_law_many"] []
 F_zai : iW K "_law_one" "_law_one" dQ t.f_zai t.d_zai
 m_zai : Mm mg "_law_one" t.f_zai
 k_l_one : Kp K t.f_zai
 b_l_one : bF K t.d_zai ["_law_source_here"] []
 F_zaj : iW K "_law_begun" "_law_begun" cV t.f_zaj t.d_zaj
 m_zaj : Mm mg "_law_begun" t.f_zaj
 k_l_begun : Kp K t.f_zaj
 b_l_begun : bF K t.d_zaj ["_law_k"] []
 F_zab : iW K "_law_scene" "_law_scene" cT t.f_zab t.d_zab
 m_zab : Mm mg "_law_scene" t.f_zab
 k_l_scene : Kp K t.f_zab
 b_l_scene : bF K t.d_zab ["_law_script"] []
 F_zak : iW K "_law_due" "_law_due" fg t.f_zak t.d_zak
 m_zak : Mm mg "_law_due" t.f_zak
 k_l_due : Kp K t.f_zak
 b_l_due : bF K t.d_zak ["_law_shapes"] []
 F_law : iW K "law" "law" fu t.f_law t.d_law
 m_law : Mm mg "law" t.f_law
 k_law : Kp K t.f_law
 b_law : bF K t.d_law ["_law_script"] []
 g_GROUND : mg "GROUND" = some (.ref t.g_GROUND)
 v_GROUND : ∀ H, aH K H t.g_GROUND ((["frame", "axis", "tick", "legend", "key"] : List Str).map V.str)
 z_isinstance : mg "isinstance" = none
 z_int : mg "int" = none
 z_tuple : mg "tuple" = none
 z_list : mg "list" = none
 z_len : mg "len" = none
 z_range : mg "range" = none
 z_max : mg "max" = none
 z_min : mg "min" = none
 z_enumerate : mg "enumerate" = none
theorem zD {α : Type} (x y : α) : fW [x, y] 0 = some x := rfl
theorem zI {α : Type} (x y : α) : fW [x, y] 1 = some y := rfl
def aW (ns : List Int) (k : Int) : Int := ns.getD k.toNat 0
def lK (K : Fg) : Sp := fun vs H Q _ => ∃ (a : Addr) (ns : List Int) (k : Int), vs = [.ref a, .int k] /\ ak K H a (ns.map V.int) /\ 0 <= k /\ Q (.int (aW ns k)) H
def hW (K : Fg) : Sp := fun vs H Q _ => ∃ (a : Addr) (ns : List Int), vs = [.ref a] /\ ak K H a (ns.map V.int) /\ ns.length <= 63 /\ (∀ x ∈ ns, My.Bd 1048576 x) /\ ∀ H', Q (.bl true) H'
structure Pr (K : Fg) (H : Hp) (p : Addr) (a b : Int) (n : Nat) : Prop where
 s : aH K H p [.int a, .int b]
 pos : 0 < b
 ba : My.Bd n a
 bb : My.Bd n b
theorem Pr.ne {K : Fg} {H : Hp} {p : Addr} {a b : Int} {n : Nat} (h : Pr K H p a b n) : b ≠ 0 := Int.ne_of_gt h.pos
theorem Pr.keep {K : Fg} {H H' : Hp} {p : Addr} {a b : Int} {n : Nat} (h : Pr K H p a b n) (e : aa H H') : Pr K H' p a b n := ⟨e.tup h.s, h.pos, h.ba, h.bb⟩
theorem Pr.up {K : Fg} {H : Hp} {p : Addr} {a b : Int} {n m : Nat} (h : Pr K H p a b n) (e : n <= m) : Pr K H p a b m := ⟨h.s, h.pos, h.ba.mono e, h.bb.mono e⟩
def xL (K : Fg) (H : Hp) (Q : VK) (n : Nat) (v : Rat) : Prop := ∀ (p : Addr) (H' : Hp) (x y : Int), aa H H' -> Pr K H' p x y n -> Int.gcd x y = 1 -> My.qv x y = v -> Q (.ref p) H'
def gi (K : Fg) : Sp := fun vs H Q _ => ∃ (t m : Int) (n : Nat), vs = [.int t, .int m] /\ My.Bd n t /\ My.Bd n m /\ n <= 3900 /\ m ≠ 0 /\ xL K H Q n (My.qv t m)
def ug (K : Fg) (f : Rat -> Rat -> Rat) (ok : Int -> Prop) : Sp := fun vs H Q _ => ∃ (p r : Addr) (a b c d : Int) (n1 n2 : Nat), vs = [.ref p, .ref r] /\ Pr K H p a b n1 /\ Pr K H r c d n2 /\ n1 + n2 + 1 <= 3900 /\ ok c /\ xL K H Q (n1 + n2 + 1) (f (My.qv a b) (My.qv c d))
def we (K : Fg) (f : Int -> Int -> Int -> Int -> V) : Sp := fun vs H Q _ => ∃ (p r : Addr) (a b c d : Int) (n1 n2 : Nat), vs = [.ref p, .ref r] /\ Pr K H p a b n1 /\ Pr K H r c d n2 /\ n1 + n2 <= 3900 /\ Q (f a b c d) H
section
variable {P : Program} {w : World} {K : Fg} {mg : Str -> Option Value} {base : Heap} {t : zr}
theorem dI (T : mS K mg t) : bA P w K mg base iq 1 t.f_zac t.d_zac ["_law_script", "_law_k"] (lK K) := by
 refine T.F_zac.ok hC (fun vs H Q E h => ?_) (fun cdv A outer s H vs Q E hr h => ?_)
 ·obtain ⟨a, ns, k, rfl, _⟩ := h
  rfl
 obtain ⟨a, ns, k, rfl, hS, h0, q⟩ := h
 refine ⟨_, (bJ (bO (aA yy (pv 1) (aX aK rfl T.z_len PySem.boot_len (af (pv 0) aB)) (aJ _)) (cH (aE (aT ga (pv 0) (pv 1) (fun _ _ => rfl)))) aP)
 (cH (aE aI))), ?_⟩
 have hl : (ns.map V.int).length = ns.length := List.length_map _
 refine ⟨_, rfl, _, rfl, a, _, rfl, .inl hS, _, _, rfl, rfl, _, rfl, ?_⟩
 refine Aw (fun c => ?_) (fun c => ?_)
 ·have c' : k < (((ns.map V.int).length : Nat) : Int) := of_decide_eq_true c
  rw [hl] at c'
  have hk : k.toNat < ns.length := by omega
  have hv : fW (ns.map V.int) k = some (.int (aW ns k)) := by
   have ek : k = ((k.toNat : Nat) : Int) := by omega
   have q : fW (ns.map V.int) ((k.toNat : Nat) : Int) = some (.int (aW ns k)) := bi (by
    rw [List.getElem?_map, List.getElem?_eq_getElem hk]
    unfold aW
    rw [List.getD_eq_getElem?_getD, List.getElem?_eq_getElem hk] <;> rfl)
   rw [<- ek] at q
   exact q
  exact ⟨_, rfl, _, rfl, _, _, _, _, rfl, rfl, hS, hv, q⟩
 ·have c' : ¬ k < (((ns.map V.int).length : Nat) : Int) := of_decide_eq_false (Bool.eq_false_iff.mpr c)
  rw [hl] at c'
  have e : aW ns k = 0 := by
   unfold aW
   rw [List.getD_eq_getElem?_getD, List.getElem?_eq_none (by omega)] <;> rfl
  rw [e] at q
  exact q
end
theorem Pr.kp {K : Fg} {H H' : Hp} {p : Addr} {a b : Int} {n : Nat} (e : aa H H') (h : Pr K H p a b n) : Pr K H' p a b n := h.keep e
section
variable {K : Fg} {H : Hp} {Q : VK} {E : XK} {p r : Addr} {a b c d t m : Int} {n1 n2 : Nat} {f : Rat -> Rat -> Rat} {ok : Int -> Prop} {F : Int -> Int -> Int -> Int -> V}
theorem iO (h1 : My.Bd n1 t) (h2 : My.Bd n2 m) (h3 : max n1 n2 <= 3900) (h4 : m ≠ 0) (q : ∀ p H' x y, aa H H' -> Pr K H' p x y (max n1 n2) -> Int.gcd x y = 1 -> My.qv x y = My.qv t m -> Q (.ref p) H') : gi K [.int t, .int m] H Q E :=
 ⟨t, m, max n1 n2, rfl, h1.mono (by omega), h2.mono (by omega), h3, h4, q⟩
theorem lQ (h1 : My.Bd n1 t) (h2 : My.Bd n2 m) (h3 : max n1 n2 <= 3900) (h4 : m ≠ 0) (q : ∀ p H' x y, aa H H' -> Pr K H' p x y (max n1 n2) -> Int.gcd x y = 1 -> My.qv x y = My.qv t m -> Q (.ref p) H') : gi K ([.int t] ++ [.int m]) H Q E := iO h1 h2 h3 h4 q
theorem yq (h1 : Pr K H p a b n1) (h2 : Pr K H r c d n2) (h3 : n1 + n2 + 1 <= 3900) (h4 : ok c) (q : ∀ p' H' x y, aa H H' -> Pr K H' p' x y (n1 + n2 + 1) -> Int.gcd x y = 1 -> My.qv x y = f (My.qv a b) (My.qv c d) -> Q (.ref p') H') : ug K f ok [.ref p, .ref r] H Q E :=
 ⟨p, r, a, b, c, d, n1, n2, rfl, h1, h2, h3, h4, q⟩
theorem yC (h1 : Pr K H p a b n1) (h2 : Pr K H r c d n2) (h3 : n1 + n2 <= 3900) (q : Q (F a b c d) H) : we K F [.ref p, .ref r] H Q E := ⟨p, r, a, b, c, d, n1, n2, rfl, h1, h2, h3, q⟩
end
theorem vJ {K : Fg} {H : Hp} {Q : VK} {E : XK} {a : Addr} {ns : List Int} {k : Int} (hs : ak K H a (ns.map V.int)) (h0 : 0 <= k) (q : Q (.int (aW ns k)) H) : lK K [.ref a, .int k] H Q E := ⟨a, ns, k, rfl, hs, h0, q⟩
local macro_rules | `(tactic| accm_open) => `(tactic| repeat (first | exact dD.here | apply dD.next))
local macro_rules | `(tactic| accj_open) => `(tactic| repeat (first | exact cQ.here | apply cQ.next))
local macro_rules | `(tactic| kpf_lEnd) => `(tactic| first | assumption | exact aH.of (by assumption) | ((apply aa.tup); (focus assumption); (kpf_lEnd)) | ((apply cB.tup); (focus assumption); (focus assumption); (kpf_lEnd)))
local macro_rules | `(tactic| kpf_nlEnd) => `(tactic| first | assumption | exact ak.of (by assumption) | ((apply aa.seq); (focus assumption); (kpf_nlEnd)) | ((apply cB.seq); (focus assumption); (focus assumption); (kpf_nlEnd)))
local macro_rules | `(tactic| dictfold_keysKept) => `(tactic| first | assumption | exact (show aa _ _ by assumption) _ _ (by dictfold_keysKept) | exact (show cB _ _ _ by assumption) _ _ (by assumption) (by dictfold_keysKept))
local macro_rules | `(tactic| kpc_if) => `(tactic| first | assumption | exact aa.refl _ | ((apply sm2); (focus assumption); (kpc_if)))
local macro_rules | `(tactic| kj_step) => `(tactic| ((with_reducible refine vK ?_); first | (with_reducible refine mL ?_) | (with_reducible refine mY ?_) | (with_reducible refine mx ?_) | (with_reducible refine mG ?_) | (with_reducible refine jA ?_) | (with_reducible refine jE ?_) | (with_reducible refine kH ?_) | (with_reducible refine kh ?_) | (with_reducible refine mU ?_) | (with_reducible refine mt ?_) | (with_reducible refine mw ?_) | (with_reducible refine mQ ?_) | (with_reducible refine iG ?_) | (with_reducible refine iD ?_) | (with_reducible refine iU ?_) | (with_reducible refine iB ?_) | (with_reducible refine jK ?_) | (with_reducible refine jX ?_) | (with_reducible refine kc ?_) | (with_reducible refine jP ?_) | ((with_reducible apply mZ); (focus (kpf_lEnd))) | ((with_reducible apply mD); (focus (kpf_nlEnd))) | ((with_reducible apply jL); (focus (kpf_lEnd))) | ((with_reducible apply kE); (focus (kpf_nlEnd))) | ((with_reducible apply mJ); (focus (kpf_lEnd))) | ((with_reducible apply mH); (focus (kpf_nlEnd))) | ((with_reducible apply jw); (focus (kpf_lEnd))) | ((with_reducible apply jn); (focus (kpf_nlEnd))) | ((with_reducible apply kF); (focus (kpf_lEnd))) | ((with_reducible apply jH); (focus (kpf_nlEnd)))))
local macro_rules | `(tactic| regwhilegen_openM) => `(tactic| with_reducible (first | refine uD ?_ | refine uF ?_ | refine ut ?_ | refine wl ?_ | refine tX ?_ | refine uK ?_ | refine uy ?_ | refine uc ?_))
local macro_rules | `(tactic| regwhilegen_open) => `(tactic| (first | ((with_reducible apply xW); (focus (accm_open))) | with_reducible (first | refine z_c ?_ | refine zM ?_ | refine zz ?_ | refine wS ?_ | refine wR ?_ | refine sQ ?_ | refine sS ?_ | refine sY ?_ | refine tm ?_ | refine vE ?_ | refine zE ?_ | refine yo ?_ | refine xh ?_ | refine xJ ?_ | refine wb ?_ | refine wX ?_ | refine rE ?_ | refine qA ?_ | refine zL ?_ | refine z_U ?_ | refine wQ ?_ | refine Aj ?_ | refine xZ ?_ | refine uX ?_ | refine yc ?_ | refine vx ?_ | refine Ac ?_ | refine qW ?_ | refine vR ?_ | refine wc ?_ | refine wY ?_ | refine zH ?_ | refine AA ?_ | refine Al ?_ | refine yS ?_ | refine mN ?_ | refine mM ?_ | refine lM ?_ | refine vN ?_ | refine rT ?_ | refine tZ ?_ | refine Aq ?_ | refine yR ?_ | refine vG ?_ | refine yv ?_ | refine zW ?_ | refine xq ?_ | refine zG ?_ | refine zB ?_ | refine wM ?_ | refine wT ?_ | refine xx ?_ | refine yA ?_ | refine xA ?_ | refine wZ ?_) | ((with_reducible apply tD); (focus (accj_open))) | ((with_reducible apply uP); (focus (accj_open)); (focus (accj_open))) | ((with_reducible apply ye); (focus (exact Nat.le_of_ble_eq_true rfl)); (intro p H' n s e))))
local macro_rules | `(tactic| regwhilegenl_has) => `(tactic| first | ((with_reducible apply xX); (focus (row_close2_l))) | ((with_reducible apply yJ); (focus (kpf_lEnd)); (focus rfl)) | kj_step | regwhilegen_openM | ((with_reducible apply z_len); (focus (first | exact .inl (by kpf_nlEnd) | exact .inr (by kpf_lEnd)))) | ((with_reducible apply vo); (focus (kpf_lEnd)); (focus rfl)) | ((with_reducible apply yu); (focus (kpf_nlEnd))) | ((with_reducible apply xN); (focus (kpf_lEnd))) | ((with_reducible apply xz); (focus (first | decide | omega)); (focus (first | decide | omega))) | ((with_reducible apply tf); (focus (first | decide | omega)); (focus (first | decide | omega)); (focus (first | decide | omega)); (focus (first | decide | omega))))
local macro_rules | `(tactic| kt_field) => `(tactic| first | assumption | exact Pr.ba (by assumption) | exact Pr.bb (by assumption) | exact (show My.Bd 64 _ by unfold My.Bd; decide) | ((with_reducible apply uO) <;> (kt_field)) | ((with_reducible apply tP) <;> (kt_field)) | ((with_reducible apply vi) <;> (kt_field)) | ((with_reducible apply My.Bd.neg); (kt_field)) | ((with_reducible apply My.Bd.mod); (focus (first | decide | omega | assumption)); (kt_field)) | ((with_reducible apply My.Bd.div); (focus (first | decide | omega | assumption)); (kt_field)) | exact pp (by omega) (by omega) | exact (show My.Bd 256 _ by unfold My.Bd; decide))
local macro_rules | `(tactic| row_close2_lm) => `(tactic| first | assumption | ((apply My.Bd.mono); (focus (kt_field)); (first | decide | omega)))
local macro_rules | `(tactic| row_close2_l) => `(tactic| first | assumption | exact True.intro | decide | omega | exact ⟨by first | decide | omega, by first | decide | omega⟩ | exact ⟨by decide, by decide, by decide⟩ | exact .inl ⟨by first | decide | omega, by first | decide | omega⟩ | exact .inr ⟨by first | decide | omega, by first | decide | omega⟩ | exact ⟨by row_close2_lm, by row_close2_lm⟩ | exact ⟨by first | decide | omega | assumption, by row_close2_lm⟩)
local macro_rules | `(tactic| kpc_check) => `(tactic| first | assumption | ((apply Pr.kp); (focus assumption); (kpc_check)))
local macro_rules | `(tactic| k_made) => `(tactic| ((with_reducible apply iO); (focus (kt_field)); (focus (kt_field)); (focus (first | decide | omega)); (focus (first | decide | omega)); (intro p H' x y s R g e)))
local macro_rules | `(tactic| k_made) => `(tactic| ((with_reducible apply lQ); (focus (kt_field)); (focus (kt_field)); (focus (first | decide | omega)); (focus (first | decide | omega)); (intro p H' x y s R g e)))
local macro_rules | `(tactic| k_made) => `(tactic| ((with_reducible apply yq); (focus (kpc_check)); (focus (kpc_check)); (focus (first | decide | omega)); (focus (first | exact True.intro | assumption)); (intro p H' x y s R g e)))
local macro_rules | `(tactic| k_made) => `(tactic| ((with_reducible apply yC); (focus (kpc_check)); (focus (kpc_check)); (focus (first | decide | omega))))
local macro_rules | `(tactic| dictfold_empty) => `(tactic| ((with_reducible apply rJ); (focus ((intro S q); (f_look); (exact q))); (focus ((intro hb S q); (f_look); (exact q))); (focus (accm_open)); (focus (accj_open))))
local macro_rules | `(tactic| f_look) => `(tactic| repeat (first | dictfold_empty | regwhilegen_open | regwhilegenl_has | k_made))
local macro_rules | `(tactic| kmb_kw) => `(tactic| first | assumption | exact pp (by omega) (by omega))
local macro_rules | `(tactic| k_made) => `(tactic| ((with_reducible apply vJ); (focus (kpf_nlEnd)); (focus (first | decide | omega))))
section
variable {P : Program} {w : World} {K : Fg} {mg : Str -> Option Value} {base : Heap} {t : zr}
theorem mF {α β : Type} {g : α -> β} {xs : List α} {j : Nat} {v : β} (h : (xs.map g)[j]? = some v) : ∃ x, xs[j]? = some x /\ v = g x := by
 rw [List.getElem?_map] at h
 cases q : xs[j]? with
 | none => rw [q] at h; cases h
 | some x => rw [q] at h; exact ⟨x, rfl, (Option.some.inj h).symm⟩
local macro_rules | `(tactic| kt_join) => `(tactic| repeat (first | exact Gt.here | apply Gt.next))
local macro_rules | `(tactic| acc_open) => `(tactic| repeat (first | exact eJ.here | apply eJ.next))
local macro_rules | `(tactic| dl_open) => `(tactic| first | exact Rk.fz | ((with_reducible apply Rk.own); (focus ((kt_join); done))) | ((with_reducible apply Rk.sfz); (focus ((kt_join); done))) | ((with_reducible apply Rk.vw); (focus ((kt_join); done))))
local macro_rules | `(tactic| regbin_open) => `(tactic| first | ((with_reducible apply yj); (focus ((kt_join); done))) | ((with_reducible apply wq); (focus ((kt_join); done))) | ((with_reducible apply vn); (focus ((kt_join); done))) | ((with_reducible apply vA); (focus ((kt_join); done))))
local macro_rules | `(tactic| kpc_close) => `(tactic| first | regbin_open | with_reducible (first | refine zT ?_ | refine zZ ?_ | refine Af ?_ | refine yh ?_ | refine xr ?_ | refine xH ?_ | refine yk ?_ | refine xn ?_ | refine zq ?_ | refine Ag ?_ | refine zX ?_ | refine An ?_ | refine zi ?_ | refine wL ?_ | refine yI ?_ | refine Ao ?_ | refine vX ?_ | refine xK ?_ | refine wy ?_ | refine Ae ?_ | refine rn ?_ | refine pD ?_ | refine t_B ?_ | refine ya ?_ | refine xR ?_ | refine zF ?_ | refine yt ?_ | refine vC ?_ | refine wV ?_ | refine wW ?_ | refine xP ?_ | refine vj ?_ | refine vP ?_ | refine yM ?_ | refine vV ?_ | refine yn ?_ | refine xQ ?_ | refine Ai ?_ | refine Am ?_ | refine ww ?_ | refine yr ?_ | refine vm ?_ | refine um ?_ | refine xB ?_ | refine xo ?_ | refine yp ?_ | refine yw ?_ | refine sq ?_ | refine xm ?_ | refine vS ?_ | refine vO ?_ | refine mN ?_ | refine mM ?_ | refine lM ?_ | refine uJ ?_ | refine qX ?_ | refine yO ?_) | ((with_reducible apply nK); (focus ((kt_join); done)); (focus ((acc_open); done))) | ((with_reducible apply nR); (focus ((kt_join); done))) | ((with_reducible apply vY); (focus ((kt_join); done)); (focus ((acc_open); done))) | ((with_reducible apply tJ); (focus ((kt_join); done))) | ((with_reducible apply Ab); (focus ((acc_open); done))) | ((with_reducible apply zx); (focus ((acc_open); done))) | ((with_reducible apply zK); (focus ((kt_join); done)); (focus ((acc_open); done)); (focus ((acc_open); done))) | ((with_reducible apply zp); (focus ((acc_open); done))) | ((with_reducible apply zO); (focus ((acc_open); done)); (focus ((acc_open); done))) | ((with_reducible apply xS); (focus (exact Nat.le_of_ble_eq_true rfl))) | ((with_reducible apply vT); (focus rfl)) | ((with_reducible apply sO); (focus rfl)) | ((with_reducible apply wm); (focus rfl)) | ((with_reducible apply zy); (focus rfl)) | ((with_reducible apply yi); (focus rfl)) | ((with_reducible apply xi); (focus rfl); (focus rfl)) | ((with_reducible apply rN); (focus rfl)))
local macro_rules | `(tactic| acc_openK) => `(tactic| first | kpc_close | (with_reducible refine yQ ?_))
local macro_rules | `(tactic| obj_index2) => `(tactic| first | ((with_reducible apply oK); (focus decide); (focus decide)) | (with_reducible refine zY ?_) | ((with_reducible apply zV); (focus (row_close2_l))) | ((with_reducible apply xj); (focus (row_close2_l))) | with_reducible (first | refine xE ?_ | refine wk ?_ | refine zo ?_ | refine vh ?_ | refine tE ?_ | refine vq ?_ | refine vU ?_ | refine vy ?_ | refine uR ?_ | refine vH ?_ | refine rX ?_ | refine uf ?_ | refine uN ?_ | refine vc ?_ | refine rD ?_ | refine qz ?_ | refine qw ?_) | ((with_reducible apply qQ); (focus rfl)) | ((with_reducible apply so); (focus rfl)) | ((with_reducible apply pc); (focus rfl)) | ((with_reducible apply pw); (focus rfl)) | ((with_reducible apply dy); (focus rfl); (focus (dl_open)); (focus rfl)) | ((with_reducible apply fC); (focus rfl); (focus (dl_open)); (focus rfl)) | ((with_reducible apply vM); (focus rfl); (focus (dl_open))) | ((with_reducible apply sh); (focus rfl); (focus (dl_open))) | ((with_reducible apply rQ); (focus rfl); (focus rfl); (focus rfl)) | ((with_reducible apply qy); (focus rfl); (focus rfl); (focus rfl)) | ((with_reducible apply vt); (focus rfl); (focus rfl)) | ((with_reducible apply tK); (focus rfl); (focus rfl)) | ((with_reducible apply qS); (focus rfl); (focus (dl_open))) | ((with_reducible apply pN); (focus rfl); (focus (dl_open))) | ((with_reducible apply uB); (focus rfl); (focus (dl_open))) | ((with_reducible apply zk); (focus rfl); (focus (dl_open))) | ((with_reducible apply sj); (focus (dl_open))) | (with_reducible refine wt ?_) | ((with_reducible apply my); (focus ((kt_join); done)); (focus (o_src)); (focus ((acc_open); done))) | ((with_reducible apply oI); (focus ((kt_join); done)); (focus ((acc_open); done))) | ((with_reducible apply jM); (focus ((kt_join); done)); (focus ((acc_open); done))) | ((with_reducible apply ve); (focus rfl)) | ((with_reducible apply oD); (focus rfl)))
local macro_rules | `(tactic| o_src) => `(tactic| first | (exact Nat.le_of_ble_eq_true rfl) | omega | (simp; omega))
local macro_rules | `(tactic| kd_mark) => `(tactic| repeat (first | acc_openK | obj_index2 | kxi_slice))
local macro_rules | `(tactic| sl_open) => `(tactic| (kd_mark; assumption))
local macro_rules | `(tactic| kxi_slice) => `(tactic| fail)
local macro_rules | `(tactic| kby_none) => `(tactic| repeat (first | kpc_close | obj_index2 | kxi_slice))
def GRD : List Str := ["frame", "axis", "tick", "legend", "key"]
def dk : Tr -> Bool
 | .int _ => true
 | .str _ => true
 | .lst us => us.all (aF 2) && decide (us.length <= 900)
 | _ => false
def fl : Tr -> Tr
 | .lst us => .tup us
 | t => t
def wdOf : Tr -> Str
 | .tup (.str k :: _) => k
 | _ => ""
def fK : Tr -> Tr
 | .tup ts => .tup (ts.map fl)
 | t => t
def bG (t : Tr) : Prop := ∃ k r, t = .tup (.str k :: r) /\ r.length <= 20 /\ r.all dk = true
def qd (t : Tr) : Bool := !decide (wdOf t ∈ GRD)
def gh : SpT := fun _ as Φ _ => ∃ x, as = [.fz x] /\ bG x /\ Φ (.fz (.bl (qd x)))
theorem jf (T : mS K mg t) : bA P w K mg base iq 1 t.f_zae t.d_zae ["shape"] (cZ K gh) := by
 refine T.F_zae.ok kA (cK (fun B as Φ Ψ h => by obtain ⟨_, rfl, _⟩ := h; rfl)) (fun cdv A outer s H vs Q E hr h => ?_)
 obtain ⟨B, as, Φ, Ψ, rfl, hS, hx, go⟩ := cm h
 obtain ⟨_, rfl, ⟨k, r, rfl, hl, hp⟩, φ⟩ := hS
 refine ⟨_, (cH (aE (dR cw (aT yW (pv 0) aI (fun _ _ => rfl)) (re (v := .ref t.g_GROUND) rfl T.g_GROUND rfl) rfl))), go _ _ (oq (τ := [.fz _]) rfl ?_)⟩
 kd_mark
 refine fC rfl Rk.fz (bi (j := 0) rfl) ?_
 kd_mark
 refine zJ (t := .tup (GRD.map Tr.str)) (fun F => .tup (T.v_GROUND F) (.ofStrs _)) ?_
 kd_mark
 refine mr (ws := GRD) rfl Rk.fz ?_
 sl_open
def lW (ss : List Tr) (n : Nat) : Nat := ((ss.take n).filter fun t => decide (wdOf t = "frame")).length
def iJ (ss : List Tr) (i : Nat) : Int := (lW ss (i + 1) : Int) - 1
def lP (ss : List Tr) (n : Nat) : List Int := (List.range n).map (iJ ss)
theorem jp {ss : List Tr} {i : Nat} {t : Tr} (h : ss[i]? = some t) : lW ss (i + 1) = lW ss i + if wdOf t = "frame" then 1 else 0 := by
 unfold lW
 rw [List.take_succ, h, List.filter_append, List.length_append]
 by_cases e : wdOf t = "frame" <;> simp [e]
theorem uj (ss : List Tr) (i : Nat) : lW ss i <= ss.length := Nat.le_trans (List.length_filter_le _ _) (by rw [List.length_take]; exact Nat.min_le_right _ _)
def kW : SpT := fun _ as Φ _ => ∃ ss : List Tr, as = [.fz (.lst ss)] /\ ss.length <= 900 /\ (∀ s ∈ ss, bG s) /\ Φ (.nw (.lst ((lP ss ss.length).map Tr.int)))
theorem dP (T : mS K mg t) : bA P w K mg base iq 1 t.f_zaf t.d_zaf ["shapes"] (cZ K kW) := by
 refine T.F_zaf.ok aG (cK (fun B as Φ Ψ h => by obtain ⟨_, rfl, _⟩ := h; rfl)) (fun cdv A outer s H vs Q E hr h => ?_)
 obtain ⟨B, as, Φ, Ψ, rfl, hS, hx, go⟩ := cm h
 obtain ⟨ss, rfl, hn, hs, φ⟩ := hS
 refine ⟨_, (bJ (ao (i := 1) aG.nd rfl (Or.inl rfl) (ay aB))
 (bJ (ao (i := 2) aG.nd rfl (Or.inl rfl) aI)
 (bJ (cL PassesOwn.never rfl (gH (pv 0)) (aL (i := 3) aG.nd rfl (Or.inl rfl)) (bJ (bO (aA eL (aT yW (pv 3) aI (fun _ _ => rfl)) ah (aJ _)) (cH (va (i := 2) aG.nd rfl (Or.inl rfl) aI vd)) aP)
 (cH (bX (eM PySem.F.plainAttrs_list PySem.F.slot_list_append PySem.F.type_list_append aQ (pv 1) (af (aq nD (pv 2) aI) aB))))))
 (cH (aE (pv 1)))))), go _ _ (oq (τ := [.fz _, .no, .no, .no]) rfl ?_)⟩
 kd_mark
 refine ⟨fun i τ => ∃ u, τ = [.fz (.lst ss), .own (.lst ((lP ss i).map Tr.int)), .fz (.int (lW ss i)), u], ⟨_, rfl⟩, ?_, ?_⟩
 ·rintro i x τ hi ⟨u, rfl⟩
  have hi' : i < ss.length := (List.getElem?_eq_some_iff.mp hi).1
  obtain ⟨k, r, rfl, _, _⟩ := hs x (List.mem_of_getElem? hi)
  have e1 := jp hi
  have e2 : lP ss (i + 1) = lP ss i ++ [iJ ss i] := by unfold lP; rw [List.range_succ, List.map_append]; rfl
  have le : (lP ss i).length = i := by unfold lP; rw [List.length_map, List.length_range]
  have lf := uj ss i
  kd_mark
  refine fC rfl Rk.fz (bi (j := 0) rfl) ?_
  kd_mark
  refine bD (fun h1 => ?_) (fun h1 => ?_)
  ·kd_mark
   refine xU (by kt_join) ?_
   kd_mark
   have e3 : iJ ss i = (lW ss i : Int) + 1 - 1 := by unfold iJ; rw [e1, if_pos (show wdOf (Tr.tup (Tr.str k :: r)) = "frame" from h1)]; omega
   refine ⟨.fz (.tup (.str k :: r)), ?_⟩
   rw [e2, e1, if_pos (show wdOf (Tr.tup (Tr.str k :: r)) = "frame" from h1), List.map_append, e3]
   rfl
  ·kd_mark
   have e3 : iJ ss i = (lW ss i : Int) - 1 := by unfold iJ; rw [e1, if_neg (show ¬ wdOf (Tr.tup (Tr.str k :: r)) = "frame" from h1)]; omega
   refine ⟨.fz (.tup (.str k :: r)), ?_⟩
   rw [e2, e1, if_neg (show ¬ wdOf (Tr.tup (Tr.str k :: r)) = "frame" from h1), List.map_append, e3]
   rfl
 ·rintro τ ⟨u, rfl⟩
  kd_mark
  exact nF (by kt_join) φ
def kZ : SpT := fun _ as Φ _ => ∃ x, as = [.fz x] /\ bG x /\ Φ (.fz (fK x))
theorem eS (T : mS K mg t) : bA P w K mg base iq 1 t.f_zag t.d_zag ["shape"] (cZ K kZ) := by
 refine T.F_zag.ok fP (cK (fun B as Φ Ψ h => by obtain ⟨_, rfl, _⟩ := h; rfl)) (fun cdv A outer s H vs Q E hr h => ?_)
 obtain ⟨B, as, Φ, Ψ, rfl, hS, hx, go⟩ := cm h
 obtain ⟨_, rfl, ⟨k, r, rfl, hl, hp⟩, φ⟩ := hS
 refine ⟨_, (cH (aE (cU dr rfl T.z_tuple jo (af (sw rfl (er (fr := []) (osc := ai aY) (N := ["shape"]) rfl rfl (by decide +kernel)) (vW (pv 0)) (fun _ _ _ _ _ => (qb (fR (rF (K := B.K) rfl fm rfl rfl T.z_isinstance T.z_list gZ (pv 0))) (cU (mK (K := B.K) rfl) rfl T.z_tuple jo (af (pv 0) aB)) (pv 0)))) aB)))), go _ _ (oq (τ := [.fz _]) rfl ?_)⟩
 kd_mark
 refine Ap (sO rfl ?_)
 kd_mark
 refine ⟨[], .nil, by rw [List.length_cons]; omega, fun i o => (Tr.str k :: r)[i]?.map fl = some o, fun i p hi => ?_, fun os ho hos => ?_⟩
 ·have hpt : dk p = true := by
   rcases List.mem_cons.mp (List.mem_of_getElem? hi) with rfl | z
   ·rfl
   ·exact List.all_eq_true.mp hp p z
  cases p with
  | int n => kd_mark; exact congrArg (Option.map fl) hi
  | str n => kd_mark; exact congrArg (Option.map fl) hi
  | lst us =>
   kd_mark
   exact congrArg (Option.map fl) hi
  | _ => cases hpt
 ·have e : os = (Tr.str k :: r).map fl := by
   refine List.ext_getElem? fun i => ?_
   rw [List.getElem?_map]
   by_cases hi : i < os.length
   ·rw [List.getElem?_eq_getElem hi]; exact (hos i _ (List.getElem?_eq_getElem hi)).symm
   ·rw [List.getElem?_eq_none (by omega), List.getElem?_eq_none (by rw [<- ho]; omega)]; rfl
  subst e
  sl_open
def xY (K : Fg) (F H : Hp) (a : Addr) : Bk where
 K := K
 F0 := F
 H0 := H
 W := fun _ => False
 J := fun _ => True
 rt := a
 jl := fun _ _ _ _ _ => trivial
 jm := fun _ _ _ h => h.elim
theorem uU {K : Fg} {H : Hp} {a : Addr} : qP (xY K H H a) := ⟨aa.refl _, fun _ h => h.elim, fun _ h => h.elim, trivial⟩
theorem dF {K : Fg} {S : SpT} {vs : List V} {H : Hp} {Q : VK} {E : XK} {a : Addr} {as : List Ar} {Φ : Kd -> Prop} (la : dY (xY K H H a) H vs as) (s : S (xY K H H a) as Φ fun _ => False) (q : ∀ v F' H' k, aa H H' -> aa F' H' -> aa H F' -> lJ (xY K H H a) F' H' v k -> Φ k -> Q v H') : cZ K S vs H Q E :=
 ⟨xY K H H a, as, Φ, fun _ => False, rfl, rfl, uU, la, s, fun v F' H' k u r p => q v F' H' k (fun p o e => u.h p o (fun h => h) e) u.i u.f r p, fun _ _ _ _ h => h.elim⟩
theorem pW {K : Fg} {H : Hp} {Q : VK} {E : XK} {v : V} {x : Tr} (hv : Is K H v x) (g : bG x) (q : ∀ H', aa H H' -> Q (.bl (qd x)) H') : cZ K gh [v] H Q E :=
 dF (a := (0 : Nat)) (as := [.fz x]) (Φ := fun k => k = .fz (.bl (qd x))) (.cons hv .nil) ⟨x, rfl, g, rfl⟩ fun v F' H' k s _ _ r e => by
  subst e
  cases r
  exact q H' s
theorem tH {K : Fg} {H : Hp} {Q : VK} {E : XK} {v : V} {x : Tr} (hv : Is K H v x) (g : bG x) (q : ∀ v' H', aa H H' -> Is K H' v' (fK x) -> Q v' H') : cZ K kZ [v] H Q E :=
 dF (a := (0 : Nat)) (as := [.fz x]) (Φ := fun k => k = .fz (fK x)) (.cons hv .nil) ⟨x, rfl, g, rfl⟩ fun v F' H' k s i _ r e => by
  subst e
  exact q v H' s (Is.same i r)
theorem vD {K : Fg} {H : Hp} {Q : VK} {E : XK} {v : V} {ss : List Tr} (hv : Is K H v (.lst ss)) (hl : ss.length <= 900) (g : ∀ s ∈ ss, bG s) (q : ∀ l H', aa H H' -> H' l = some (.lst ((lP ss ss.length).map V.int)) -> H l = none -> Q (.ref l) H') : cZ K kW [v] H Q E :=
 dF (a := (0 : Nat)) (as := [.fz (.lst ss)]) (Φ := fun k => k = .nw (.lst ((lP ss ss.length).map Tr.int))) (.cons hv .nil) ⟨ss, rfl, hl, g, rfl⟩ fun v F' H' k s i _ r e => by
  subst e
  obtain ⟨l, rfl, ow, _, hn⟩ := r
  cases ow with
  | lst h g =>
   cases g.ints
   exact q l H' s h hn
def ce (ss : List Tr) (i : Nat) : Tr := .tup [.int (iJ ss i), fK (ss.getD i .non)]
def cA (ss : List Tr) (i : Nat) : Bool := qd (ss.getD i .non)
abbrev GP := List (Tr × List Nat)
def eR (g : GP) (k : Tr) (i : Nat) : GP := if k ∈ g.map (·.1) then g.map (fun p => if p.1 = k then (p.1, p.2 ++ [i]) else p) else g ++ [(k, [i])]
def da (ss : List Tr) : Nat -> GP
 | 0 => []
 | i + 1 => if cA ss i = true then eR (da ss i) (ce ss i) i else da ss i
theorem gp {g : GP} {k : Tr} {i : Nat} : (eR g k i).map (·.1) = if k ∈ g.map (·.1) then g.map (·.1) else g.map (·.1) ++ [k] := by
 unfold eR
 by_cases h : k ∈ g.map (·.1)
 ·rw [if_pos h, if_pos h, List.map_map]
  refine List.map_congr_left fun p _ => ?_
  show (if p.1 = k then (p.1, p.2 ++ [i]) else p).1 = p.1
  split <;> rfl
 ·rw [if_neg h, if_neg h, List.map_append]; rfl
theorem ka (ss : List Tr) : ∀ i, ((da ss i).map (·.1)).Nodup
 | 0 => List.nodup_nil
 | i + 1 => by
  have ih := ka ss i
  unfold da
  split
  ·rw [gp]
   split
   ·exact ih
   ·rename_i h
    refine List.nodup_append.mpr ⟨ih, by simp, fun x hx y hy e => h ?_⟩
    rw [List.mem_singleton] at hy
    rw [<- hy, <- e]; exact hx
  ·exact ih
theorem dX (ss : List Tr) : ∀ i, (da ss i).length <= i /\ ∀ p ∈ da ss i, p.2.length <= i
 | 0 => ⟨Nat.le_refl _, fun _ h => nomatch h⟩
 | i + 1 => by
  obtain ⟨h1, h2⟩ := dX ss i
  unfold da
  split
  ·unfold eR
   split
   ·refine ⟨by rw [List.length_map]; omega, fun p hp => ?_⟩
    obtain ⟨q, hq, rfl⟩ := List.mem_map.mp hp
    have := h2 q hq
    split
    ·rw [List.length_append, List.length_singleton]; omega
    ·omega
   ·refine ⟨by rw [List.length_append, List.length_singleton]; omega, fun p hp => ?_⟩
    rcases List.mem_append.mp hp with z | z
    ·have := h2 p z; omega
    ·rw [List.mem_singleton.mp z]; simp
  ·exact ⟨by omega, fun p hp => by have := h2 p hp; omega⟩
theorem Paired.append' {α β : Type} {F : α -> β -> Prop} {x : α} {y : β} : ∀ {xs : List α} {ys : List β}, Paired F xs ys -> F x y -> Paired F (xs ++ [x]) (ys ++ [y])
 | _, _, .nil, h => .cons h .nil
 | _, _, .cons a r, h => .cons a (Paired.append' r h)
abbrev gV (l : List Nat) : List V := l.map fun n => V.int (n : Nat)
def gj (H : Hp) (xs : List KN) (g : GP) : Prop := Paired (fun (x : KN) (p : Tr × List Nat) => x.1 = p.1 /\ H x.2.2 = some (.lst (gV p.2))) xs g
structure mm (P : Program) (w : World) (K : Fg) (H0 H : Hp) (a : Addr) (xs : List KN) (es : Array DictEntry) (ep : Nat) (g : GP) : Prop where
 d : H a = some (DN P w a xs es ep)
 a0 : H0 a = none
 k : fJ K H xs
 g : gj H xs g
 n : (xs.map (·.2.2)).Nodup
 f : ∀ x ∈ xs, H0 x.2.2 = none
 s : aa H0 H
theorem gj.keys {H : Hp} {xs : List KN} {g : GP} (h : gj H xs g) : xs.map (·.1) = g.map (·.1) := by
 unfold gj at h
 induction h with
 | nil => rfl
 | cons a _ ih => rw [List.map_cons, List.map_cons, ih, a.1]
theorem gj.to {H H' : Hp} {xs : List KN} {g : GP} (h : gj H xs g) (k : ∀ x ∈ xs, ∀ o, H x.2.2 = some o -> H' x.2.2 = some o) : gj H' xs g := by
 unfold gj at h ⊢
 induction h with
 | nil => exact .nil
 | cons a _ ih => exact .cons ⟨a.1, k _ List.mem_cons_self _ a.2⟩ (ih fun x hx => k x (List.mem_cons_of_mem _ hx))
theorem jZ {xs : List KN} {t : Tr} {p : Addr × Addr} (h : io xs t = some p) : (t, p) ∈ xs := by
 unfold io at h
 obtain ⟨x, hx, rfl⟩ := Option.map_eq_some_iff.mp h
 have h1 := List.mem_of_find?_eq_some hx
 have h3 := List.find?_some hx
 have h2 : x.1 = t := of_decide_eq_true h3
 rw [<- h2]
 exact h1
theorem wu {xs : List KN} {t : Tr} (h : io xs t = none) : t ∉ xs.map (·.1) := by
 unfold io at h
 rw [Option.map_eq_none_iff, List.find?_eq_none] at h
 intro hm
 obtain ⟨x, hx, rfl⟩ := List.mem_map.mp hm
 exact h x hx (decide_eq_true rfl)
theorem gj.at {H : Hp} {xs : List KN} {g : GP} (h : gj H xs g) {t : Tr} {p : Addr × Addr} (hp : (t, p) ∈ xs) : ∃ l, (t, l) ∈ g /\ H p.2 = some (.lst (gV l)) := by
 unfold gj at h
 induction h with
 | nil => exact nomatch hp
 | @cons x q xs g a _ ih =>
  rcases List.mem_cons.mp hp with e | hp
  ·subst e
   exact ⟨q.2, by rw [show t = q.1 from a.1]; exact List.mem_cons_self, a.2⟩
  ·obtain ⟨l, h1, h2⟩ := ih hp
   exact ⟨l, List.mem_cons_of_mem _ h1, h2⟩
theorem gj.more {H H' : Hp} {xs : List KN} {g : GP} (h : gj H xs g) {t : Tr} {p : Addr × Addr} {i : Nat} (hp : (t, p) ∈ xs) (hk : (xs.map (·.1)).Nodup) (hn : (xs.map (·.2.2)).Nodup) (b : cB p.2 H H') {l : List Nat} (e0 : H p.2 = some (.lst (gV l))) (e1 : H' p.2 = some (.lst (gV l ++ [V.int (i : Nat)]))) :
  gj H' xs (g.map fun q => if q.1 = t then (q.1, q.2 ++ [i]) else q) := by
 unfold gj at h ⊢
 induction h with
 | nil => exact .nil
 | @cons x q xs g a r ih =>
  rw [List.map_cons, List.nodup_cons] at hk hn
  rw [List.map_cons]
  by_cases hx : x.1 = t
  ·have e : x = (t, p) := by
    rcases List.mem_cons.mp hp with e | hp
    ·exact e.symm
    ·exact absurd (List.mem_map.mpr ⟨_, hp, hx.symm⟩) hk.1
   subst e
   have hq : q.1 = t := a.1.symm
   refine .cons ?_ ?_
   ·rw [if_pos hq]
    refine ⟨a.1, ?_⟩
    have e2 := a.2
    rw [e0] at e2
    have e3 : gV l = gV q.2 := by injection e2 with e2; injection e2
    show H' p.2 = some (.lst (gV (q.2 ++ [i])))
    rw [e1, e3]
    show _ = some (HO.lst ((q.2 ++ [i]).map _))
    rw [List.map_append]; rfl
   ·have r' := gj.to (H' := H') r fun y hy o ho => b _ _ (fun z => hn.1 (List.mem_map.mpr ⟨y, hy, z⟩)) ho
    have eg : (g.map fun q => if q.1 = t then (q.1, q.2 ++ [i]) else q) = g := by
     have nk : t ∉ g.map (·.1) := by rw [<- gj.keys r, <- hx]; exact hk.1
     have : ∀ q ∈ g, (if q.1 = t then (q.1, q.2 ++ [i]) else q) = q := fun q hq => if_neg fun z => nk (List.mem_map.mpr ⟨q, hq, z⟩)
     rw [List.map_congr_left this, List.map_id']
    rw [eg]
    exact r'
  ·have hq : ¬ q.1 = t := fun z => hx (a.1.trans z)
   have hp' : (t, p) ∈ xs := by
    rcases List.mem_cons.mp hp with e | hp
    ·exact absurd (by rw [<- e]) hx
    ·exact hp
   refine .cons ?_ (ih hp' hk.2 hn.2)
   rw [if_neg hq]
   exact ⟨a.1, b _ _ (fun z => hn.1 (List.mem_map.mpr ⟨_, hp', z.symm⟩)) a.2⟩
section
variable {P : Program} {w : World} {K : Fg} {H0 H H' : Hp} {a : Addr} {xs : List KN} {es : Array DictEntry} {ep : Nat} {g : GP}
theorem mm.sm (h : mm P w K H0 H a xs es ep g) (s : aa H H') : mm P w K H0 H' a xs es ep g := ⟨s _ _ h.d, h.a0, h.k.same s, h.g.to fun _ _ _ e => s _ _ e, h.n, h.f, h.s.trans s⟩
theorem mm.keysNd (h : mm P w K H0 H a xs es ep g) (hg : (g.map (·.1)).Nodup) : (xs.map (·.1)).Nodup := by rw [h.g.keys]; exact hg
end
theorem fk {K : Fg} {H H' : Hp} {n : Nat} (ih : ∀ {t : Tr} {v : V}, aF n t = true -> Is K H v t -> Is K H' v t) : ∀ {vs : List V} {ts : List Tr}, IsL K H vs ts -> ts.all (aF n) = true -> IsL K H' vs ts
 | _, _, .nil, _ => .nil
 | _, _, .cons a b, k => by
  rw [List.all_cons, Bool.and_eq_true] at k
  exact .cons (ih k.1 a) (fk ih b k.2)
theorem hU {K : Fg} {H H' : Hp} (ht : ∀ p xs, aH K H p xs -> aH K H' p xs) : ∀ {n : Nat} {t : Tr} {v : V}, aF n t = true -> Is K H v t -> Is K H' v t := by
 intro n
 induction n with
 | zero =>
  intro t v k i
  cases i with
  | int => exact .int
  | str => exact .str
  | _ => cases k
 | succ n ih =>
  intro t v k i
  cases i with
  | int => exact .int
  | str => exact .str
  | @tup p vs ts hp hl =>
   refine .tup (ht _ _ hp) ?_
   have k : ts.all (aF n) = true := k
   clear hp
   exact fk (fun h g => ih h g) hl k
  | _ => cases k
theorem kL {K : Fg} {H H' : Hp} {xs : List KN} (ht : ∀ p ys, aH K H p ys -> aH K H' p ys) (k : fJ K H xs) : fJ K H' xs := fun x hx => ⟨hU ht (k x hx).2 (k x hx).1, (k x hx).2⟩
theorem qY {K : Fg} {H : Hp} {a : Addr} {o u : HO} (ho : H a = some o) (h1 : ∀ xs, o ≠ .tup xs) (h2 : ∀ ob xs, o ≠ .frz ob xs) : ∀ p xs, aH K H p xs -> aH K (upd H a u) p xs := fun p xs h => by
 rcases h with (h | ⟨ob, h⟩) | h
 ·exact .inl (.inl (by rw [ac (eO h ho (h1 xs).symm)]; exact h))
 ·exact .inl (.inr ⟨ob, by rw [ac (eO h ho (h2 ob _).symm)]; exact h⟩)
 ·exact .inr h
section
variable {P : Program} {w : World} {K : Fg} {H0 H H' : Hp} {a : Addr} {xs : List KN} {es : Array DictEntry} {ep : Nat} {g : GP}
theorem mm.app (h : mm P w K H0 H a xs es ep g) (hg : (g.map (·.1)).Nodup) {t : Tr} {p : Addr × Addr} {i : Nat} {l : List Nat} (hp : io xs t = some p) (b : cB p.2 H H') (e0 : H p.2 = some (.lst (gV l))) (e1 : H' p.2 = some (.lst (gV l ++ [V.int (i : Nat)]))) :
  mm P w K H0 H' a xs es ep (eR g t i) := by
 have hm := jZ hp
 have hin : t ∈ g.map (·.1) := by rw [<- h.g.keys]; exact List.mem_map.mpr ⟨_, hm, rfl⟩
 have hpa : p.2 ≠ a := fun z => by rw [z, h.d] at e0; cases e0
 refine ⟨b _ _ hpa.symm h.d, h.a0, kL (fun q ys z => b.tup e0 z) h.k, ?_, h.n, h.f, fun q o z => b _ _ (fun y => ?_) (h.s _ _ z)⟩
 ·unfold eR
  rw [if_pos hin]
  exact h.g.more hm (h.keysNd hg) h.n b e0 e1
 ·have := h.f _ hm
  rw [<- y, z] at this; cases this
theorem mm.new (h : mm P w K H0 H a xs es ep g) {t : Tr} {b l : Addr} {i : Nat} {es' : Array DictEntry} {ep' : Nat} {H2 : Hp} (hp : io xs t = none) (hl : H l = some (.lst [])) (l0 : H0 l = none) (ln : ∀ x ∈ xs, x.2.2 ≠ l) (ik : Is K H (.ref b) t) (kt : aF 6 t = true)
  (bb : cB l (upd H a (DN P w a (xs ++ [(t, b, l)]) es' ep')) H2) (e2 : H2 l = some (.lst [V.int (i : Nat)])) : mm P w K H0 H2 a (xs ++ [(t, b, l)]) es' ep' (eR g t i) := by
 have la : l ≠ a := fun z => by rw [z, h.d] at hl; cases hl
 have hnot : t ∉ g.map (·.1) := by rw [<- h.g.keys]; exact wu hp
 have hl1 : upd H a (DN P w a (xs ++ [(t, b, l)]) es' ep') l = some (.lst []) := by rw [ac la]; exact hl
 have ht : ∀ p ys, aH K H p ys -> aH K H2 p ys := fun p ys z => bb.tup hl1 (qY h.d (fun _ => nofun) (fun _ _ => nofun) p ys z)
 refine ⟨bb _ _ la.symm ad, h.a0, fun x hx => ?_, ?_, ?_, fun x hx => ?_, fun q o z => ?_⟩
 ·rcases List.mem_append.mp hx with hx | hx
  ·exact kL ht h.k x hx
  ·rw [List.mem_singleton.mp hx]
   exact ⟨hU ht kt ik, kt⟩
 ·unfold eR
  rw [if_neg hnot]
  refine Paired.append' (h.g.to (H' := H2) fun x hx o e => bb _ _ (ln x hx) ?_) ⟨rfl, e2⟩
  rw [ac (fun z => ?_)]
  ·exact e
  ·obtain ⟨_, _, e3⟩ := h.g.at (t := x.1) (p := x.2) hx
   rw [z, h.d] at e3; cases e3
 ·rw [List.map_append, List.nodup_append]
  refine ⟨h.n, by simp, fun x hx y hy e => ?_⟩
  obtain ⟨z, hz, rfl⟩ := List.mem_map.mp hx
  obtain rfl : y = l := by simpa using hy
  exact ln z hz e
 ·rcases List.mem_append.mp hx with hx | hx
  ·exact h.f x hx
  ·rw [List.mem_singleton.mp hx]; exact l0
 ·have h1 := h.s _ _ z
  have qa : q ≠ a := fun y => by rw [y, h.a0] at z; cases z
  have ql : q ≠ l := fun y => by rw [y, l0] at z; cases z
  exact bb _ _ ql (by rw [ac qa]; exact h1)
end
section
variable {P : Program} {w : World} {K : Fg} {σ : St} {H : Hp} {Q : VK} {td ty tx : TE}
theorem rq (q : ∀ p H' es ep, H p = none -> aa H H' -> H' p = some (DN P w p [] es ep) -> Q (.ref p) H') : ph P w σ H Q := fun p es ep hp => q p _ es ep hp (aa.new hp _) ad
theorem uY (h : td σ H fun x H1 => ∃ a, x = .ref a /\ (∃ xs es ep, H1 a = some (DN P w a xs es ep)) /\ ty σ H1 fun y H2 => tx σ H2 fun z H3 => ∃ xs es ep t b l, H3 a = some (DN P w a xs es ep) /\ fJ K H3 xs /\ xs.length < sizeLine /\ y = .ref b /\ Is K H3 y t /\ aF 6 t = true /\ z = .ref l /\
 (∀ p, io xs t = some p -> Q (.ref p.2) H3) /\ (io xs t = none -> ∀ es ep, Q z (upd H3 a (DN P w a (xs ++ [(t, b, l)]) es ep)))) : sM P w K td ty tx σ H Q := h
theorem qR (h : td σ H fun x H1 => ty σ H1 fun y H2 => ∃ a xs es ep t b p, x = .ref a /\ H2 a = some (DN P w a xs es ep) /\ fJ K H2 xs /\ y = .ref b /\ Is K H2 y t /\ aF 6 t = true /\ io xs t = some p /\ Q (.ref p.2) H2) : nZ P w K td ty σ H Q := h
theorem uZ {R : It -> Hp -> Prop} (h : td σ H fun x H1 => ∃ a xs es ep, x = .ref a /\ H1 a = some (DN P w a xs es ep) /\ R (Ad P w a xs es ep) H1) : sJ P w td σ H R := h
end
local macro_rules | `(tactic| k_made) => `(tactic| with_reducible (first | refine Az ?_ | refine uY ?_ | refine qR ?_ | refine uZ ?_))
theorem rf {n : Nat} (h : n <= 1000) : n <= sizeLine := Nat.le_trans h (by decide)
def qC (ss : List Tr) : List (List Nat) := ((da ss ss.length).map (·.2)).filter fun g => decide (1 < g.length)
def ju (K : Fg) : Sp := fun vs H Q _ => ∃ (v : V) (ss : List Tr), vs = [v] /\ Is K H v (.lst ss) /\ ss.length <= 900 /\ (∀ s ∈ ss, bG s) /\ ∀ (acc : Addr) (H' : Hp) (ls : List Addr), H acc = none -> aa H H' -> H' acc = some (.lst (ls.map V.ref)) -> Paired (fun l (g : List Nat) => H' l = some (.lst (gV g)) /\ H l = none) ls (qC ss) -> ls.Nodup -> acc ∉ ls -> Q (.ref acc) H'
def cY : List KN -> GP -> List Addr
 | x :: xs, p :: g => if 1 < p.2.length then x.2.2 :: cY xs g else cY xs g
 | _, _ => []
theorem ja (p : Nat -> Bool) (f : Nat -> V) (n : Nat) : bn p f (n + 1) = (if p 0 = true then [f 0] else []) ++ bn (fun i => p (i + 1)) (fun i => f (i + 1)) n := by
 unfold bn
 rw [List.range_succ_eq_map, List.filter_cons]
 have e : (List.filter p (List.map Nat.succ (List.range n))).map f = ((List.range n).filter fun i => p (i + 1)).map fun i => f (i + 1) := by
  rw [List.filter_map, List.map_map]; rfl
 split
 ·rw [List.map_cons, e]; rfl
 ·rw [e]; rfl
theorem fG : ∀ (xs : List KN) (g : GP), xs.length = g.length -> bn (fun i => decide (1 < (g.getD i (.non, [])).2.length)) (fun i => V.ref (xs.getD i (.non, 0, 0)).2.2) xs.length = (cY xs g).map V.ref
 | [], [], _ => rfl
 | x :: xs, p :: g, h => by
  have ih := fG xs g (by simpa using h)
  rw [List.length_cons, ja]
  show _ = (if 1 < p.2.length then x.2.2 :: cY xs g else cY xs g).map V.ref
  have e : bn (fun i => decide (1 < ((p :: g).getD (i + 1) (.non, [])).2.length)) (fun i => V.ref ((x :: xs).getD (i + 1) (.non, 0, 0)).2.2) xs.length = (cY xs g).map V.ref := ih
  rw [e]
  by_cases hp : 1 < p.2.length
  ·rw [if_pos hp]
   show (if decide (1 < p.2.length) = true then _ else _) ++ _ = _
   rw [if_pos (decide_eq_true hp)]; rfl
  ·rw [if_neg hp]
   show (if decide (1 < p.2.length) = true then _ else _) ++ _ = _
   rw [if_neg (by rw [decide_eq_false hp]; exact Bool.false_ne_true)]; rfl
theorem dS : ∀ {xs : List KN} {g : GP} {l : Addr}, l ∈ cY xs g -> l ∈ xs.map (·.2.2)
 | x :: xs, p :: g, l, h => by
  have h : l ∈ (if 1 < p.2.length then x.2.2 :: cY xs g else cY xs g) := h
  rw [List.map_cons]
  split at h
  ·rcases List.mem_cons.mp h with e | h
   ·rw [e]; exact List.mem_cons_self
   ·exact List.mem_cons_of_mem _ (dS h)
  ·exact List.mem_cons_of_mem _ (dS h)
theorem gX : ∀ {xs : List KN} {g : GP}, (xs.map (·.2.2)).Nodup -> (cY xs g).Nodup
 | [], _, _ => List.nodup_nil
 | _ :: _, [], _ => List.nodup_nil
 | x :: xs, p :: g, h => by
  rw [List.map_cons, List.nodup_cons] at h
  show (if 1 < p.2.length then x.2.2 :: cY xs g else cY xs g).Nodup
  split
  ·exact List.nodup_cons.mpr ⟨fun z => h.1 (dS z), gX h.2⟩
  ·exact gX h.2
theorem lN {H0 H : Hp} : ∀ {xs : List KN} {g : GP}, gj H xs g -> (∀ x ∈ xs, H0 x.2.2 = none) -> Paired (fun l (g : List Nat) => H l = some (.lst (gV g)) /\ H0 l = none) (cY xs g) ((g.map (·.2)).filter fun g => decide (1 < g.length))
 | _, _, .nil, _ => .nil
 | x :: xs, p :: g, .cons a r, h => by
  have ih := lN (g := g) r fun y hy => h y (List.mem_cons_of_mem _ hy)
  show Paired _ (if 1 < p.2.length then x.2.2 :: cY xs g else cY xs g) _
  rw [List.map_cons, List.filter_cons]
  by_cases hp : 1 < p.2.length
  ·rw [if_pos hp, if_pos (decide_eq_true hp)]
   exact .cons ⟨a.2, h x List.mem_cons_self⟩ ih
  ·rw [if_neg hp, if_neg (by rw [decide_eq_false hp]; exact Bool.false_ne_true)]
   exact ih
theorem om {t : Tr} (h : bG t) : aF 5 (fK t) = true := by
 obtain ⟨k, r, rfl, _, hp⟩ := h
 show ((Tr.str k :: r).map fl).all (aF 4) = true
 rw [List.map_cons, List.all_cons]
 refine (Bool.and_eq_true _ _).mpr ⟨rfl, List.all_eq_true.mpr fun y hy => ?_⟩
 obtain ⟨x, hx, rfl⟩ := List.mem_map.mp hy
 have hx := List.all_eq_true.mp hp x hx
 cases x with
 | int => rfl
 | str => rfl
 | lst us =>
  have hx : (us.all (aF 2) && decide (us.length <= 900)) = true := hx
  rw [Bool.and_eq_true] at hx
  show us.all (aF 3) = true
  exact List.all_eq_true.mpr fun u hu => key_up (List.all_eq_true.mp hx.1 u hu)
 | _ => cases hx
where key_up : ∀ {n : Nat} {t : Tr}, aF n t = true -> aF (n + 1) t = true
 | 0, t, h => by cases t <;> first | rfl | cases h
 | n + 1, t, h => by
  cases t with
  | tup ts =>
   have h : ts.all (aF n) = true := h
   show ts.all (aF (n + 1)) = true
   rw [List.all_eq_true] at h ⊢
   exact fun x hx => key_up (h x hx)
  | int => rfl
  | str => rfl
  | _ => cases h
theorem ol : ∀ {xs : List KN} {i : Nat} {x : KN}, (xs.map (·.1)).Nodup -> xs[i]? = some x -> io xs x.1 = some x.2
 | [], _, _, _, h => by simp at h
 | y :: xs, 0, x, _, h => by
  have h : some y = some x := h
  cases h
  unfold io
  rw [List.find?_cons, decide_eq_true rfl]; rfl
 | y :: xs, i + 1, x, hn, h => by
  rw [List.map_cons, List.nodup_cons] at hn
  have h : xs[i]? = some x := h
  have ne : ¬ y.1 = x.1 := fun e => hn.1 (by rw [e]; exact List.mem_map.mpr ⟨x, List.mem_of_getElem? h, rfl⟩)
  have := ol hn.2 h
  unfold io at this ⊢
  rw [List.find?_cons, decide_eq_false ne]
  exact this
theorem oy {H : Hp} : ∀ {xs : List KN} {g : GP} {i : Nat} {x : KN}, gj H xs g -> xs[i]? = some x -> ∃ q, g[i]? = some q /\ H x.2.2 = some (.lst (gV q.2))
 | _, _, _, _, .nil, h => by simp at h
 | _, _, 0, _, .cons a _, h => by
  simp at h; subst h
  exact ⟨_, rfl, a.2⟩
 | _, _, i + 1, x, .cons _ r, h => by
  obtain ⟨q, h1, h2⟩ := oy (i := i) r (by simpa using h)
  exact ⟨q, by simpa using h1, h2⟩
theorem ic (T : mS K mg t) : bA P w K mg base iq 2 t.f_zad t.d_zad ["shapes"] (ju K) := by
 have G_zaf := @dP P w K mg base t T
 have G_zae := @jf P w K mg base t T
 have G_zag := @eS P w K mg base t T
 refine T.F_zad.ok bu (fun vs H Q E h => ?_) (fun cdv A outer s H vs Q E hr h => ?_)
 ·obtain ⟨_, _, rfl, _⟩ := h
  rfl
 obtain ⟨v, ss, rfl, hv, hn, hs, q⟩ := h
 refine ⟨_, (bJ (ao (i := 1) bu.nd rfl (Or.inl rfl) (au G_zaf (hr.mono (by decide)) rfl T.m_zaf T.k_frame_numbers T.b_frame_numbers .nil aU (af (pv 0) aB)))
 (bJ (ao (i := 2) bu.nd rfl (Or.inr rfl) pd)
 (bJ (cL PassesOwn.never rfl (rG rfl T.z_enumerate (af (pv 0) aB)) (vf rfl (ci (aL (i := 3) bu.nd rfl (Or.inl rfl)) (ci (aL (i := 4) bu.nd rfl (Or.inl rfl)) kX))) (cH (bO (fR (au G_zae (hr.mono (by decide)) rfl T.m_zae T.k_is_mark T.b_is_mark .nil aU (af (pv 4) aB))) (cH (bX (eM PySem.F.plainAttrs_list PySem.F.slot_list_append PySem.F.type_list_append aQ (oN (by have := hr.un150; exact Nat.lt_of_le_of_lt (Nat.add_le_add_left (by decide) _) this) (pv 2) (aS (af (aT ga (pv 1) (pv 3) (fun _ _ => rfl)) (af (au G_zag (hr.mono (by decide)) rfl T.m_zag T.k_likeness_of T.b_likeness_of .nil aU (af (pv 4) aB)) aB))) (ay aB) ⟨rfl, rfl, rfl, rfl⟩) (af (pv 3) aB)))) aP)))
 (cH (aE (qV (tg := "look") (fr := [("alike", 2)]) rfl (jQ (osc := ai bI) (N := ["shapes", "numbers", "alike", "at", "shape"]) rfl rfl (by decide +kernel)) (qE (pv 2)) (fun _ _ _ _ _ => (aA pi (aX (r := tV K) nc rfl T.z_len PySem.boot_len (af (jx (P := P) (w := w) (K := K) rfl rfl rfl (by have := hr.un150; exact Nat.lt_of_le_of_lt (Nat.add_le_add_left (by decide) _) this) (pv 1) (pv 0) (fun _ _ => rfl)) aB)) aI (aJ _))) (fun _ _ _ _ _ => (jx (P := P) (w := w) (K := K) rfl rfl rfl (by have := hr.un150; exact Nat.lt_of_le_of_lt (Nat.add_le_add_left (by decide) _) this) (pv 1) (pv 0) (fun _ _ => rfl))))))))), mP (σ := [some _, none, none, none, none]) rfl ?_⟩
 have hv0 := hv
 cases hv with
 | @lst ps vss _ hps hls =>
 f_look
 refine vD hv0 hn hs (fun pn H1 s1 hpn pn0 => ?_)
 f_look
 refine rq (fun a H2 es0 ep0 a0 s2 ha => ?_)
 have J0 : mm P w K H H2 a [] es0 ep0 [] := ⟨ha, s1.free a0, fun _ h => (nomatch h), .nil, List.nodup_nil, fun _ h => (nomatch h), s1.trans s2⟩
 have lv : vss.length = ss.length := hls.length
 f_look
 refine xk (J0.s.seq hps) ?_
 refine uL (K := K) (xs := vss) (fun i σ HD => ∃ xs es ep u1 u2, σ = [some (.ref ps), some (.ref pn), some (.ref a), u1, u2] /\ mm P w K H HD a xs es ep (da ss i) /\ HD pn = some (.lst ((lP ss ss.length).map V.int)) /\ ∀ x ∈ xs, x.2.2 ≠ pn) ⟨[], es0, ep0, none, none, rfl, J0, s2 _ _ hpn, fun _ h => nomatch h⟩ (fun i σ HD _ ⟨_, _, _, _, _, _, J, _⟩ => J.s.seq hps) ?_ ?_
 ·rintro i x σ HD hi ⟨xs, es, ep, u1, u2, rfl, J, hpn, hnp⟩ p H3 s3 hp
  have hil : i < ss.length := by rw [<- lv]; exact (List.getElem?_eq_some_iff.mp hi).1
  obtain ⟨st, hst, ist⟩ := hls.get2 hi
  have gd : ss.getD i .non = st := by rw [List.getD_eq_getElem?_getD, hst]; rfl
  have oks := hs st (List.mem_of_getElem? hst)
  have J3 := J.sm s3
  have i3 := ist.same J3.s
  have ng : ((da ss i).map (·.1)).Nodup := ka ss i
  f_look
  refine pW i3 oks (fun H4 s4 => ?_)
  f_look
  have J4 := J3.sm s4
  have i4 := i3.same s4
  have hpn4 := s4 _ _ (s3 _ _ hpn)
  have lnu : ((lP ss ss.length).map V.int).length = ss.length := by unfold lP; rw [List.length_map, List.length_map, List.length_range]
  have hat : fW ((lP ss ss.length).map V.int) (i : Nat) = some (.int (iJ ss i)) := bi (by unfold lP; rw [List.getElem?_map, List.getElem?_map, List.getElem?_range hil]; rfl)
  have gl := dX ss i
  have xl : xs.length = (da ss i).length := Paired.length J.g
  refine kG (fun hm => ?_) (fun hm => ?_)
  ·have eg : da ss (i + 1) = eR (da ss i) (ce ss i) i := by
    show (if cA ss i = true then _ else _) = _
    rw [if_pos (by unfold cA; rw [gd]; exact hm)]
   f_look
   refine ⟨a, rfl, ⟨xs, es, ep, J4.d⟩, ?_⟩
   f_look
   refine cG (ak.of hpn4) hat ?_
   f_look
   refine tH i4 oks (fun vl H5 s5 il => ?_)
   f_look
   rename_i b H6 hb s6 hbt
   refine cp (xs := []) (Nat.le_of_ble_eq_true rfl) (fun l H7 hl s7 hll => ?_)
   have J7 := ((J4.sm s5).sm s6).sm s7
   have ek : ce ss i = .tup [.int (iJ ss i), fK st] := by unfold ce; rw [gd]
   have ik : Is K H7 (.ref b) (ce ss i) := by
    rw [ek]
    exact .tup (aH.of (s7 _ _ hbt)) (.cons .int (.cons (il.same (s6.trans s7)) .nil))
   have kk : aF 6 (ce ss i) = true := by
    rw [ek]
    show ([.int (iJ ss i), fK st] : List Tr).all (aF 5) = true
    rw [List.all_cons, List.all_cons, om oks]; rfl
   have hpn7 := s7 _ _ (s6 _ _ (s5 _ _ hpn4))
   refine ⟨xs, es, ep, ce ss i, b, l, J7.d, J7.k, Nat.lt_of_le_of_lt (show xs.length <= 900 by omega) (by decide), rfl, ik, kk, rfl, fun p hp => ?_, fun hno es' ep' => ?_⟩
   ·obtain ⟨ys, hys, ey⟩ := J7.g.at (jZ hp)
    have ly := gl.2 _ hys
    refine di (ak.of ey) ?_
    f_look
    refine aZ ey (by rw [List.length_map]; exact Nat.lt_of_le_of_lt (show ys.length <= 900 by show (ce ss i, ys).2.length <= 900; omega) (by decide)) (fun H8 b8 e8 => ?_)
    f_look
    refine ⟨xs, es, ep, _, _, rfl, by rw [eg]; exact J7.app ng hp b8 ey e8, b8 _ _ (fun z => hnp _ (jZ hp) z.symm) hpn7, hnp⟩
   ·have la : l ≠ a := fun z => by rw [z, J7.d] at hll; cases hll
    have hl1 : upd H7 a (DN P w a (xs ++ [(ce ss i, b, l)]) es' ep') l = some (.lst []) := by rw [ac la]; exact hll
    have old : ∀ {q : Addr} {o : HO}, H3 q = some o -> q ≠ l := fun {q o} e z => by
     have := s6 _ _ (s5 _ _ (s4 _ _ e))
     rw [z, hl] at this; cases this
    have lx : ∀ x ∈ xs, x.2.2 ≠ l := fun x hx => by
     obtain ⟨_, _, e⟩ := J3.g.at (t := x.1) (p := x.2) hx
     exact old e
    refine di (ak.of hl1) ?_
    f_look
    refine aZ hl1 (by decide) (fun H8 b8 e8 => ?_)
    f_look
    have l0 : H l = none := J3.s.free (s4.free (s5.free (s6.free hl)))
    refine ⟨xs ++ [(ce ss i, b, l)], es', ep', _, _, rfl, by rw [eg]; exact J7.new hno hll l0 lx ik kk b8 e8, b8 _ _ (old (s3 _ _ hpn)) (by rw [ac (fun z => by rw [z, J7.d] at hpn7; cases hpn7)]; exact hpn7), fun x hx => ?_⟩
    rcases List.mem_append.mp hx with hx | hx
    ·exact hnp x hx
    ·rw [List.mem_singleton.mp hx]
     exact (old (s3 _ _ hpn)).symm
  ·have eg : da ss (i + 1) = da ss i := by
    show (if cA ss i = true then _ else _) = _
    rw [if_neg (by unfold cA; rw [gd, hm]; exact Bool.false_ne_true)]
   f_look
   exact ⟨xs, es, ep, _, _, rfl, by rw [eg]; exact J4, hpn4, hnp⟩
 ·rintro σ HD ⟨xs, es, ep, u1, u2, rfl, J, hpn, hnp⟩
  rw [lv] at J
  f_look
  refine xT ?_
  f_look
  refine ⟨a, xs, es, ep, rfl, J.d, ?_⟩
  have xl : xs.length = (da ss ss.length).length := Paired.length J.g
  have gl := dX ss ss.length
  have kn : (xs.map (·.1)).Nodup := J.keysNd (ka ss _)
  have gx : ∀ {i : Nat}, i < xs.length -> xs[i]? = some (xs.getD i (.non, 0, 0)) := fun {i} hi => by rw [List.getElem?_eq_getElem hi, List.getD_eq_getElem?_getD, List.getElem?_eq_getElem hi]; rfl
  have look : ∀ {i : Nat}, i < xs.length -> io xs (xs.getD i (.non, 0, 0)).1 = some (xs.getD i (.non, 0, 0)).2 := fun {i} hi => ol kn (gx hi)
  have gat : ∀ {i : Nat} {HX : Hp}, gj HX xs (da ss ss.length) -> i < xs.length -> HX (xs.getD i (.non, 0, 0)).2.2 = some (.lst (gV ((da ss ss.length).getD i (.non, [])).2)) := fun {i HX} g hi => by
   obtain ⟨q, hq, e⟩ := oy g (gx hi)
   rw [List.getD_eq_getElem?_getD (l := da ss ss.length), hq]
   exact e
  refine lcw xs.length (fun i => V.ref (xs.getD i (.non, 0, 0)).2.1) (fun i => V.ref (xs.getD i (.non, 0, 0)).2.2) (fun i => decide (1 < ((da ss ss.length).getD i (.non, [])).2.length)) (rf (by omega)) (fun i H2 s2 hi => ⟨⟨s2 _ _ J.d, hi⟩, fun x H3 y => ⟨y.1, ?_⟩⟩) (fun H2 s2 => ⟨s2 _ _ J.d, Nat.le_refl _⟩) (fun i H2 S hi s2 k => ?_) (fun i H2 S hi hp s2 k => ?_) (fun acc H2 hacc s2 hl => ?_)
  ·obtain ⟨k, hk, rfl⟩ := y.2
   rw [gx hi] at hk
   cases hk
   rfl
  ·have J2 := J.sm s2
   have kk := J2.k _ (List.mem_of_getElem? (gx hi))
   f_look
   refine ⟨a, xs, es, ep, _, _, _, rfl, J2.d, J2.k, rfl, kk.1, kk.2, look hi, ?_⟩
   have e := gat J2.g hi
   refine ⟨_, _, rfl, .inl (ak.of e), ?_⟩
   f_look
   have := k H2 (aa.refl _)
   rw [List.length_map]
   have ec : decide ((1 : Int) < (((da ss ss.length).getD i (.non, [])).2.length : Nat)) = decide (1 < ((da ss ss.length).getD i (.non, [])).2.length) := by
    rw [decide_eq_decide]; omega
   rw [ec]
   exact this
  ·have J2 := J.sm s2
   have kk := J2.k _ (List.mem_of_getElem? (gx hi))
   f_look
   exact ⟨a, xs, es, ep, _, _, _, rfl, J2.d, J2.k, rfl, kk.1, kk.2, look hi, k H2 (aa.refl _)⟩
  ·have J2 := J.sm s2
   rw [fG xs _ xl] at hl
   refine q acc H2 (cY xs (da ss ss.length)) (J.s.free hacc) J2.s hl (lN J2.g J.f) (gX J.n) (fun hm => ?_)
   obtain ⟨x, hx, e⟩ := List.mem_map.mp (dS hm)
   obtain ⟨_, _, e2⟩ := J.g.at (t := x.1) (p := x.2) hx
   rw [e, hacc] at e2
   cases e2
structure oo (x : Int) : Prop where
 b : My.Bd 3000000 x
theorem oo.of {n : Nat} {x : Int} (h : My.Bd n x) (hn : n <= 3000000) : oo x := ⟨h.mono hn⟩
open PySem.Spec PyProof.Rows in
theorem eY {X : Cx} : eQ X (binaryOp .Mult) (rI (fun i j => oo i /\ oo j) fun i j => .int (i * j)) := wK fun _ _ _ _ _ _ _ hc q =>
 mul_int q (IntMulOk.of_le (PySem.intBits_le_iff.mpr hc.1.b) (PySem.intBits_le_iff.mpr hc.2.b) (by decide))
theorem jO {n : Int} (h1 : -1152921504606846976 < n) (h2 : n < 1152921504606846976) : oo n := .of (pp h1 h2) (by decide)
structure zc (H : Hp) (r : Addr) (a b : Int) : Prop where
 l : H r = some (.lst [.int a, .int b])
 a0 : 0 <= a
 b0 : 0 <= b
 b1 : b < 2147483647
theorem zc.keep {H H' : Hp} {r : Addr} {a b : Int} (h : zc H r a b) (e : aa H H') : zc H' r a b := ⟨e _ _ h.l, h.a0, h.b0, h.b1⟩
theorem qK {ns : List Int} (h : ∀ x ∈ ns, My.Bd 1048576 x) (k : Int) : My.Bd 1048576 (aW ns k) := by
 unfold aW
 rw [List.getD_eq_getElem?_getD]
 cases q : ns[k.toNat]? with
 | none => exact (show My.Bd 64 (0 : Int) by unfold My.Bd; decide).mono (by decide)
 | some x => exact h x (List.mem_of_getElem? q)
def qh (ns : List Int) (k : Int) : Int × Int := (aW ns k * (if decide ((1000000000000000000 : Int) <= aW ns k) = true then 1 else 0), ((aW ns k % 2147483647 + 104729 * k + 7) * 48271 % 2147483629) * ((aW ns k % 2147483647 + 104729 * k + 7) * 48271 % 2147483629) % 2147483587)
abbrev cz (H : Hp) (r : Addr) (s : Int × Int) : Prop := zc H r s.1 s.2
def fM (K : Fg) : Sp := fun vs H Q _ => ∃ (s : Addr) (ns : List Int) (k : Int), vs = [.ref s, .int k] /\ ak K H s (ns.map V.int) /\ (∀ x ∈ ns, My.Bd 1048576 x) /\ 0 <= k /\ k <= 1000 /\ ∀ (r : Addr) (H' : Hp), H r = none -> aa H H' -> cz H' r (qh ns k) -> Q (.ref r) H'
theorem gR (T : mS K mg t) : bA P w K mg base iq 2 t.f_zah t.d_zah ["_law_script", "_law_k"] (fM K) := by
 have G_zac := @dI P w K mg base t T
 refine T.F_zah.ok cM (fun vs H Q E h => ?_) (fun cdv A outer s H vs Q E hr h => ?_)
 ·obtain ⟨s, ns, k, rfl, _⟩ := h
  rfl
 obtain ⟨s, ns, k, rfl, hS, hb, k0, k1, q⟩ := h
 refine ⟨_, (bJ (ao (i := 2) cM.nd rfl (Or.inl rfl) (au G_zac (hr.mono (by decide)) rfl T.m_zac T.k_l_cell_at T.b_l_cell_at .nil aU (af (pv 0) (af (pv 1) aB))))
 (bJ (ao (i := 3) cM.nd rfl (Or.inl rfl) (aq cN (aq eY (aq ca (aq ca (aq cN (pv 2) aI) (aq eY aI (pv 1))) aI) aI) aI))
 (cH (aE (ay (af (aq eY (pv 2) (cU gq rfl T.z_int oF (af (dR yg (pv 2) (aq tG aI aI) (aJ _)) aB))) (af (aq cN (aq eY (pv 3) (pv 3)) aI) aB))))))), mP (σ := [some _, some _, none, none]) rfl ?_⟩
 have cb := qK hb k
 simp only [qh, cz] at q
 f_look
 generalize aW ns k = c at *
 have m1 := Int.emod_nonneg c (show (2147483647 : Int) ≠ 0 by decide)
 have m2 := Int.emod_lt_of_pos c (show (0 : Int) < 2147483647 by decide)
 refine xX ⟨jO (by decide) (by decide), jO (by omega) (by omega)⟩ ?_
 f_look
 refine xX ⟨jO (by omega) (by omega), jO (by decide) (by decide)⟩ ?_
 f_look
 have n1 := Int.emod_nonneg ((c % 2147483647 + 104729 * k + 7) * 48271) (show (2147483629 : Int) ≠ 0 by decide)
 have n2 := Int.emod_lt_of_pos ((c % 2147483647 + 104729 * k + 7) * 48271) (show (0 : Int) < 2147483629 by decide)
 generalize (c % 2147483647 + 104729 * k + 7) * 48271 % 2147483629 = d at *
 refine xX ⟨.of cb (by decide), jO (by split <;> decide) (by split <;> decide)⟩ ?_
 f_look
 refine xX ⟨jO (by omega) (by omega), jO (by omega) (by omega)⟩ ?_
 f_look
 have o1 := Int.emod_nonneg (d * d) (show (2147483587 : Int) ≠ 0 by decide)
 have o2 := Int.emod_lt_of_pos (d * d) (show (0 : Int) < 2147483587 by decide)
 refine cp (Nat.le_of_ble_eq_true rfl) (fun l H1 hp s1 hl => ?_)
 have e18 : (10 : Int) ^ (18 : Int).toNat = 1000000000000000000 := by decide
 rw [e18] at hl
 refine q l H1 hp s1 ⟨hl, ?_, o1, by omega⟩
 by_cases h : (1000000000000000000 : Int) <= c
 ·rw [decide_eq_true h]
  show 0 <= c * 1
  omega
 ·rw [decide_eq_false h]
  show 0 <= c * 0
  omega
def cF (s : Int × Int) : Int := (s.2 * 48271 + 11) % 2147483647
def bH (s : Int × Int) (m : Int) : Int := if 0 < s.1 then s.1 % m else cF s * cF s % 2147483629 / 64 % m
def bv (s : Int × Int) (m : Int) : Int × Int := if 0 < s.1 then (s.1 / m, s.2) else (s.1, cF s)
theorem eA (s : Int × Int) {m : Int} (h : 1 <= m) : 0 <= bH s m /\ bH s m < m := by
 unfold bH
 split
 ·exact ⟨Int.emod_nonneg _ (by omega), Int.emod_lt_of_pos _ (by omega)⟩
 ·exact ⟨Int.emod_nonneg _ (by omega), Int.emod_lt_of_pos _ (by omega)⟩
def iI : Sp := fun vs H Q _ => ∃ (r : Addr) (s : Int × Int) (m : Int), vs = [.ref r, .int m] /\ cz H r s /\ 1 <= m /\ m < 2147483647 /\ ∀ (H' : Hp), cB r H H' -> cz H' r (bv s m) -> Q (.int (bH s m)) H'
theorem fo (T : mS K mg t) : bA P w K mg base iq 1 t.f_zaa t.d_zaa ["_law_source_here", "_law_many"] (iI) := by
 refine T.F_zaa.ok gA (fun vs H Q E h => ?_) (fun cdv A outer s H vs Q E hr h => ?_)
 ·obtain ⟨r, s, m, rfl, _⟩ := h
  rfl
 obtain ⟨r, ⟨a, b⟩, m, rfl, S, m0, m1, q⟩ := h
 refine ⟨_, (bJ (bO (aA pi (aT ga (pv 0) aI (fun _ _ => rfl)) aI (aJ _)) (bJ (ao (i := 2) gA.nd rfl (Or.inl rfl) (aq cN (aT ga (pv 0) aI (fun _ _ => rfl)) (pv 1)))
 (bJ (kI (aq dJ (aT ga (pv 0) aI (fun _ _ => rfl)) (pv 1)) (oA (pv 0) aI iX))
 (cH (aE (pv 2))))) aP)
 (bJ (kI (aq cN (aq ca (aq eZ (aT ga (pv 0) aI (fun _ _ => rfl)) aI) aI) aI) (oA (pv 0) aI iX))
 (cH (aE (aq cN (aq dJ (aq cN (aq eZ (aT ga (pv 0) aI (fun _ _ => rfl)) (aT ga (pv 0) aI (fun _ _ => rfl))) aI) aI) (pv 1)))))), mP (σ := [some _, some _, none]) rfl ?_⟩
 have hl : ak K H r [.int a, .int b] := ak.of S.l
 have a0 := S.a0
 have b0 := S.b0
 have b1 := S.b1
 f_look
 refine cG hl (zD _ _) ?_
 f_look
 refine bD (fun h => ?_) (fun h => ?_)
 ·f_look
  refine cG hl (zD _ _) ?_
  f_look
  refine cG hl (zD _ _) ?_
  f_look
  refine nJ ?_
  f_look
  refine nQ S.l rfl (fun H1 b1' l1 => ?_)
  f_look
  have q := q H1 b1'
  rw [show bH (a, b) m = a % m from if_pos h, show bv (a, b) m = (a / m, b) from if_pos h] at q
  exact q ⟨l1, Int.ediv_nonneg a0 (by omega), b0, b1⟩
 ·f_look
  refine cG hl (zI _ _) ?_
  f_look
  refine nJ ?_
  f_look
  rw [show bH (a, b) m = cF (a, b) * cF (a, b) % 2147483629 / 64 % m from if_neg h, show bv (a, b) m = (a, cF (a, b)) from if_neg h] at q
  simp only [cF, cz] at q
  have c1 := Int.emod_nonneg (b * 48271 + 11) (show (2147483647 : Int) ≠ 0 by decide)
  have c2 := Int.emod_lt_of_pos (b * 48271 + 11) (show (0 : Int) < 2147483647 by decide)
  generalize (b * 48271 + 11) % 2147483647 = c at *
  refine nQ S.l rfl (fun H1 b1' l1 => ?_)
  have hl1 : ak K H1 r [.int a, .int c] := ak.of l1
  f_look
  refine cG hl1 (zI _ _) ?_
  f_look
  refine cG hl1 (zI _ _) ?_
  f_look
  exact q _ b1' ⟨l1, a0, c1, c2⟩
theorem bW {H : Hp} {Q : VK} {E : XK} {r : Addr} {s : Int × Int} {m : Int} (S : cz H r s) (h1 : 1 <= m) (h2 : m < 2147483647) (q : ∀ H', cB r H H' -> cz H' r (bv s m) -> Q (.int (bH s m)) H') : iI [.ref r, .int m] H Q E := ⟨r, s, m, rfl, S, h1, h2, q⟩
theorem lZ {K : Fg} {H : Hp} {Q : VK} {E : XK} {p : Addr} {ns : List Int} {k : Int} (hs : ak K H p (ns.map V.int)) (hb : ∀ x ∈ ns, My.Bd 1048576 x) (h0 : 0 <= k) (h1 : k <= 1000) (q : ∀ r H', H r = none -> aa H H' -> cz H' r (qh ns k) -> Q (.ref r) H') : fM K [.ref p, .int k] H Q E := ⟨p, ns, k, rfl, hs, hb, h0, h1, q⟩
def pP (t : Tr) : Prop := bG t /\ qd t = true
theorem gm {k : Str} {r : List Tr} (h1 : k ∉ GRD) (h2 : r.length <= 20) (h3 : r.all dk = true) : pP (.tup (.str k :: r)) := ⟨⟨k, r, rfl, h2, h3⟩, by
 show (!decide (k ∈ GRD)) = true
 rw [decide_eq_false h1]; rfl⟩
theorem jy {ts : List Tr} {lo hi : Option Int} (h : ts.all (aF 2) = true) (hl : ts.length <= 900) : dk (.lst (eE ts lo hi)) = true := by
 show ((eE ts lo hi).all (aF 2) && decide ((eE ts lo hi).length <= 900)) = true
 rw [Bool.and_eq_true]
 exact ⟨List.all_eq_true.mpr fun x hx => List.all_eq_true.mp h x (qu hx), decide_eq_true (Nat.le_trans gI hl)⟩
def qe (H H' : Hp) : Hp := fun p => if (H p).isSome then none else H' p
def Nw (K : Fg) (H H' : Hp) (v : V) (t : Tr) : Prop := Is K (qe H H') v t
theorem cE {H H' : Hp} {p : Addr} {o : HO} (h : H p = none) (e : H' p = some o) : qe H H' p = some o := by
 unfold qe; rw [h]; exact e
theorem pr {H H' : Hp} : aa (qe H H') H' := fun p o e => by
 unfold qe at e
 split at e
 ·cases e
 ·exact e
theorem uV {H H' H'' : Hp} (k : ∀ p o, H p = none -> H' p = some o -> H'' p = some o) : aa (qe H H') (qe H H'') := fun p o e => by
 unfold qe at e ⊢
 split at e
 ·cases e
 ·rename_i h
  rw [if_neg h]
  exact k p o (by cases q : H p with | none => rfl | some _ => rw [q] at h; exact absurd rfl h) e
def dj (s : Int × Int) : Nat -> Int × Int
 | 0 => s
 | n + 1 => bv (dj s n) 2
def qf (x y : Str) (d : Int) : Str := if d = 0 then x else y
theorem oG {x y : Str} {d : Int} (h0 : 0 <= d) (h1 : d < 2) : fW [V.str x, .str y] d = some (.str (qf x y d)) := by
 rcases (show d = 0 ∨ d = 1 by omega) with rfl | rfl <;> rfl
def gy (sd : Str) (a b c cl kd : Int) (s : Int × Int) : Tr × (Int × Int) :=
 if kd = 0 then (.tup [.str "dot", .str sd, .int a, .int b, .int (2 + c), .int cl], s)
 else if kd = 1 then (.tup [.str "word", .str sd, .int a, .int b, .str (qf "ten" "two" c), .int cl], s)
 else if kd = 2 then (.tup [.str (qf "bar" "part" (bH s 2)), .str sd, .int a, .int 9, .int b, .int c, .int cl], bv s 2)
 else if kd = 3 then (.tup [.str "path", .str sd, .lst (eE [.tup [.int a, .int b], .tup [.int 9, .int c]] none (some (1 + bH s 2))), .int cl], bv s 2)
 else if kd = 4 then (.tup [.str "band", .str sd, .lst (eE [.tup [.int a, .int b, .int c], .tup [.int 9, .int c, .int b]] none (some (1 + bH s 2))), .int cl], bv s 2)
 else (.tup [.str "five", .str sd, .int a, .int 9, .lst [.int b, .int c, .int 3, .int 4, .int 5], .int cl], s)
def eB (s : Int × Int) : Tr × (Int × Int) := gy (qf "left" "right" (bH s 2)) (bH (bv s 2) 2) (bH (dj (bv s 2) 1) 2) (bH (dj (bv s 2) 2) 2) (bH (dj (bv s 2) 3) 2) (bH (dj (bv s 2) 4) 7) (bv (dj (bv s 2) 4) 7)
theorem rK (sd : Str) (a b c cl kd : Int) (s : Int × Int) : pP (gy sd a b c cl kd s).1 := by
 unfold gy
 have pk : ∀ d, qf "bar" "part" d ∉ GRD := fun d => by unfold qf; split <;> decide
 split
 ·exact gm (by decide) (Nat.le_of_ble_eq_true rfl) rfl
 split
 ·exact gm (by decide) (Nat.le_of_ble_eq_true rfl) rfl
 split
 ·exact gm (pk _) (Nat.le_of_ble_eq_true rfl) rfl
 split
 ·exact gm (by decide) (Nat.le_of_ble_eq_true rfl) (by rw [List.all_cons, List.all_cons, List.all_cons, jy (by rfl) (Nat.le_of_ble_eq_true rfl)]; rfl)
 split
 ·exact gm (by decide) (Nat.le_of_ble_eq_true rfl) (by rw [List.all_cons, List.all_cons, List.all_cons, jy (by rfl) (Nat.le_of_ble_eq_true rfl)]; rfl)
 ·exact gm (by decide) (Nat.le_of_ble_eq_true rfl) rfl
def oU (K : Fg) : Sp := fun vs H Q _ => ∃ (r : Addr) (s : Int × Int), vs = [.ref r] /\ cz H r s /\ ∀ v H', cB r H H' -> cz H' r (eB s).2 -> Nw K H H' v (eB s).1 -> Q v H'
theorem nE (T : mS K mg t) : bA P w K mg base iq 2 t.f_zai t.d_zai ["_law_source_here"] (oU K) := by
 have G_zaa := @fo P w K mg base t T
 refine T.F_zai.ok bR (fun vs H Q E h => ?_) (fun cdv A outer s H vs Q E hr h => ?_)
 ·obtain ⟨_, _, rfl, _⟩ := h
  rfl
 obtain ⟨r, s0, rfl, S, q⟩ := h
 refine ⟨_, (bJ (ao (i := 1) bR.nd rfl (Or.inl rfl) (aT ga (ay (af ah (af ah aB))) (au G_zaa (hr.mono (by decide)) rfl T.m_zaa T.k_l_draw T.b_l_draw .nil aU (af (pv 0) (af aI aB))) (fun _ _ => rfl)))
 (bJ (kI (sw rfl (er (fr := [("_law_source_here", 0)]) (osc := ai dQ) (N := ["_law_source_here", "_law_side", "_law_kind", "_law_a", "_law_b", "_law_c", "_law_colour"]) rfl rfl (by decide +kernel)) (eh rfl T.z_range (af aI aB)) (fun _ _ _ _ _ => (au G_zaa (hr.mono (by decide)) rfl T.m_zaa T.k_l_draw T.b_l_draw .nil aU (af (pv 1) (af aI aB))))) (uA rfl (ci (aL (i := 3) bR.nd rfl (Or.inl rfl)) (ci (aL (i := 4) bR.nd rfl (Or.inl rfl)) (ci (aL (i := 5) bR.nd rfl (Or.inl rfl)) (ci (aL (i := 6) bR.nd rfl (Or.inl rfl)) kX))))))
 (bJ (ao (i := 2) bR.nd rfl (Or.inl rfl) (au G_zaa (hr.mono (by decide)) rfl T.m_zaa T.k_l_draw T.b_l_draw .nil aU (af (pv 0) (af aI aB))))
 (bJ (bO (aA eL (pv 2) aI (aJ _)) (cH (aE (aS (af ah (af (pv 1) (af (pv 3) (af (pv 4) (af (aq ca aI (pv 5)) (af (pv 6) aB))))))))) aP)
 (bJ (bO (aA eL (pv 2) aI (aJ _)) (cH (aE (aS (af ah (af (pv 1) (af (pv 3) (af (pv 4) (af (aT ga (ay (af ah (af ah aB))) (pv 5) (fun _ _ => rfl)) (af (pv 6) aB))))))))) aP)
 (bJ (bO (aA eL (pv 2) aI (aJ _)) (cH (aE (aS (af (aT ga (ay (af ah (af ah aB))) (au G_zaa (hr.mono (by decide)) rfl T.m_zaa T.k_l_draw T.b_l_draw .nil aU (af (pv 0) (af aI aB))) (fun _ _ => rfl)) (af (pv 1) (af (pv 3) (af aI (af (pv 4) (af (pv 5) (af (pv 6) aB)))))))))) aP)
 (bJ (bO (aA eL (pv 2) aI (aJ _)) (cH (aE (aS (af ah (af (pv 1) (af (fE gQ (ay (af (aS (af (pv 3) (af (pv 4) aB))) (af (aS (af aI (af (pv 5) aB))) aB))) hZ (gW (aq ca aI (au G_zaa (hr.mono (by decide)) rfl T.m_zaa T.k_l_draw T.b_l_draw .nil aU (af (pv 0) (af aI aB)))))) (af (pv 6) aB))))))) aP)
 (bJ (bO (aA eL (pv 2) aI (aJ _)) (cH (aE (aS (af ah (af (pv 1) (af (fE gQ (ay (af (aS (af (pv 3) (af (pv 4) (af (pv 5) aB)))) (af (aS (af aI (af (pv 5) (af (pv 4) aB)))) aB))) hZ (gW (aq ca aI (au G_zaa (hr.mono (by decide)) rfl T.m_zaa T.k_l_draw T.b_l_draw .nil aU (af (pv 0) (af aI aB)))))) (af (pv 6) aB))))))) aP)
 (cH (aE (aS (af ah (af (pv 1) (af (pv 3) (af aI (af (ay (af (pv 4) (af (pv 5) (af aI (af aI (af aI aB)))))) (af (pv 6) aB))))))))))))))))), mP (σ := [some _, none, none, none, none, none, none]) rfl ?_⟩
 have hr0 : H r ≠ none := fun z => by rw [S.l] at z; cases z
 f_look
 refine cp (xs := [.str "left", .str "right"]) (Nat.le_of_ble_eq_true rfl) (fun l1 H1 hl1 s1 e1 => ?_)
 f_look
 refine bW (S.keep s1) (by decide) (by decide) (fun H2 b2 S2 => ?_)
 have i2 := eA s0 (m := 2) (by decide)
 have lr : l1 ≠ r := fun z => hr0 (by rw [<- z]; exact hl1)
 refine cG (ak.of (b2 _ _ lr e1)) (oG i2.1 i2.2) ?_
 have b02 : cB r H H2 := fun p o n e => b2 p o n (s1 p o e)
 clear b2 e1 hl1 s1 i2 lr S
 f_look
 refine xy ?_
 f_look
 refine yH (by decide) (by decide) ?_
 refine mj (fun j xs H3 => xs = (List.range j).map (fun i => V.int (bH (dj (bv s0 2) i) 2)) /\ cB r H2 H3 /\ cz H3 r (dj (bv s0 2) j)) (by decide) ⟨rfl, fun _ _ _ e => e, S2⟩ ?_ ?_ ?_
 ·rintro j xs H3 acc o hacc ⟨rfl, h3, h4⟩
  have ar : r ≠ acc := fun z => by rw [<- z, S2.l] at hacc; cases hacc
  refine ⟨rfl, fun c o' hc e => ?_, ⟨by rw [ac ar]; exact h4.l, h4.a0, h4.b0, h4.b1⟩⟩
  rw [ac (fun z => by rw [z, hacc] at e; cases e)]
  exact h3 _ _ hc e
 ·rintro j xs acc H3 R hj hacc ⟨rfl, h3, h4⟩ hac k
  have ar : acc ≠ r := fun z => by rw [z, S2.l] at hacc; cases hacc
  f_look
  refine bW h4 (by decide) (by decide) (fun H4 b4 S4 => ?_)
  refine k _ _ ⟨by rw [List.range_succ, List.map_append]; rfl, fun p o n e => b4 _ _ n (h3 _ _ n e), S4⟩ (b4 _ _ ar hac)
 ·rintro acc xs H3 hacc hxl ⟨rfl, h3, h4⟩ hac
  have b03 : cB r H H3 := fun p o n e => h3 _ _ n (b02 _ _ n e)
  refine ⟨acc, [.int (bH (bv s0 2) 2), .int (bH (dj (bv s0 2) 1) 2), .int (bH (dj (bv s0 2) 2) 2), .int (bH (dj (bv s0 2) 3) 2)], rfl, ak.of hac, rfl, ?_⟩
  clear hac hxl hacc h3 b02 S2
  f_look
  refine bW h4 (by decide) (by decide) (fun H5 b5 S5 => ?_)
  have b05 : cB r H H5 := fun p o n e => b5 _ _ n (b03 _ _ n e)
  have i3 := eA (bv s0 2) (m := 2) (by decide)
  have iC := eA (dj (bv s0 2) 2) (m := 2) (by decide)
  have q : ∀ v H', cB r H H' -> cz H' r (gy (qf "left" "right" (bH s0 2)) (bH (bv s0 2) 2) (bH (dj (bv s0 2) 1) 2) (bH (dj (bv s0 2) 2) 2) (bH (dj (bv s0 2) 3) 2) (bH (dj (bv s0 2) 4) 7) (bv (dj (bv s0 2) 4) 7)).2 -> Nw K H H' v (gy (qf "left" "right" (bH s0 2)) (bH (bv s0 2) 2) (bH (dj (bv s0 2) 1) 2) (bH (dj (bv s0 2) 2) 2) (bH (dj (bv s0 2) 3) 2) (bH (dj (bv s0 2) 4) 7) (bv (dj (bv s0 2) 4) 7)).1 -> Q v H' := q
  have S5 : cz H5 r (bv (dj (bv s0 2) 4) 7) := S5
  clear b5 h4 b03
  show qt _ _ _ [some (.ref r), some (.str (qf "left" "right" (bH s0 2))), some (.int (bH (dj (bv s0 2) 4) 7)), some (.int (bH (bv s0 2) 2)), some (.int (bH (dj (bv s0 2) 1) 2)), some (.int (bH (dj (bv s0 2) 2) 2)), some (.int (bH (dj (bv s0 2) 3) 2))] H5
  generalize bH (bv s0 2) 2 = a at *
  generalize bH (dj (bv s0 2) 1) 2 = b at *
  generalize bH (dj (bv s0 2) 2) 2 = c at *
  generalize bH (dj (bv s0 2) 3) 2 = cl at *
  generalize bH (dj (bv s0 2) 4) 7 = kd at *
  generalize qf "left" "right" (bH s0 2) = sd at *
  generalize bv (dj (bv s0 2) 4) 7 = s5 at *
  have dn : ∀ {v : V} {H' : Hp} {m : Tr} {s' : Int × Int}, gy sd a b c cl kd s5 = (m, s') -> cB r H H' -> cz H' r s' -> Nw K H H' v m -> Q v H' := fun e h1 h2 h3 => q _ _ h1 (by rw [e]; exact h2) (by rw [e]; exact h3)
  have tup : ∀ {p : Addr} {vs : List V} {ts : List Tr} {H' : Hp}, H p = none -> H' p = some (.tup vs) -> IsL K (qe H H') vs ts -> Nw K H H' (.ref p) (.tup ts) := fun h e g => .tup (aH.of (cE h e)) g
  have fr : ∀ {p : Addr} {H' : Hp} {s' : Int × Int}, cB r H H' -> cz H' r s' -> H' p = none -> H p = none := fun {p H' s'} bt sr h => by
   by_cases e : p = r
   ·rw [e, sr.l] at h; cases h
   ·cases z : H p with
    | none => rfl
    | some o => rw [bt p o e z] at h; cases h
  have sm : ∀ {A B : Hp}, cB r H A -> aa A B -> cB r H B := fun b s p o n e => s _ _ (b p o n e)
  f_look
  refine bD (fun h0 => ?_) (fun h0 => ?_)
  ·f_look
   rename_i p Hn n s e
   exact dn (if_pos h0) (sm b05 s) (S5.keep s) (tup (fr b05 S5 n) e (.cons .str (.cons .str (.cons .int (.cons .int (.cons .int (.cons .int .nil)))))))
  f_look
  refine bD (fun h1 => ?_) (fun h1 => ?_)
  ·f_look
   refine cp (xs := [.str "ten", .str "two"]) (Nat.le_of_ble_eq_true rfl) (fun l1 H1 hl1 s1 e1 => ?_)
   f_look
   refine cG (ak.of e1) (oG iC.1 iC.2) ?_
   f_look
   rename_i p Hn n s e
   exact dn ((if_neg h0).trans (if_pos h1)) (sm b05 (s1.trans s)) (S5.keep (s1.trans s)) (tup (fr b05 S5 (s1.free n)) e (.cons .str (.cons .str (.cons .int (.cons .int (.cons .str (.cons .int .nil)))))))
  f_look
  have i5 := eA s5 (m := 2) (by decide)
  refine bD (fun h2 => ?_) (fun h2 => ?_)
  ·f_look
   refine cp (xs := [.str "bar", .str "part"]) (Nat.le_of_ble_eq_true rfl) (fun l1 H1 hl1 s1 e1 => ?_)
   f_look
   refine bW (S5.keep s1) (by decide) (by decide) (fun H6 b6 S6 => ?_)
   have lr : l1 ≠ r := fun z => by rw [z, S5.l] at hl1; cases hl1
   refine cG (ak.of (b6 _ _ lr e1)) (oG i5.1 i5.2) ?_
   have b06 : cB r H H6 := fun p o n e => b6 _ _ n (sm b05 s1 _ _ n e)
   f_look
   rename_i p Hn n s e
   exact dn ((if_neg h0).trans ((if_neg h1).trans (if_pos h2))) (sm b06 s) (S6.keep s) (tup (fr b06 S6 n) e (.cons .str (.cons .str (.cons .int (.cons .int (.cons .int (.cons .int (.cons .int .nil))))))))
  f_look
  refine bD (fun h3 => ?_) (fun h3 => ?_)
  ·f_look
   rename_i p1 Ha n1 s1 e1 p2 Hb n2 s2 e2
   refine cp (xs := [.ref p1, .ref p2]) (Nat.le_of_ble_eq_true rfl) (fun l3 H3 hl3 s3 e3 => ?_)
   have s13 := s1.trans (s2.trans s3)
   f_look
   refine bW (S5.keep s13) (by decide) (by decide) (fun H6 b6 S6 => ?_)
   have b06 : cB r H H6 := fun p o n e => b6 _ _ n (sm b05 s13 _ _ n e)
   have nr : ∀ {p : Addr}, H5 p = none -> p ≠ r := fun h z => by rw [z, S5.l] at h; cases h
   have hl5 : H5 l3 = none := s1.free (s2.free hl3)
   have f1 := b6 _ _ (nr n1) (s3 _ _ (s2 _ _ e1))
   have f2 := b6 _ _ (nr (s1.free n2)) (s3 _ _ e2)
   have f3 := b6 _ _ (nr hl5) e3
   f_look
   refine ⟨_, _, rfl, ak.of f3, fun p4 n4 => ?_⟩
   have s6 := aa.new n4 (HO.lst (jd [.ref p1, .ref p2] none (some (1 + bH s5 2))))
   f_look
   rename_i p Hn n s e
   have s6n := s6.trans s
   refine dn ((if_neg h0).trans ((if_neg h1).trans ((if_neg h2).trans (if_pos h3)))) (sm b06 s6n) (S6.keep s6n) (tup (fr b06 S6 (s6.free n)) e (.cons .str (.cons .str (.cons (.lst (ak.of (cE (fr b06 S6 n4) (s _ _ ad))) (ig (.cons (.tup (aH.of (cE (fr b05 S5 n1) (s6n _ _ f1))) (.cons .int (.cons .int (.nil)))) (.cons (.tup (aH.of (cE (fr b05 S5 (s1.free n2)) (s6n _ _ f2))) (.cons .int (.cons .int (.nil)))) .nil)))) (.cons .int .nil)))))
  f_look
  refine bD (fun h4 => ?_) (fun h4 => ?_)
  ·f_look
   rename_i p1 Ha n1 s1 e1 p2 Hb n2 s2 e2
   refine cp (xs := [.ref p1, .ref p2]) (Nat.le_of_ble_eq_true rfl) (fun l3 H3 hl3 s3 e3 => ?_)
   have s13 := s1.trans (s2.trans s3)
   f_look
   refine bW (S5.keep s13) (by decide) (by decide) (fun H6 b6 S6 => ?_)
   have b06 : cB r H H6 := fun p o n e => b6 _ _ n (sm b05 s13 _ _ n e)
   have nr : ∀ {p : Addr}, H5 p = none -> p ≠ r := fun h z => by rw [z, S5.l] at h; cases h
   have hl5 : H5 l3 = none := s1.free (s2.free hl3)
   have f1 := b6 _ _ (nr n1) (s3 _ _ (s2 _ _ e1))
   have f2 := b6 _ _ (nr (s1.free n2)) (s3 _ _ e2)
   have f3 := b6 _ _ (nr hl5) e3
   f_look
   refine ⟨_, _, rfl, ak.of f3, fun p4 n4 => ?_⟩
   have s6 := aa.new n4 (HO.lst (jd [.ref p1, .ref p2] none (some (1 + bH s5 2))))
   f_look
   rename_i p Hn n s e
   have s6n := s6.trans s
   refine dn ((if_neg h0).trans ((if_neg h1).trans ((if_neg h2).trans ((if_neg h3).trans (if_pos h4))))) (sm b06 s6n) (S6.keep s6n) (tup (fr b06 S6 (s6.free n)) e (.cons .str (.cons .str (.cons (.lst (ak.of (cE (fr b06 S6 n4) (s _ _ ad))) (ig (.cons (.tup (aH.of (cE (fr b05 S5 n1) (s6n _ _ f1))) (.cons .int (.cons .int (.cons .int (.nil))))) (.cons (.tup (aH.of (cE (fr b05 S5 (s1.free n2)) (s6n _ _ f2))) (.cons .int (.cons .int (.cons .int (.nil))))) .nil)))) (.cons .int .nil)))))
  f_look
  refine cp (xs := [.int b, .int c, .int 3, .int 4, .int 5]) (Nat.le_of_ble_eq_true rfl) (fun l1 H1 hl1 s1 e1 => ?_)
  f_look
  rename_i p Hn n s e
  exact dn ((if_neg h0).trans ((if_neg h1).trans ((if_neg h2).trans ((if_neg h3).trans (if_neg h4))))) (sm b05 (s1.trans s)) (S5.keep (s1.trans s)) (tup (fr b05 S5 (s1.free n)) e (.cons .str (.cons .str (.cons .int (.cons .int (.cons (.lst (ak.of (cE (fr b05 S5 hl1) (s _ _ e1))) (.cons .int (.cons .int (.cons .int (.cons .int (.cons .int .nil)))))) (.cons .int .nil)))))))
def vB (s : Str) : Int × Int := if s = "x" then (0, 24) else (24, 0)
def de (s : Str) : List Tr := [.tup [.str "axis", .str s, .str "straight"], .tup [.str "tick", .str s, .int (vB s).1, .str "0"], .tup [.str "tick", .str s, .int (vB s).2, .str "1"]]
def SDS : List Str := ["x", "left", "right"]
def yU (k : Int) : Str := if k = 0 then "ann" else if k = 1 then "bo" else "cy"
def bQ (k : Int) (n : Nat) : List Tr := .tup [.str "frame", .str (yU k), .int 0, .int 0, .int 24, .int 24] :: ((SDS.take n).map de).flatten
theorem pX {k : Int} : ∀ t ∈ bQ k 3, bG t /\ aF 2 t = true := by
 intro t ht
 have e : bQ k 3 = .tup [.str "frame", .str (yU k), .int 0, .int 0, .int 24, .int 24] :: (de "x" ++ de "left" ++ de "right") := rfl
 rw [e] at ht
 rcases List.mem_cons.mp ht with rfl | h
 ·exact ⟨⟨_, _, rfl, Nat.le_of_ble_eq_true rfl, rfl⟩, rfl⟩
 ·have s : ∀ s, ∀ t ∈ de s, bG t /\ aF 2 t = true := fun s t h => by
   unfold de at h
   rcases List.mem_cons.mp h with rfl | h
   ·exact ⟨⟨_, _, rfl, Nat.le_of_ble_eq_true rfl, rfl⟩, rfl⟩
   rcases List.mem_cons.mp h with rfl | h
   ·exact ⟨⟨_, _, rfl, Nat.le_of_ble_eq_true rfl, rfl⟩, rfl⟩
   rcases List.mem_cons.mp h with rfl | h
   ·exact ⟨⟨_, _, rfl, Nat.le_of_ble_eq_true rfl, rfl⟩, rfl⟩
   ·exact nomatch h
  rcases List.mem_append.mp h with h | h
  ·rcases List.mem_append.mp h with h | h
   ·exact s _ _ h
   ·exact s _ _ h
  ·exact s _ _ h
def iP : SpT := fun _ as Φ _ => ∃ k : Int, as = [.fz (.int k)] /\ 0 <= k /\ k < 3 /\ Φ (.nw (.lst (bQ k 3)))
theorem jv (T : mS K mg t) : bA P w K mg base iq 1 t.f_zaj t.d_zaj ["_law_k"] (cZ K iP) := by
 refine T.F_zaj.ok bx (cK (fun B as Φ Ψ h => by obtain ⟨_, rfl, _⟩ := h; rfl)) (fun cdv A outer s H vs Q E hr h => ?_)
 obtain ⟨B, as, Φ, Ψ, rfl, hS, hx, go⟩ := cm h
 obtain ⟨k, rfl, k0, k1, φ⟩ := hS
 refine ⟨_, (bJ (ao (i := 1) bx.nd rfl (Or.inl rfl) (aT ga (ay (af ah (af ah (af ah aB)))) (pv 0) (fun _ _ => rfl)))
 (bJ (ao (i := 2) bx.nd rfl (Or.inl rfl) (ay (af (aS (af ah (af (pv 1) (af aI (af aI (af aI (af aI aB))))))) aB)))
 (bJ (cL PassesOwn.never rfl (gH (ay (af ah (af ah (af ah aB))))) (aL (i := 3) bx.nd rfl (Or.inl rfl)) (bJ (ao (i := 4) bx.nd rfl (Or.inl rfl) (aT ga (ay (af (ay (af aI (af aI aB))) (af (ay (af aI (af aI aB))) aB))) (cU gq rfl T.z_int oF (af (dR eL (pv 3) ah (aJ _)) aB)) (fun _ _ => rfl)))
 (cH (ao (i := 2) bx.nd rfl (Or.inl rfl) (aq dH (pv 2) (ay (af (aS (af ah (af (pv 3) (af ah aB)))) (af (aS (af ah (af (pv 3) (af (aT ga (pv 4) aI (fun _ _ => rfl)) (af ah aB))))) (af (aS (af ah (af (pv 3) (af (aT ga (pv 4) aI (fun _ _ => rfl)) (af ah aB))))) aB)))))))))
 (cH (aE (pv 2)))))), go _ _ (oq (τ := [.fz _, .no, .no, .no, .no]) rfl ?_)⟩
 have hk : fW [Tr.str "ann", .str "bo", .str "cy"] k = some (.str (yU k)) := by
  rcases (show k = 0 ∨ k = 1 ∨ k = 2 by omega) with rfl | rfl | rfl <;> rfl
 kd_mark
 refine dy rfl Rk.fz hk ?_
 kd_mark
 refine ⟨fun i τ => ∃ u v, τ = [.fz (.int k), .fz (.str (yU k)), .own (.lst (bQ k i)), u, v], ⟨_, _, rfl⟩, ?_, ?_⟩
 ·rintro i x τ hi ⟨u, v, rfl⟩
  obtain ⟨s, rfl, hs⟩ : ∃ s, x = .str s /\ SDS[i]? = some s := by
   have hi : ([.str "x", .str "left", .str "right"] : List Tr)[i]? = some x := hi
   match i, hi with
   | 0, hi => cases hi; exact ⟨_, rfl, rfl⟩
   | 1, hi => cases hi; exact ⟨_, rfl, rfl⟩
   | 2, hi => cases hi; exact ⟨_, rfl, rfl⟩
  have il : i < 3 := (List.getElem?_eq_some_iff.mp hs).1
  have he : fW [Tr.lst [.int 24, .int 0], .lst [.int 0, .int 24]] (if decide (s = "x") = true then 1 else 0) = some (.lst [.int (vB s).1, .int (vB s).2]) := by
   unfold vB
   by_cases h : s = "x"
   ·rw [if_pos h, decide_eq_true h]; rfl
   ·rw [if_neg h, decide_eq_false h]; rfl
  have eb : bQ k (i + 1) = bQ k i ++ de s := by
   unfold bQ
   rw [List.take_succ, hs, List.map_append, List.flatten_append, List.cons_append]
   rw [show ((some s).toList.map de).flatten = de s from List.append_nil _]
  have bl : (bQ k i).length <= 100 := by
   rcases (show i = 0 ∨ i = 1 ∨ i = 2 by omega) with rfl | rfl | rfl <;> exact Nat.le_of_ble_eq_true rfl
  kd_mark
  refine dy rfl Rk.fz he ?_
  kd_mark
  refine hI (ts := bQ k i) (us := de s) rfl (by dl_open) (by dl_open) (by show _ + 3 <= 100000; omega) ?_
  kd_mark
  refine ⟨.fz (.str s), .fz (.lst [.int (vB s).1, .int (vB s).2]), ?_⟩
  rw [eb]
 ·rintro τ ⟨u, v, rfl⟩
  kd_mark
  exact nF (by kt_join) φ
def ij (l m : Addr) (H : Hp) : Hp := fun p => if p = l ∨ p = m then none else H p
theorem cI {l m p : Addr} {H : Hp} {o : HO} (h : ij l m H p = some o) : p ≠ l /\ p ≠ m /\ H p = some o := by
 unfold ij at h
 split at h
 ·cases h
 ·rename_i hn
  exact ⟨fun e => hn (.inl e), fun e => hn (.inr e), h⟩
theorem cc {l m p : Addr} {H : Hp} {o : HO} (h1 : p ≠ l) (h2 : p ≠ m) (h : H p = some o) : ij l m H p = some o := by
 unfold ij; rw [if_neg (fun z => z.elim h1 h2)]; exact h
theorem rS {l m : Addr} {H : Hp} : aa (ij l m H) H := fun _ _ h => (cI h).2.2
theorem oH {K : Fg} {l m : Addr} {H : Hp} {vs ws : List V} (h1 : H l = some (.lst vs)) (h2 : H m = some (.lst ws)) : ∀ p xs, aH K H p xs -> aH K (ij l m H) p xs := fun p xs h => by
 rcases h with (h | ⟨ob, h⟩) | h
 ·exact .inl (.inl (cc (eO h h1 nofun) (eO h h2 nofun) h))
 ·exact .inl (.inr ⟨ob, cc (eO h h1 nofun) (eO h h2 nofun) h⟩)
 ·exact .inr h
abbrev S2 := List Tr × List Tr
def fH (st : S2) (m : Tr × (Int × Int)) : Tr := if st.2 = [] then m.1 else if bH m.2 3 = 0 then st.2.getD (bH (bv m.2 3) st.2.length).toNat .non else m.1
def gz (ns : List Int) (st : S2) (j : Int) : S2 := (st.1 ++ [fH st (eB (qh ns (1 + j)))], st.2 ++ [fH st (eB (qh ns (1 + j)))])
def qg (ns : List Int) (st : S2) (lo : Int) : Nat -> S2
 | 0 => st
 | n + 1 => gz ns (qg ns st lo n) (lo + (n : Nat))
def fe (ns : List Int) : Int := 1 + aW ns 0 % 3
def li (ns : List Int) : Int := max 0 (min ((ns.length : Int) - 1) 40)
def eC (ns : List Int) (k : Int) : Int := li ns * k / fe ns
def bV (ns : List Int) : Nat -> S2
 | 0 => ([], [])
 | k + 1 => qg ns ((bV ns k).1 ++ bQ (k : Nat) 3, (bV ns k).2) (eC ns (k : Nat)) (eC ns ((k : Nat) + 1) - eC ns (k : Nat)).toNat
def endT : List Tr := [.tup [.str "legend", .str "colour", .str "straight"]]
def keyL : List Tr := [.tup [.str "key", .str "colour", .int 9, .int 8, .str "0", .int 0], .tup [.str "key", .str "colour", .int 9, .int 20, .str "1", .int 255]]
def ax (ns : List Int) : List Tr := (bV ns (fe ns).toNat).1 ++ endT ++ keyL
def gG (st : S2) (n : Nat) : Prop := st.1.length <= n /\ st.2.length <= n /\ (∀ t ∈ st.1, bG t) /\ ∀ t ∈ st.2, pP t
theorem pC (s : Int × Int) : pP (eB s).1 := rK _ _ _ _ _ _ _
theorem lz {st : S2} {n : Nat} {s : Int × Int} (h : gG st n) : pP (fH st (eB s)) := by
 unfold fH
 split
 ·exact pC s
 split
 ·rename_i hne _
  have hl : 0 < st.2.length := List.length_pos_iff.mpr hne
  have i := eA (bv (eB s).2 3) (m := (st.2.length : Int)) (by omega)
  have hi : (bH (bv (eB s).2 3) st.2.length).toNat < st.2.length := by omega
  rw [List.getD_eq_getElem?_getD, List.getElem?_eq_getElem hi]
  exact h.2.2.2 _ (List.getElem_mem hi)
 ·exact pC s
theorem qk {ns : List Int} {st : S2} {j : Int} {n : Nat} (h : gG st n) : gG (gz ns st j) (n + 1) := by
 have p := lz (s := qh ns (1 + j)) h
 obtain ⟨h1, h2, h3, h4⟩ := h
 unfold gz
 refine ⟨by rw [List.length_append]; show _ + 1 <= _; omega, by rw [List.length_append]; show _ + 1 <= _; omega, fun t ht => ?_, fun t ht => ?_⟩
 ·rcases List.mem_append.mp ht with z | z
  ·exact h3 t z
  ·rw [List.mem_singleton.mp z]; exact p.1
 ·rcases List.mem_append.mp ht with z | z
  ·exact h4 t z
  ·rw [List.mem_singleton.mp z]; exact p
theorem lO {ns : List Int} {st : S2} {lo : Int} {n : Nat} (h : gG st n) : ∀ i, gG (qg ns st lo i) (n + i)
 | 0 => h
 | i + 1 => qk (lO h i)
theorem gn (ns : List Int) : 1 <= fe ns /\ fe ns <= 3 := by unfold fe; omega
theorem pS (ns : List Int) : 0 <= li ns /\ li ns <= 40 := by unfold li; omega
theorem kP {ns : List Int} {k : Int} (h0 : 0 <= k) (h1 : k <= 3) : 0 <= eC ns k /\ eC ns k <= 120 := by
 have f := gn ns
 have m := pS ns
 unfold eC
 have a : 0 <= li ns * k := Int.mul_nonneg m.1 h0
 have b : li ns * k <= 40 * 3 := Int.le_trans (Int.mul_le_mul_of_nonneg_right m.2 h0) (Int.mul_le_mul_of_nonneg_left h1 (by decide))
 exact ⟨Int.ediv_nonneg a (by omega), Int.le_trans (Int.ediv_le_self _ a) b⟩
theorem kB {k : Int} {st : S2} {n : Nat} (h : gG st n) : gG (st.1 ++ bQ k 3, st.2) (n + 10) := by
 obtain ⟨h1, h2, h3, h4⟩ := h
 refine ⟨by rw [List.length_append]; show _ + 10 <= _; omega, by show st.2.length <= _; omega, fun t ht => ?_, h4⟩
 rcases List.mem_append.mp ht with z | z
 ·exact h3 t z
 ·exact (pX t z).1
theorem ed (ns : List Int) : ∀ k, k <= 3 -> gG (bV ns k) (k * 130)
 | 0, _ => ⟨Nat.le_refl _, Nat.le_refl _, (fun _ h => nomatch h), (fun _ h => nomatch h)⟩
 | k + 1, hk => by
  have ih := ed ns k (by omega)
  have a := kP (ns := ns) (k := (k : Nat)) (by omega) (by omega)
  have b := kP (ns := ns) (k := ((k : Nat) : Int) + 1) (by omega) (by omega)
  have := lO (ns := ns) (lo := eC ns (k : Nat)) (kB (k := (k : Nat)) ih) (eC ns ((k : Nat) + 1) - eC ns (k : Nat)).toNat
  obtain ⟨h1, h2, h3, h4⟩ := this
  exact ⟨Nat.le_trans h1 (by omega), Nat.le_trans h2 (by omega), h3, h4⟩
theorem bU (ns : List Int) : (ax ns).length <= 900 /\ ∀ t ∈ ax ns, bG t := by
 have f := gn ns
 obtain ⟨h1, _, h3, _⟩ := ed ns (fe ns).toNat (by omega)
 have hk : (fe ns).toNat <= 3 := by omega
 unfold ax
 refine ⟨by rw [List.length_append, List.length_append]; show _ + 1 + 2 <= 900; omega, fun t ht => ?_⟩
 rcases List.mem_append.mp ht with ht | ht
 ·rcases List.mem_append.mp ht with ht | ht
  ·exact h3 t ht
  ·rw [List.mem_singleton.mp ht]
   exact ⟨_, _, rfl, Nat.le_of_ble_eq_true rfl, rfl⟩
 ·rcases List.mem_cons.mp ht with rfl | ht
  ·exact ⟨_, _, rfl, Nat.le_of_ble_eq_true rfl, rfl⟩
  ·rw [List.mem_singleton.mp ht]
   exact ⟨_, _, rfl, Nat.le_of_ble_eq_true rfl, rfl⟩
structure J2 (K : Fg) (H0 H : Hp) (l m : Addr) (st : S2) (vs ws : List V) : Prop where
 e1 : H l = some (.lst vs)
 e2 : H m = some (.lst ws)
 ne : l ≠ m
 i1 : IsL K (ij l m H) vs st.1
 i2 : IsL K (ij l m H) ws st.2
 n1 : H0 l = none
 n2 : H0 m = none
 s : aa H0 H
section
variable {K : Fg} {H0 H H1 H' H'' : Hp} {l m : Addr} {st : S2} {vs ws : List V}
theorem J2.sm (h : J2 K H0 H l m st vs ws) (s : aa H H') : J2 K H0 H' l m st vs ws := by
 have f : aa (ij l m H) (ij l m H') := fun p o e => let ⟨a, b, c⟩ := cI e; cc a b (s _ _ c)
 exact ⟨s _ _ h.e1, s _ _ h.e2, h.ne, h.i1.same f, h.i2.same f, h.n1, h.n2, h.s.trans s⟩
theorem J2.add (h : J2 K H0 H l m st vs ws) {v : V} {t : Tr} (iv : Is K (ij l m H') v t) (b1 : cB m H H') (b2 : cB l H' H'') (e1 : H'' l = some (.lst (vs ++ [v]))) (e2 : H' m = some (.lst (ws ++ [v]))) : J2 K H0 H'' l m (st.1 ++ [t], st.2 ++ [t]) (vs ++ [v]) (ws ++ [v]) := by
 have f : aa (ij l m H) (ij l m H'') := fun p o e => let ⟨a, b, c⟩ := cI e; cc a b (b2 _ _ a (b1 _ _ b c))
 have f' : aa (ij l m H') (ij l m H'') := fun p o e => let ⟨a, b, c⟩ := cI e; cc a b (b2 _ _ a c)
 refine ⟨e1, b2 _ _ h.ne.symm e2, h.ne, (h.i1.same f).snoc (iv.same f'), (h.i2.same f).snoc (iv.same f'), h.n1, h.n2, fun p o e => ?_⟩
 exact b2 _ _ (fun z => by rw [z, h.n1] at e; cases e) (b1 _ _ (fun z => by rw [z, h.n2] at e; cases e) (h.s _ _ e))
theorem tj {v : V} {t : Tr} (iv : Nw K H H' v t) (h1 : H l ≠ none) (h2 : H m ≠ none) (s : aa H' H'') : Is K (ij l m H'') v t := Is.same (fun p o e => by
 have n : H p = none := by
  unfold qe at e
  split at e
  ·cases e
  ·rename_i h
   cases q : H p with
   | none => rfl
   | some _ => rw [q] at h; exact absurd rfl h
 exact cc (fun z => h1 (by rw [<- z]; exact n)) (fun z => h2 (by rw [<- z]; exact n)) (s _ _ (pr _ _ e))) iv
end
theorem si {K : Fg} {H : Hp} {Q : VK} {E : XK} {k : Int} (h0 : 0 <= k) (h1 : k < 3) (q : ∀ b bs H', aa H H' -> H' b = some (.lst bs) -> H b = none -> IsL K H' bs (bQ k 3) -> Q (.ref b) H') : cZ K iP [.int k] H Q E :=
 dF (a := (0 : Nat)) (as := [.fz (.int k)]) (Φ := fun x => x = .nw (.lst (bQ k 3))) (.cons .int .nil) ⟨k, rfl, h0, h1, rfl⟩ fun v F' H' x s i _ r e => by
  subst e
  obtain ⟨b, rfl, ow, _, hn⟩ := r
  cases ow with
  | lst h g => exact q b _ H' s h hn (IsL.same i g)
theorem yD {K : Fg} {H : Hp} {Q : VK} {E : XK} {r : Addr} {s : Int × Int} (S : cz H r s) (q : ∀ v H', cB r H H' -> cz H' r (eB s).2 -> Nw K H H' v (eB s).1 -> Q v H') : oU K [.ref r] H Q E := ⟨r, s, rfl, S, q⟩
theorem pM {K : Fg} {H H' : Hp} (ht : ∀ p xs, aH K H p xs -> aH K H' p xs) {n : Nat} {vs : List V} {ts : List Tr} (h : IsL K H vs ts) (k : ∀ t ∈ ts, aF n t = true) : IsL K H' vs ts := fk (fun a b => hU ht a b) h (List.all_eq_true.mpr k)
def jb (K : Fg) : Sp := fun vs H Q _ => ∃ (p : Addr) (ns : List Int), vs = [.ref p] /\ ak K H p (ns.map V.int) /\ ns.length <= 63 /\ (∀ x ∈ ns, My.Bd 1048576 x) /\ ∀ L H', aa H H' -> Is K H' (.ref L) (.lst (ax ns)) -> Q (.ref L) H'
theorem jI (T : mS K mg t) : bA P w K mg base iq 3 t.f_zab t.d_zab ["_law_script"] (jb K) := by
  have G_zac := @dI P w K mg base t T
  have G_zaj := @jv P w K mg base t T
  have G_zah := @gR P w K mg base t T
  have G_zai := @nE P w K mg base t T
  have G_zaa := @fo P w K mg base t T
  refine T.F_zab.ok az (fun vs H Q E h => ?_) (fun cdv A outer s H vs Q E hr h => ?_)
  · obtain ⟨_, _, rfl, _⟩ := h
    rfl
  obtain ⟨ps, ns, rfl, hS, hn, hb, q⟩ := h
  refine' ⟨_, ?h, ?g⟩
  case h =>
   refine' bJ ?x1a ?x1b
   case x1a => exact (ao (i := 1) az.nd rfl (Or.inl rfl) (aq ca aI (aq cN (au G_zac (hr.mono (by decide)) rfl T.m_zac T.k_l_cell_at T.b_l_cell_at .nil aU (af (pv 0) (af aI aB))) aI)))
   case x1b =>
   refine' bJ ?x2a ?x2b
   case x2a => exact (ao (i := 2) az.nd rfl (Or.inl rfl) (aX (md rfl) rfl T.z_max uk (af aI (af (aX (lU rfl) rfl T.z_min uQ (af (aq nD (aX aK rfl T.z_len PySem.boot_len (af (pv 0) aB)) aI) (af aI aB))) aB))))
   case x2b =>
   refine' bJ ?x3a ?x3b
   case x3a => exact (ao (i := 3) az.nd rfl (Or.inl rfl) (ay aB))
   case x3b =>
   refine' bJ ?x4a ?x4b
   case x4a => exact (ao (i := 4) az.nd rfl (Or.inl rfl) (ay aB))
   case x4b =>
   refine' bJ ?x5a ?x5b
   case x5a => exact (cL PassesOwn.never rfl (eh rfl T.z_range (af (pv 1) aB)) (aL (i := 5) az.nd rfl (Or.inl rfl)) (bJ (ao (i := 3) az.nd rfl (Or.inl rfl) (aq dH (pv 3) (au G_zaj (hr.mono (by decide)) rfl T.m_zaj T.k_l_begun T.b_l_begun .nil aU (af (pv 5) aB)))) (cH (cL PassesOwn.never rfl (gc rfl T.z_range (af (aq dJ (aq eZ (pv 2) (pv 5)) (pv 1)) (af (aq dJ (aq eZ (pv 2) (aq ca (pv 5) aI)) (pv 1)) aB))) (aL (i := 7) az.nd rfl (Or.inl rfl)) (bJ (ao (i := 8) az.nd rfl (Or.inl rfl) (au G_zah (hr.mono (by decide)) rfl T.m_zah T.k_l_source T.b_l_source .nil aU (af (pv 0) (af (aq ca aI (pv 7)) aB)))) (bJ (ao (i := 9) az.nd rfl (Or.inl rfl) (au G_zai (hr.mono (by decide)) rfl T.m_zai T.k_l_one T.b_l_one .nil aU (af (pv 8) aB))) (bJ (bO (PW.pt (gY (aA (vg hr.units0) (pv 4) (ay aB) (aJ _)) (gU (aA eL (au G_zaa (hr.mono (by decide)) rfl T.m_zaa T.k_l_draw T.b_l_draw .nil aU (af (pv 8) (af aI aB))) aI (aJ _))))) (cH (ao (i := 9) az.nd rfl (Or.inl rfl) (aT ga (pv 4) (au G_zaa (hr.mono (by decide)) rfl T.m_zaa T.k_l_draw T.b_l_draw .nil aU (af (pv 8) (af (aX aK rfl T.z_len PySem.boot_len (af (pv 4) aB)) aB))) (fun _ _ => rfl)))) aP) (bJ (bX (eM PySem.F.plainAttrs_list PySem.F.slot_list_append PySem.F.type_list_append aQ (pv 4) (af (pv 9) aB))) (cH (bX (eM PySem.F.plainAttrs_list PySem.F.slot_list_append PySem.F.type_list_append aQ (pv 3) (af (pv 9) aB))))))))))))
   case x5b =>
   refine' bJ ?x6a ?x6b
   case x6a =>
    refine' ao (i := 6) ?x7a ?x7b ?x7c ?x7d ?y7 ?z7
    case y7 => rfl
    case z7 => exact .inr rfl
    case x7a => exact az.nd
    case x7b => exact rfl
    case x7c => exact (Or.inl rfl)
    case x7d =>
    refine' ay ?x8a
    case x8a =>
    refine' af ?x9a ?x9b
    case x9a =>
     refine' aS ?x10a
     case x10a =>
     refine' af ?x11a ?x11b
     case x11a => exact ah
     case x11b =>
     refine' af ?x12a ?x12b
     case x12a => exact ah
     case x12b =>
     refine' af ?x13a ?x13b
     case x13a => exact aI
     case x13b => exact (af aI (af ah (af aI aB)))
    case x9b =>
    refine' af ?x14a ?x14b
    case x14a =>
     refine' aS ?x15a
     case x15a =>
     refine' af ?x16a ?x16b
     case x16a => exact ah
     case x16b =>
     refine' af ?x17a ?x17b
     case x17a => exact ah
     case x17b =>
     refine' af ?x18a ?x18b
     case x18a => exact aI
     case x18b => exact (af aI (af ah (af aI aB)))
    case x14b => exact aB
   case x6b =>
   refine' cH ?x19a
   case x19a =>
   refine' aE ?x20a
   case x20a =>
   refine' aq ?x21a ?x21b ?x21c
   case x21a => exact dH
   case x21b =>
    refine' aq ?x22a ?x22b ?x22c
    case x22a => exact dH
    case x22b => exact (pv 3)
    case x22c =>
    refine' ay ?x23a
    case x23a =>
    refine' af ?x24a ?x24b
    case x24a => exact (aS (af ah (af ah (af ah aB))))
    case x24b => exact aB
   case x21c => exact (pv 6)
  refine mP (σ := [some _, none, none, none, none, none, none, none, none, none]) rfl ?_
  f_look
  have f := gn ns
  have m := pS ns
  have em : (if (if (40 : Int) < ((ns.map V.int).length : Nat) - 1 then (40 : Int) else ((ns.map V.int).length : Nat) - 1) > 0 then (if (40 : Int) < ((ns.map V.int).length : Nat) - 1 then (40 : Int) else ((ns.map V.int).length : Nat) - 1) else 0) = li ns := by
    rw [List.length_map]; unfold li
    split <;> split <;> omega
  rw [em]
  have ef : 1 + aW ns 0 % 3 = fe ns := rfl
  rw [ef]
  refine cp (xs := []) (Nat.le_of_ble_eq_true rfl) (fun l H1 hl s1 e1 => ?_)
  f_look
  refine cp (xs := []) (Nat.le_of_ble_eq_true rfl) (fun lm H2 hlm s2 e2 => ?_)
  have nlm : l ≠ lm := fun z => by rw [<- z, e1] at hlm; cases hlm
  have J0 : J2 K H H2 l lm (bV ns 0) [] [] := ⟨s2 _ _ e1, e2, nlm, .nil, .nil, hl, s1.free hlm, s1.trans s2⟩
  f_look
  refine lc (fun i σ HD => ∃ l vs ws u5 u7 u8 u9, σ = [some (.ref ps), some (.int (fe ns)), some (.int (li ns)), some (.ref l), some (.ref lm), u5, none, u7, u8, u9] /\ J2 K H HD l lm (bV ns i) vs ws) ⟨l, [], [], none, none, none, none, rfl, J0⟩ ?_ ?_
  · rintro k σ HD hk ⟨l, vs, ws, u5, u7, u8, u9, rfl, J⟩
    have hk3 : k < 3 := by omega
    obtain ⟨o1, o2, o3, o4⟩ := ed ns k (by omega)
    have lv := J.i1.length
    have lw := J.i2.length
    f_look
    refine si (k := 0 + (k : Nat)) (by omega) (by omega) (fun b bs H3 s3 hb3 nb ib => ?_)
    have J3 := J.sm s3
    have lb : bs.length = 10 := ib.length
    refine jF (ak.of J3.e1) (ak.of hb3) (by omega) (fun l' H4 nl' s4 e4 => ?_)
    have J4 := J3.sm s4
    have nlm' : l' ≠ lm := fun z => by rw [z, J3.e2] at nl'; cases nl'
    have kb : ∀ t ∈ bQ (k : Nat) 3, aF 2 t = true := fun t ht => (pX t ht).2
    have ez : (0 : Int) + (k : Nat) = (k : Nat) := Int.zero_add _
    rw [ez] at ib
    have J5 : J2 K H H4 l' lm ((bV ns k).1 ++ bQ (k : Nat) 3, (bV ns k).2) (vs ++ bs) ws := by
      have f : aa (ij l lm H3) (ij l' lm H4) := fun p o e => by
        obtain ⟨_, b, c⟩ := cI e
        exact cc (fun z => by rw [z, nl'] at c; cases c) b (s4 _ _ c)
      exact ⟨e4, J4.e2, nlm', (J3.i1.same f).app (pM (oH e4 J4.e2) (ib.same s4) kb), J3.i2.same f, J3.s.free nl', J4.n2, J4.s⟩
    rw [ez]
    clear J3 J4 ib e4 hb3 s3 s4 nb nl' J
    f_look
    have la := kP (ns := ns) (k := (k : Nat)) (by omega) (by omega)
    have lb' := kP (ns := ns) (k := ((k : Nat) : Int) + 1) (by omega) (by omega)
    refine tf (i := eC ns (k : Nat)) (j := eC ns ((k : Nat) + 1)) (by omega) (by omega) (by omega) (by omega) ?_
    have ok0 := kB (k := (k : Nat)) (ed ns k (by omega))
    refine lc (fun j σ HD => ∃ vs ws u7 u8 u9, σ = [some (.ref ps), some (.int (fe ns)), some (.int (li ns)), some (.ref l'), some (.ref lm), some (.int (k : Nat)), none, u7, u8, u9] /\ J2 K H HD l' lm (qg ns ((bV ns k).1 ++ bQ (k : Nat) 3, (bV ns k).2) (eC ns (k : Nat)) j) vs ws) ⟨vs ++ bs, ws, _, _, _, rfl, J5⟩ ?_ ?_
    · clear J5 lv lw lb o1 o2 o3 o4
      rintro j σ HD hj ⟨vs, ws, u7, u8, u9, rfl, J⟩
      obtain ⟨o1, o2, o3, o4⟩ := lO (ns := ns) (lo := eC ns (k : Nat)) ok0 j
      have lv := J.i1.length
      have lw := J.i2.length
      have hj : j < (eC ns ((k : Nat) + 1) - eC ns (k : Nat)).toNat := hj
      have hj120 : j < 120 := by omega
      have est : qg ns ((bV ns k).1 ++ bQ (k : Nat) 3, (bV ns k).2) (eC ns (k : Nat)) (j + 1) = gz ns (qg ns ((bV ns k).1 ++ bQ (k : Nat) 3, (bV ns k).2) (eC ns (k : Nat)) j) (eC ns (k : Nat) + (j : Nat)) := rfl
      rw [est]
      clear est
      generalize qg ns ((bV ns k).1 ++ bQ (k : Nat) 3, (bV ns k).2) (eC ns (k : Nat)) j = st at *
      f_look
      refine lZ (k := 1 + (eC ns (k : Nat) + (j : Nat))) (J.s.seq hS) hb (by omega) (by omega) (fun r H1 nr s1 S1 => ?_)
      f_look
      refine yD S1 (fun v H2 b2 S2 nv => ?_)
      have S2 : cz H2 r (eB (qh ns (1 + (eC ns (k : Nat) + (j : Nat))))).2 := S2
      have nv : Nw K H1 H2 v (eB (qh ns (1 + (eC ns (k : Nat) + (j : Nat))))).1 := nv
      have sD : aa HD H2 := fun p o e => b2 _ _ (fun z => by rw [z, nr] at e; cases e) (s1 _ _ e)
      have h1l : H1 l' ≠ none := fun z => by rw [s1 _ _ J.e1] at z; cases z
      have h1m : H1 lm ≠ none := fun z => by rw [s1 _ _ J.e2] at z; cases z
      have Jd := J.sm sD
      generalize hone : eB (qh ns (1 + (eC ns (k : Nat) + (j : Nat)))) = on at *
      have stp : ∀ t, fH st on = t -> (st.1 ++ [t], st.2 ++ [t]) = gz ns st (eC ns (k : Nat) + (j : Nat)) := fun t e => by
        unfold gz; rw [hone, e]
      f_look
      refine cp (xs := []) (Nat.le_of_ble_eq_true rfl) (fun le He ne se ee => ?_)
      f_look
      have Je := Jd.sm se
      refine yF (ak.of Je.e2) (ak.of ee) ?_
      have Se := S2.keep se
      f_look
      refine kG (fun hm => ?_) (fun hm => ?_)
      rotate_left
      · have wne : st.2 ≠ [] := fun z => by
          rw [z] at lw
          have : ws = [] := List.length_eq_zero_iff.mp lw
          rw [this] at hm; simp at hm
        have wpos : 0 < st.2.length := List.length_pos_iff.mpr wne
        f_look
        refine bW (s := on.2) Se (by decide) (by decide) (fun H4 b4 S4 => ?_)
        have rl : ∀ {q : Addr} {o : HO}, HD q = some o -> q ≠ r := fun {q o} e z => by rw [z, nr] at e; cases e
        have s4 : aa HD H4 := fun p o e => b4 _ _ (rl e) (se _ _ (sD _ _ e))
        have J4 := J.sm s4
        f_look
        refine bD (fun h0 => ?_) (fun h0 => ?_)
        · f_look
          refine z_len (.inl (ak.of J4.e2)) ?_
          f_look
          have i5 := eA (bv on.2 3) (m := (ws.length : Int)) (by omega)
          refine bW (s := bv on.2 3) S4 (by omega) (by omega) (fun H5 b5 S5 => ?_)
          have s5 : aa HD H5 := fun p o e => b5 _ _ (rl e) (s4 _ _ e)
          have J5 := J.sm s5
          have hi : (bH (bv on.2 3) ws.length).toNat < st.2.length := by omega
          obtain ⟨v', hv', iv'⟩ := J5.i2.get (List.getElem?_eq_getElem hi)
          have hat : fW ws (bH (bv on.2 3) ws.length) = some v' := by
            have := bi hv'
            rw [Int.toNat_of_nonneg i5.1] at this
            exact this
          refine cG (ak.of J5.e2) hat ?_
          f_look
          have ep : fH st on = st.2[(bH (bv on.2 3) ws.length).toNat] := by
            unfold fH
            rw [if_neg wne, if_pos h0, <- lw, List.getD_eq_getElem?_getD, List.getElem?_eq_getElem hi]; rfl
          refine di (ak.of J5.e2) ?_
          f_look
          refine aZ J5.e2 (Nat.lt_of_le_of_lt (show ws.length <= 900 by omega) (by decide)) (fun H8 b8 e8 => ?_)
          f_look
          have e1' := b8 _ _ J5.ne J5.e1
          refine di (ak.of e1') ?_
          f_look
          refine aZ e1' (Nat.lt_of_le_of_lt (show vs.length <= 900 by omega) (by decide)) (fun H9 b9 e9 => ?_)
          f_look
          have fin := J5.add (Is.same (fun p o e => let ⟨a, b, c⟩ := cI e; cc a b (b8 _ _ b c)) iv') b8 b9 e9 e8
          rw [stp _ ep] at fin
          exact ⟨_, _, _, _, _, rfl, fin⟩
        · f_look
          refine di (ak.of J4.e2) ?_
          f_look
          refine aZ J4.e2 (Nat.lt_of_le_of_lt (show ws.length <= 900 by omega) (by decide)) (fun H8 b8 e8 => ?_)
          f_look
          have e1' := b8 _ _ J4.ne J4.e1
          refine di (ak.of e1') ?_
          f_look
          refine aZ e1' (Nat.lt_of_le_of_lt (show vs.length <= 900 by omega) (by decide)) (fun H9 b9 e9 => ?_)
          f_look
          have fin := J4.add (Is.same (fun p o e => let ⟨a, b, c⟩ := cI e; cc a b (b8 _ _ b c)) (tj (Is.same (uV fun p o hn e => b4 _ _ (fun z => by rw [z, S1.l] at hn; cases hn) (se _ _ e)) nv : Nw K H1 H4 v on.1) h1l h1m (aa.refl _))) b8 b9 e9 e8
          rw [stp _ ((if_neg wne).trans (if_neg h0))] at fin
          exact ⟨_, _, _, _, _, rfl, fin⟩
      · have wem : st.2 = [] := by
          have : ws = [] := by simpa using hm
          exact List.length_eq_zero_iff.mp (by rw [<- lw, this]; rfl)
        f_look
        refine di (ak.of Je.e2) ?_
        f_look
        refine aZ Je.e2 (Nat.lt_of_le_of_lt (show ws.length <= 900 by omega) (by decide)) (fun H8 b8 e8 => ?_)
        f_look
        have e1' := b8 _ _ Je.ne Je.e1
        refine di (ak.of e1') ?_
        f_look
        refine aZ e1' (Nat.lt_of_le_of_lt (show vs.length <= 900 by omega) (by decide)) (fun H9 b9 e9 => ?_)
        f_look
        have fin := Je.add (Is.same (fun p o e => let ⟨a, b, c⟩ := cI e; cc a b (b8 _ _ b c)) (tj nv h1l h1m se)) b8 b9 e9 e8
        rw [stp _ (if_pos wem)] at fin
        exact ⟨_, _, _, _, _, rfl, fin⟩
    · rintro σ HD ⟨vs, ws, u7, u8, u9, rfl, J⟩
      f_look
      exact ⟨_, _, _, _, _, _, _, rfl, J⟩
  · rintro σ HD ⟨l, vs, ws, u5, u7, u8, u9, rfl, J⟩
    have hk3 : (fe ns).toNat <= 3 := by omega
    obtain ⟨o1, o2, o3, o4⟩ := ed ns (fe ns).toNat hk3
    have lv := J.i1.length
    f_look
    rename_i p1 Ha n1 s1 t1 p2 Hb n2 s2 t2
    refine cp (xs := [.ref p1, .ref p2]) (Nat.le_of_ble_eq_true rfl) (fun lk Hc nk sk ek => ?_)
    have Jc := ((J.sm s1).sm s2).sm sk
    have ik : IsL K Hc [.ref p1, .ref p2] keyL := .cons (.tup (aH.of (sk _ _ (s2 _ _ t1))) (.cons .str (.cons .str (.cons .int (.cons .int (.cons .str (.cons .int .nil))))))) (.cons (.tup (aH.of (sk _ _ t2)) (.cons .str (.cons .str (.cons .int (.cons .int (.cons .str (.cons .int .nil))))))) .nil)
    f_look
    rename_i p3 Hd n3 s3 t3
    refine cp (xs := [.ref p3]) (Nat.le_of_ble_eq_true rfl) (fun le He ne se ee => ?_)
    have Je := (Jc.sm s3).sm se
    have ie : IsL K He [.ref p3] endT := .cons (.tup (aH.of (se _ _ t3)) (.cons .str (.cons .str (.cons .str .nil)))) .nil
    refine jF (ak.of Je.e1) (ak.of ee) (by show vs.length + 1 <= 1000; omega) (fun la Hf nf sf ef => ?_)
    f_look
    have ekf := sf _ _ (se _ _ (s3 _ _ ek))
    refine jF (ak.of ef) (ak.of ekf) (by rw [List.length_append]; show vs.length + 1 + 2 <= 1000; omega) (fun lg Hg ng sg eg => ?_)
    f_look
    refine q lg Hg ((Je.s.trans sf).trans sg) (.lst (ak.of eg) ?_)
    exact (((Je.i1.same rS).same (sf.trans sg)).app (ie.same (sf.trans sg))).app (ik.same (((s3.trans se).trans sf).trans sg))
theorem vb {B : Bk} {τ : TSt} {Φ : TK} {K : Fg} {ts us : List Tr} (hK : K = B.K) (k1 : ts.all (fV 6) = true) (k2 : us.all (fV 6) = true) (q : Φ (.fz (.bl (decide (Tr.tup ts = Tr.tup us)))) τ) : RO B (wJ K) (.fz (.tup ts)) (.fz (.tup us)) τ Φ := fun σ F H v w Q r a b c => by
 subst hK
 exact ⟨ts, us, (show Is B.K F v _ from a).same r.up.i, (show Is B.K F w _ from b).same r.up.i, k1, k2, c.pl r .bl q⟩
theorem iF : ∀ {n : Nat} {t : Tr}, fV n t = true -> fV (n + 1) t = true
 | 0, t, h => by cases t <;> first | rfl | cases h
 | n + 1, t, h => by
  cases t with
  | tup ts =>
   have h : ts.all (fV n) = true := h
   show ts.all (fV (n + 1)) = true
   rw [List.all_eq_true] at h ⊢
   exact fun x hx => iF (h x hx)
  | lst ts =>
   have h : ts.all (fV n) = true := h
   show ts.all (fV (n + 1)) = true
   rw [List.all_eq_true] at h ⊢
   exact fun x hx => iF (h x hx)
  | int => rfl
  | str => rfl
  | _ => cases h
theorem rY {t : Tr} (h : dk t = true) : fV 6 t = true := by
 cases t with
 | int => rfl
 | str => rfl
 | lst us =>
  have h : (us.all (aF 2) && decide (us.length <= 900)) = true := h
  rw [Bool.and_eq_true] at h
  show us.all (fV 5) = true
  exact List.all_eq_true.mpr fun x hx => iF (iF (iF (dE (List.all_eq_true.mp h.1 x hx))))
 | _ => cases h
theorem sP {k : Str} {r : List Tr} (h : r.all dk = true) : (Tr.str k :: r).all (fV 6) = true := by
 rw [List.all_cons]
 exact (Bool.and_eq_true _ _).mpr ⟨rfl, List.all_eq_true.mpr fun x hx => rY (List.all_eq_true.mp h x hx)⟩
theorem ke {K : Fg} {B : Bk} {τ : TSt} {Φ : TK} {y : Kd} (hK : K = B.K) {ns : List Int} {z : Int} (r2 : Rk τ y (.lst (ns.map Tr.int))) (q : Φ (.fz (.bl (!decide (z ∈ ns)))) τ) : RO B (wB K true) (.fz (.int z)) y τ Φ := fun σ F H v w Q r a b c => by
 subst hK
 cases aC a
 obtain ⟨p, vs, rfl, s, l⟩ := r2.list r b
 rw [l.ints] at s
 refine ⟨p, _, rfl, .inl s, rfl, jt, ?_⟩
 rw [kR]; exact c.pl r .bl q
def vF : List Str := ["frame", "legend"]
abbrev dh (ss : List Tr) (i : Nat) : Tr := ss.getD i .non
def bZ (ss : List Tr) (k : Nat) : Nat -> List Nat × Bool
 | 0 => ([k], true)
 | c + 1 => (if ((bZ ss k c).2 && !decide (wdOf (dh ss (k + 1 + c)) ∈ vF)) = true /\ dh ss (k + 1 + c) = dh ss k then (bZ ss k c).1 ++ [k + 1 + c] else (bZ ss k c).1, (bZ ss k c).2 && !decide (wdOf (dh ss (k + 1 + c)) ∈ vF))
def cf (ss : List Tr) (k : Nat) : List Nat := (bZ ss k (ss.length - (k + 1))).1
def bw (ss : List Tr) : Nat -> List (List Nat) × List Nat
 | 0 => ([], [])
 | k + 1 => (if cA ss k = true /\ k ∉ (bw ss k).2 /\ 1 < (cf ss k).length then (bw ss k).1 ++ [cf ss k] else (bw ss k).1, (bw ss k).2 ++ (cf ss k).tail)
abbrev gT (g : List Nat) : Tr := .lst (g.map fun n => Tr.int (n : Nat))
abbrev iT (g : List Nat) : List Tr := g.map fun n => Tr.int (n : Nat)
theorem hV (ss : List Tr) (k : Nat) : ∀ c, (bZ ss k c).1.length <= c + 1 /\ 1 <= (bZ ss k c).1.length
 | 0 => ⟨Nat.le_refl _, Nat.le_refl _⟩
 | c + 1 => by
  have ih := hV ss k c
  unfold bZ
  dsimp only
  split
  ·rw [List.length_append]; show _ + 1 <= _ /\ _ <= _ + 1; omega
  ·omega
theorem nG {ss : List Tr} (hn : ss.length <= 300) : ∀ k, k <= ss.length -> (bw ss k).1.length <= k /\ (bw ss k).2.length <= k * 300
 | 0, _ => ⟨Nat.le_refl _, Nat.le_refl _⟩
 | k + 1, hk => by
  have ih := nG hn k (by omega)
  have al := (hV ss k (ss.length - (k + 1))).1
  have al' : (cf ss k).tail.length <= 300 := by rw [List.length_tail]; unfold cf; omega
  unfold bw
  refine ⟨?_, by rw [List.length_append]; omega⟩
  dsimp only
  split
  ·rw [List.length_append]; show _ + 1 <= _; omega
  ·omega
def pH : SpT := fun _ as Φ _ => ∃ ss : List Tr, as = [.fz (.lst ss)] /\ ss.length <= 300 /\ (∀ s ∈ ss, bG s) /\ Φ (.nw (.lst ((bw ss ss.length).1.map gT)))
theorem mh (T : mS K mg t) : bA P w K mg base iq 1 t.f_zak t.d_zak ["_law_shapes"] (cZ K pH) := by
 refine T.F_zak.ok bp (cK (fun B as Φ Ψ h => by obtain ⟨_, rfl, _⟩ := h; rfl)) (fun cdv A outer s H vs Q E hr h => ?_)
 obtain ⟨B, as, Φ, Ψ, rfl, hS, hx, go⟩ := cm h
 obtain ⟨ss, rfl, hn, hs, φ⟩ := hS
 refine ⟨_, (bJ (ao (i := 1) bp.nd rfl (Or.inl rfl) (ay aB))
 (bJ (ao (i := 2) bp.nd rfl (Or.inl rfl) (ay aB))
 (bJ (cL PassesOwn.never rfl (eh rfl T.z_range (af (aX aK rfl T.z_len PySem.boot_len (af (pv 0) aB)) aB)) (aL (i := 3) bp.nd rfl (Or.inl rfl)) (bJ (ao (i := 4) bp.nd rfl (Or.inl rfl) (ay (af (pv 3) aB)))
 (bJ (ao (i := 5) bp.nd rfl (Or.inl rfl) lu)
 (bJ (cL PassesOwn.never rfl (gc rfl T.z_range (af (aq ca (pv 3) aI) (af (aX aK rfl T.z_len PySem.boot_len (af (pv 0) aB)) aB))) (aL (i := 6) bp.nd rfl (Or.inl rfl)) (bJ (bO (aA mW (aT yW (aT ga (pv 0) (pv 6) (fun _ _ => rfl)) aI (fun _ _ => rfl)) (ay (af ah (af ah aB))) rfl) (cH (ao (i := 5) bp.nd rfl (Or.inl rfl) lu)) aP)
 (cH (bO (PW.pt (gY (fR (pv 5)) (gU (aA (uz (by have := hr.un150; exact Nat.lt_of_le_of_lt (Nat.add_le_add_left (by decide) _) this)) (aT ga (pv 0) (pv 6) (fun _ _ => rfl)) (aT ga (pv 0) (pv 3) (fun _ _ => rfl)) (aJ _))))) (cH (bX (eM PySem.F.plainAttrs_list PySem.F.slot_list_append PySem.F.type_list_append aQ (pv 4) (af (pv 6) aB)))) aP))))
 (bJ (bO (PW.pt (gY (aA cw (aT yW (aT ga (pv 0) (pv 3) (fun _ _ => rfl)) aI (fun _ _ => rfl)) (ay (af ah (af ah (af ah (af ah (af ah aB)))))) rfl) (gY (aA cw (pv 3) (pv 2) rfl) (gU (aA pi (aX aK rfl T.z_len PySem.boot_len (af (pv 4) aB)) aI (aJ _)))))) (cH (bX (eM PySem.F.plainAttrs_list PySem.F.slot_list_append PySem.F.type_list_append aQ (pv 1) (af (pv 4) aB)))) aP)
 (cH (ao (i := 2) bp.nd rfl (Or.inl rfl) (aq dH (pv 2) (fE gQ (pv 4) (gW aI) hZ)))))))))
 (cH (aE (pv 1)))))), go _ _ (oq (τ := [.fz _, .no, .no, .no, .no, .no, .no]) rfl ?_)⟩
 have atS : ∀ {i : Nat}, i < ss.length -> ∃ k r, ss[i]? = some (.tup (.str k :: r)) /\ dh ss i = .tup (.str k :: r) /\ r.all dk = true := fun {i} hi => by
  obtain ⟨k, r, e, _, h⟩ := hs ss[i] (List.getElem_mem hi)
  exact ⟨k, r, by rw [List.getElem?_eq_getElem hi, e], by show ss.getD i .non = _; rw [List.getD_eq_getElem?_getD, List.getElem?_eq_getElem hi, e]; rfl, h⟩
 kd_mark
 refine ⟨⟨by omega, by omega⟩, fun k τ => ∃ u3 u4 u5 u6, τ = [.fz (.lst ss), .own (.lst ((bw ss k).1.map gT)), .own (.lst (iT (bw ss k).2)), u3, u4, u5, u6], ⟨_, _, _, _, rfl⟩, ?_, ?_⟩
 ·rintro k tt τ hk ⟨u3, u4, u5, u6, rfl⟩
  obtain ⟨hk, rfl⟩ := eH hk
  have hk : k < ss.length := by omega
  obtain ⟨kk, kr, hkk, ekk, pkk⟩ := atS hk
  rw [Int.zero_add]
  have dl := nG (ss := ss) (by omega) k (by omega)
  kd_mark
  refine ⟨⟨by omega, by omega, by omega, by omega⟩, fun c τ => ∃ u6, τ = [.fz (.lst ss), .own (.lst ((bw ss k).1.map gT)), .own (.lst (iT (bw ss k).2)), .fz (.int (k : Nat)), .own (.lst (iT (bZ ss k c).1)), .fz (.bl (bZ ss k c).2), u6], ⟨_, rfl⟩, ?_, ?_⟩
  ·rintro c tt τ hc ⟨u6, rfl⟩
   obtain ⟨hc, rfl⟩ := eH hc
   have hj : k + 1 + c < ss.length := by omega
   have ej : ((k : Nat) : Int) + 1 + (c : Nat) = ((k + 1 + c : Nat) : Int) := by omega
   rw [ej]
   obtain ⟨jk, jr, hjk, ejk, pjk⟩ := atS hj
   have al := hV ss k c
   kby_none
   refine sN (fun τ => τ = [.fz (.lst ss), .own (.lst ((bw ss k).1.map gT)), .own (.lst (iT (bw ss k).2)), .fz (.int (k : Nat)), .own (.lst (iT (bZ ss k c).1)), .fz (.bl (bZ ss k (c + 1)).2), .fz (.int (k + 1 + c : Nat))]) ?_ ?_
   ·have e2 : (bZ ss k (c + 1)).2 = ((bZ ss k c).2 && !decide (jk ∈ vF)) := by
     show ((bZ ss k c).2 && !decide (wdOf (dh ss (k + 1 + c)) ∈ vF)) = _
     rw [ejk]; rfl
    rw [e2]
    kd_mark
    refine dy rfl Rk.fz (bi hjk) ?_
    kd_mark
    refine fC rfl Rk.fz (bi (j := 0) rfl) ?_
    kd_mark
    refine xu (ws := vF) rfl Rk.fz ?_
    kd_mark
    refine bD (fun h => ?_) (fun h => ?_)
    ·kd_mark
     rw [decide_eq_true h, Bool.not_true, Bool.and_false]
    ·kd_mark
     rw [decide_eq_false h, Bool.not_false, Bool.and_true]
   ·rintro τ rfl
    have e1 : (bZ ss k (c + 1)).1 = if (bZ ss k (c + 1)).2 = true /\ dh ss (k + 1 + c) = dh ss k then (bZ ss k c).1 ++ [k + 1 + c] else (bZ ss k c).1 := rfl
    have nx : ∀ {l : List Nat}, (bZ ss k (c + 1)).1 = l -> ∃ u6, [Sl.fz (.lst ss), .own (.lst ((bw ss k).1.map gT)), .own (.lst (iT (bw ss k).2)), .fz (.int (k : Nat)), .own (.lst (iT l)), .fz (.bl (bZ ss k (c + 1)).2), .fz (.int (k + 1 + c : Nat))] = [.fz (.lst ss), .own (.lst ((bw ss k).1.map gT)), .own (.lst (iT (bw ss k).2)), .fz (.int (k : Nat)), .own (.lst (iT (bZ ss k (c + 1)).1)), .fz (.bl (bZ ss k (c + 1)).2), u6] := fun e => ⟨_, by rw [e]⟩
    kd_mark
    refine kG (fun h => ?_) (fun h => ?_)
    ·kd_mark
     refine dy rfl Rk.fz (bi hjk) ?_
     kd_mark
     refine dy rfl Rk.fz (bi hkk) ?_
     kd_mark
     refine vb rfl (sP pjk) (sP pkk) ?_
     kd_mark
     refine bD (fun h2 => ?_) (fun h2 => ?_)
     ·kd_mark
      have := nx (l := (bZ ss k c).1 ++ [k + 1 + c]) (by rw [e1, if_pos ⟨h, by rw [ejk, ekk]; exact h2⟩])
      rw [show iT ((bZ ss k c).1 ++ [k + 1 + c]) = iT (bZ ss k c).1 ++ [Tr.int (k + 1 + c : Nat)] from List.map_append] at this
      exact this
     ·kd_mark
      exact nx (by rw [e1, if_neg (fun z => h2 (by rw [<- ejk, <- ekk]; exact z.2))])
    ·kd_mark
     exact nx (by rw [e1, if_neg (fun z => by rw [h] at z; exact absurd z.1 Bool.false_ne_true)])
  ·rintro τ ⟨u6, rfl⟩
   rw [du]
   have en : ((ss.length : Nat) - ((k : Nat) + 1) : Int).toNat = ss.length - (k + 1) := by omega
   rw [en]
   have eal : (bZ ss k (ss.length - (k + 1))).1 = cf ss k := rfl
   rw [eal]
   have al := hV ss k (ss.length - (k + 1))
   rw [eal] at al
   have e1 : (bw ss (k + 1)).1 = if cA ss k = true /\ k ∉ (bw ss k).2 /\ 1 < (cf ss k).length then (bw ss k).1 ++ [cf ss k] else (bw ss k).1 := rfl
   have e2 : (bw ss (k + 1)).2 = (bw ss k).2 ++ (cf ss k).tail := rfl
   have al9 : (iT (cf ss k)).length = (cf ss k).length := List.length_map _
   kby_none
   refine sN (fun τ => ∃ u5 u6, τ = [.fz (.lst ss), .own (.lst ((bw ss (k + 1)).1.map gT)), .own (.lst (iT (bw ss k).2)), .fz (.int (k : Nat)), .own (.lst (iT (cf ss k))), u5, u6] ∨ τ = [.fz (.lst ss), .own (.lst ((bw ss (k + 1)).1.map gT)), .own (.lst (iT (bw ss k).2)), .fz (.int (k : Nat)), .fz (.lst (iT (cf ss k))), u5, u6]) ?_ ?_
   ·have mk : cA ss k = !decide (kk ∈ GRD) := by
     show qd (dh ss k) = _
     rw [ekk]; rfl
    kd_mark
    refine dy rfl Rk.fz (bi hkk) ?_
    kd_mark
    refine fC rfl Rk.fz (bi (j := 0) rfl) ?_
    kd_mark
    refine nC (ws := GRD) rfl Rk.fz ?_
    kd_mark
    have no : ¬(cA ss k = true /\ k ∉ (bw ss k).2 /\ 1 < (cf ss k).length) -> ∃ u5 u6', [Sl.fz (Tr.lst ss), Sl.own (Tr.lst ((bw ss k).1.map gT)), Sl.own (Tr.lst (iT (bw ss k).2)), Sl.fz (Tr.int (k : Nat)), Sl.own (Tr.lst (iT (cf ss k))), Sl.fz (Tr.bl (bZ ss k (ss.length - (k + 1))).2), u6] = [.fz (.lst ss), .own (.lst ((bw ss (k + 1)).1.map gT)), .own (.lst (iT (bw ss k).2)), .fz (.int (k : Nat)), .own (.lst (iT (cf ss k))), u5, u6'] ∨ [Sl.fz (Tr.lst ss), Sl.own (Tr.lst ((bw ss k).1.map gT)), Sl.own (Tr.lst (iT (bw ss k).2)), Sl.fz (Tr.int (k : Nat)), Sl.own (Tr.lst (iT (cf ss k))), Sl.fz (Tr.bl (bZ ss k (ss.length - (k + 1))).2), u6] = [.fz (.lst ss), .own (.lst ((bw ss (k + 1)).1.map gT)), .own (.lst (iT (bw ss k).2)), .fz (.int (k : Nat)), .fz (.lst (iT (cf ss k))), u5, u6'] := fun h => by
     rw [if_neg h] at e1
     rw [e1]
     exact ⟨_, _, .inl rfl⟩
    refine bD (fun h1 => ?_) (fun h1 => ?_)
    ·kd_mark
     exact no (fun z => by rw [mk, decide_eq_true h1] at z; exact absurd z.1 Bool.false_ne_true)
    kd_mark
    refine ke (ns := (bw ss k).2.map fun n => ((n : Nat) : Int)) rfl (by rw [List.map_map]; dl_open) ?_
    have mem : ((k : Nat) : Int) ∈ (bw ss k).2.map (fun n => ((n : Nat) : Int)) ↔ k ∈ (bw ss k).2 := by
     rw [List.mem_map]
     refine ⟨fun ⟨a, h, e⟩ => ?_, fun h => ⟨_, h, rfl⟩⟩
     have e2 : a = k := Int.ofNat.inj e
     rw [e2] at h; exact h
    kd_mark
    refine bD (fun h2 => ?_) (fun h2 => ?_)
    ·kd_mark
     exact no (fun z => z.2.1 (mem.mp h2))
    kd_mark
    rw [al9]
    refine bD (fun h3 => ?_) (fun h3 => ?_)
    ·kd_mark
     rw [if_pos ⟨by rw [mk, decide_eq_false h1]; rfl, fun z => h2 (mem.mpr z), by omega⟩] at e1
     have e3 : (bw ss (k + 1)).1.map gT = (bw ss k).1.map gT ++ [.lst (iT (cf ss k))] := by rw [e1]; exact List.map_append
     exact ⟨_, _, .inr (by rw [e3])⟩
    ·kd_mark
     exact no (fun z => h3 (by have := z.2.2; omega))
   ·have tls : iT (bw ss k).2 ++ eE (iT (cf ss k)) (some 1) none = iT ((bw ss k).2 ++ (cf ss k).tail) := by
     have : eE (iT (cf ss k)) (some 1) none = iT (cf ss k).tail := by
      cases h : cf ss k with
      | nil => rfl
      | cons a l =>
       show ((iT (a :: l)).drop _).take _ = _
       have e1 : HT.sIx (iT (a :: l)).length 0 (some 1) = 1 := by show HT.sIx (_ + 1) 0 (some 1) = 1; simp [HT.sIx]
       have e2 : HT.sIx (iT (a :: l)).length (iT (a :: l)).length none = (iT (a :: l)).length := rfl
       rw [e1, e2]
       show (iT l).take _ = _
       rw [List.take_of_length_le (by show _ <= (_ + 1) - 1; exact Nat.le_refl _)]
       rfl
     rw [this]; exact List.map_append.symm
    rintro τ ⟨u5, u6, rfl | rfl⟩
    ·kd_mark
     refine hI rfl (by dl_open) Rk.fz (by have := gI (xs := iT (cf ss k)) (lo := some 1) (hi := none); rw [List.length_map]; omega) ?_
     kd_mark
     exact ⟨_, _, _, _, by rw [e2, <- tls]⟩
    ·kd_mark
     refine hI rfl (by dl_open) Rk.fz (by have := gI (xs := iT (cf ss k)) (lo := some 1) (hi := none); rw [List.length_map]; omega) ?_
     kd_mark
     exact ⟨_, _, _, _, by rw [e2, <- tls]⟩
 ·rintro τ ⟨u3, u4, u5, u6, rfl⟩
  kd_mark
  rw [du]
  exact nF (by kt_join) φ
theorem uG {x y : Tr} (hx : dk x = true) (hy : dk y = true) (h : fl x = fl y) : x = y := by
 cases x with
 | int a => cases y with
  | int => exact h
  | str => cases (show Tr.int a = .str _ from h)
  | lst => cases (show Tr.int a = .tup _ from h)
  | _ => exact absurd hy Bool.false_ne_true
 | str a => cases y with
  | int => cases (show Tr.str a = .int _ from h)
  | str => exact h
  | lst => cases (show Tr.str a = .tup _ from h)
  | _ => exact absurd hy Bool.false_ne_true
 | lst us => cases y with
  | int => cases (show Tr.tup us = .int _ from h)
  | str => cases (show Tr.tup us = .str _ from h)
  | lst vs => rw [Tr.tup.inj (show Tr.tup us = .tup vs from h)]
  | _ => exact absurd hy Bool.false_ne_true
 | _ => exact absurd hx Bool.false_ne_true
theorem kO {f : Tr -> Tr} {p : Tr -> Bool} (hf : ∀ {x y}, p x = true -> p y = true -> f x = f y -> x = y) : ∀ {xs ys : List Tr}, xs.all p = true -> ys.all p = true -> xs.map f = ys.map f -> xs = ys
 | [], [], _, _, _ => rfl
 | [], _ :: _, _, _, h => nomatch h
 | _ :: _, [], _, _, h => nomatch h
 | x :: xs, y :: ys, hx, hy, h => by
  rw [List.all_cons, Bool.and_eq_true] at hx hy
  rw [List.map_cons, List.map_cons] at h
  injection h with h1 h2
  rw [hf hx.1 hy.1 h1, kO hf hx.2 hy.2 h2]
theorem pJ {x y : Tr} (hx : bG x) (hy : bG y) (h : fK x = fK y) : x = y := by
 obtain ⟨k, r, rfl, _, h1⟩ := hx
 obtain ⟨k2, r2, rfl, _, h2⟩ := hy
 have h : Tr.tup (.str k :: r.map fl) = Tr.tup (.str k2 :: r2.map fl) := h
 have h := Tr.tup.inj h
 injection h with a b
 rw [Tr.str.inj a, kO uG h1 h2 b]
theorem qi {ss : List Tr} (hs : ∀ s ∈ ss, bG s) {i j : Nat} (hi : i < ss.length) (hj : j < ss.length) : ce ss i = ce ss j ↔ iJ ss i = iJ ss j /\ dh ss i = dh ss j := by
 have g : ∀ {i}, i < ss.length -> bG (dh ss i) := fun {i} hi => by
  show bG (ss.getD i .non)
  rw [List.getD_eq_getElem?_getD, List.getElem?_eq_getElem hi]
  exact hs _ (List.getElem_mem hi)
 constructor
 ·intro h
  have h := Tr.tup.inj h
  injection h with a b
  injection b with b _
  exact ⟨Tr.int.inj a, pJ (g hi) (g hj) b⟩
 ·rintro ⟨a, b⟩
  show Tr.tup [.int (iJ ss i), fK (dh ss i)] = Tr.tup [.int (iJ ss j), fK (dh ss j)]
  rw [a, b]
theorem iM {ss : List Tr} {i j : Nat} (h : i <= j) : lW ss i <= lW ss j := by
 unfold lW
 exact ((List.take_sublist_take_left h).filter _).length_le
theorem kq {ss : List Tr} {i : Nat} (h : i < ss.length) : ss[i]? = some (dh ss i) := by
 show _ = some (ss.getD i .non)
 rw [List.getD_eq_getElem?_getD, List.getElem?_eq_getElem h]; rfl
theorem lE {ss : List Tr} {k : Nat} : ∀ {c : Nat}, k + c < ss.length -> (iJ ss k = iJ ss (k + c) ↔ ∀ i, i < c -> wdOf (dh ss (k + 1 + i)) ≠ "frame")
 | 0, _ => ⟨fun _ i h => absurd h (Nat.not_lt_zero i), fun _ => rfl⟩
 | c + 1, hc => by
  have ih := lE (ss := ss) (k := k) (c := c) (by omega)
  have st := jp (kq (i := k + c + 1) hc)
  have m1 := iM (ss := ss) (i := k + 1) (j := k + c + 1) (by omega)
  have e0 : k + (c + 1) = k + c + 1 := by omega
  have e : k + 1 + c = k + c + 1 := by omega
  unfold iJ at ih ⊢
  rw [e0]
  constructor
  ·intro h i hi
   rcases Nat.lt_or_ge i c with hi | hi
   ·refine ih.mp ?_ i hi
    have : lW ss (k + c + 1) <= lW ss (k + c + 1 + 1) := iM (by omega)
    omega
   ·rw [show i = c by omega, e]
    intro w
    rw [if_pos w] at st
    omega
  ·intro h
   have h1 := ih.mpr (fun i hi => h i (by omega))
   have h2 := h c (by omega)
   rw [e] at h2
   rw [if_neg h2] at st
   omega
def fD (ss : List Tr) : Prop := ∀ i j, i <= j -> j < ss.length -> cA ss j = true -> wdOf (dh ss i) ≠ "legend"
theorem pV {ss : List Tr} {k : Nat} : ∀ c, (bZ ss k c).2 = true ↔ ∀ i, i < c -> wdOf (dh ss (k + 1 + i)) ∉ vF
 | 0 => ⟨fun _ i h => absurd h (Nat.not_lt_zero i), fun _ => rfl⟩
 | c + 1 => by
  have ih := pV (ss := ss) (k := k) c
  show ((bZ ss k c).2 && !decide (wdOf (dh ss (k + 1 + c)) ∈ vF)) = true ↔ _
  rw [Bool.and_eq_true, ih]
  constructor
  ·rintro ⟨h1, h2⟩ i hi
   rcases Nat.lt_or_ge i c with hi | hi
   ·exact h1 i hi
   ·rw [show i = c by omega]
    simpa using h2
  ·intro h
   exact ⟨fun i hi => h i (by omega), by have := h c (by omega); simpa using this⟩
theorem lj {ss : List Tr} {i j : Nat} (h : dh ss i = dh ss j) : cA ss i = cA ss j := by
 show qd (dh ss i) = qd (dh ss j)
 rw [h]
theorem xw {ss : List Tr} (hs : ∀ s ∈ ss, bG s) (he : fD ss) {k : Nat} (hk : cA ss k = true) {c : Nat} (hc : k + 1 + c < ss.length) : ((bZ ss k (c + 1)).2 = true /\ dh ss (k + 1 + c) = dh ss k) ↔ (cA ss (k + 1 + c) = true /\ ce ss (k + 1 + c) = ce ss k) := by
 have nu := lE (ss := ss) (k := k) (c := c + 1) (by omega)
 rw [qi hs hc (by omega), pV]
 have e : k + (c + 1) = k + 1 + c := by omega
 rw [e] at nu
 constructor
 ·rintro ⟨h1, h2⟩
  refine ⟨by rw [lj h2]; exact hk, (nu.mpr fun i hi w => h1 i hi (by rw [w]; decide)).symm, h2⟩
 ·rintro ⟨h1, h2, h3⟩
  refine ⟨fun i hi w => ?_, h3⟩
  rcases List.mem_cons.mp w with w | w
  ·exact nu.mp h2.symm i hi w
  ·exact he _ _ (show k + 1 + i <= k + 1 + c by omega) hc h1 (List.mem_singleton.mp w)
def im (ss : List Tr) (k j : Nat) : Bool := decide (cA ss j = true /\ ce ss j = ce ss k)
theorem sR {ss : List Tr} (hs : ∀ s ∈ ss, bG s) (he : fD ss) {k : Nat} (hk : cA ss k = true) : ∀ c, k + c < ss.length -> (bZ ss k c).1 = (List.range' k (c + 1)).filter (im ss k)
 | 0, _ => by
  show [k] = _
  rw [List.range'_one, List.filter_cons, if_pos (show im ss k k = true from decide_eq_true ⟨hk, rfl⟩)]; rfl
 | c + 1, hc => by
  have ih := sR hs he hk c (by omega)
  have hi := xw hs he hk (c := c) (by omega)
  have e1 : (bZ ss k (c + 1)).1 = if (bZ ss k (c + 1)).2 = true /\ dh ss (k + 1 + c) = dh ss k then (bZ ss k c).1 ++ [k + 1 + c] else (bZ ss k c).1 := rfl
  rw [e1, ih, List.range'_concat (n := c + 1), List.filter_append, Nat.one_mul]
  have e2 : k + (c + 1) = k + 1 + c := by omega
  rw [e2]
  by_cases q : (bZ ss k (c + 1)).2 = true /\ dh ss (k + 1 + c) = dh ss k
  ·rw [if_pos q, List.filter_cons, if_pos (show im ss k (k + 1 + c) = true from decide_eq_true (hi.mp q))]; rfl
  ·rw [if_neg q, List.filter_cons, if_neg (show ¬ im ss k (k + 1 + c) = true from fun z => q (hi.mpr (of_decide_eq_true z)))]; simp
theorem pO {ss : List Tr} (hs : ∀ s ∈ ss, bG s) (he : fD ss) {k : Nat} (hk : cA ss k = true) (hl : k < ss.length) : cf ss k = (List.range' k (ss.length - k)).filter (im ss k) := by
 unfold cf
 rw [sR hs he hk _ (by omega)]
 rw [show ss.length - (k + 1) + 1 = ss.length - k by omega]
def tM (ss : List Tr) (k : Nat) : Bool := decide (cA ss k = true /\ ∀ i, i < k -> cA ss i = true -> ce ss i ≠ ce ss k)
theorem lH (ss : List Tr) {t : Tr} : ∀ n, t ∈ (da ss n).map (·.1) ↔ ∃ k, k < n /\ cA ss k = true /\ ce ss k = t
 | 0 => ⟨fun h => (nomatch h), fun ⟨_, h, _⟩ => absurd h (Nat.not_lt_zero _)⟩
 | n + 1 => by
  have ih := lH ss (t := t) n
  have st : (∃ k, k < n + 1 /\ cA ss k = true /\ ce ss k = t) ↔ (∃ k, k < n /\ cA ss k = true /\ ce ss k = t) ∨ (cA ss n = true /\ ce ss n = t) := by
   constructor
   ·rintro ⟨k, h, a⟩
    rcases Nat.lt_or_ge k n with h | h
    ·exact .inl ⟨k, h, a⟩
    ·rw [show k = n by omega] at a; exact .inr a
   ·rintro (⟨k, h, a⟩ | a)
    ·exact ⟨k, by omega, a⟩
    ·exact ⟨n, by omega, a⟩
  rw [st, <- ih, show da ss (n + 1) = if cA ss n = true then eR (da ss n) (ce ss n) n else da ss n from rfl]
  by_cases hm : cA ss n = true
  ·rw [if_pos hm, gp]
   split
   ·rename_i h
    exact ⟨.inl, fun z => z.elim id fun z => by rw [<- z.2]; exact h⟩
   ·rw [List.mem_append, List.mem_singleton]
    exact ⟨fun z => z.imp id fun z => ⟨hm, z.symm⟩, fun z => z.imp id fun z => z.2.symm⟩
  ·rw [if_neg hm]
   exact ⟨.inl, fun z => z.elim id fun z => absurd z.1 hm⟩
theorem oC (ss : List Tr) : ∀ n, da ss n = ((List.range n).filter (tM ss)).map fun k => (ce ss k, (List.range n).filter (im ss k))
 | 0 => rfl
 | n + 1 => by
  have ih := oC ss n
  have me := lH ss (t := ce ss n) n
  rw [show da ss (n + 1) = if cA ss n = true then eR (da ss n) (ce ss n) n else da ss n from rfl, List.range_succ, List.filter_append]
  by_cases hm : cA ss n = true
  ·rw [if_pos hm]
   unfold eR
   by_cases hk : ce ss n ∈ (da ss n).map (·.1)
   ·rw [if_pos hk, ih]
    obtain ⟨i, hi, a, b⟩ := me.mp hk
    have nf : tM ss n = false := decide_eq_false fun z => z.2 i hi a b
    rw [List.filter_cons, if_neg (by rw [nf]; exact Bool.false_ne_true), List.filter_nil, List.append_nil, List.map_map]
    refine List.map_congr_left fun k hk => ?_
    show (if ce ss k = ce ss n then (ce ss k, (List.range n).filter (im ss k) ++ [n]) else (ce ss k, (List.range n).filter (im ss k))) = (ce ss k, (List.range n ++ [n]).filter (im ss k))
    rw [List.filter_append, List.filter_cons, List.filter_nil]
    by_cases e : ce ss k = ce ss n
    ·rw [if_pos e, if_pos (show im ss k n = true from decide_eq_true ⟨hm, e.symm⟩)]
    ·rw [if_neg e, if_neg (show ¬ im ss k n = true from fun z => e (of_decide_eq_true z).2.symm), List.append_nil]
   ·rw [if_neg hk, ih]
    have no : ∀ i, i < n -> cA ss i = true -> ce ss i ≠ ce ss n := fun i hi a b => hk (me.mpr ⟨i, hi, a, b⟩)
    have yf : tM ss n = true := decide_eq_true ⟨hm, no⟩
    rw [List.filter_cons, if_pos yf, List.filter_nil, List.map_append]
    congr 1
    ·refine List.map_congr_left fun k hk => ?_
     obtain ⟨hk1, hk2⟩ := List.mem_filter.mp hk
     have e : ce ss n ≠ ce ss k := (no k (List.mem_range.mp hk1) (of_decide_eq_true hk2).1).symm
     rw [List.filter_append, List.filter_cons, List.filter_nil, if_neg (show ¬ im ss k n = true from fun z => e (of_decide_eq_true z).2), List.append_nil]
    ·show [_] = [(ce ss n, (List.range n ++ [n]).filter (im ss n))]
     have e : (List.range n).filter (im ss n) = [] := List.filter_eq_nil_iff.mpr fun i hi z => no i (List.mem_range.mp hi) (of_decide_eq_true z).1 (of_decide_eq_true z).2
     rw [List.filter_append, e, List.filter_cons, if_pos (show im ss n n = true from decide_eq_true ⟨hm, rfl⟩)]; rfl
  ·rw [if_neg hm, ih]
   have nf : tM ss n = false := decide_eq_false fun z => hm z.1
   rw [List.filter_cons, if_neg (by rw [nf]; exact Bool.false_ne_true), List.filter_nil, List.append_nil]
   refine List.map_congr_left fun k _ => ?_
   rw [List.filter_append, List.filter_cons, List.filter_nil, if_neg (show ¬ im ss k n = true from fun z => hm (of_decide_eq_true z).1), List.append_nil]
theorem sI {ss : List Tr} {k : Nat} : ∀ {c x : Nat}, x ∈ (bZ ss k c).1 -> x = k ∨ (k < x /\ x < k + 1 + c /\ dh ss x = dh ss k)
 | 0, x, h => .inl (List.mem_singleton.mp h)
 | c + 1, x, h => by
  have ih := @sI ss k c x
  unfold bZ at h
  dsimp only at h
  split at h
  ·rename_i q
   rcases List.mem_append.mp h with z | z
   ·exact (ih z).imp id fun ⟨a, b, c⟩ => ⟨a, by omega, c⟩
   ·rw [List.mem_singleton.mp z]
    exact .inr ⟨by omega, by omega, q.2⟩
  ·exact (ih h).imp id fun ⟨a, b, c⟩ => ⟨a, by omega, c⟩
theorem lB (ss : List Tr) (k : Nat) : ∀ c, ∃ l, (bZ ss k c).1 = k :: l /\ ∀ x ∈ l, k < x
 | 0 => ⟨[], rfl, fun _ h => nomatch h⟩
 | c + 1 => by
  obtain ⟨l, e, h⟩ := lB ss k c
  unfold bZ
  dsimp only
  split
  ·exact ⟨l ++ [k + 1 + c], by rw [e]; rfl, fun x hx => (List.mem_append.mp hx).elim (h x) fun z => by rw [List.mem_singleton.mp z]; omega⟩
  ·exact ⟨l, e, h⟩
theorem qT {ss : List Tr} (hs : ∀ s ∈ ss, bG s) (he : fD ss) {i k : Nat} (hi : i < ss.length) (hk : k < ss.length) (hm : cA ss k = true) : k ∈ (cf ss i).tail ↔ i < k /\ cA ss i = true /\ ce ss i = ce ss k := by
 obtain ⟨l, e, hl⟩ := lB ss i (ss.length - (i + 1))
 have e : cf ss i = i :: l := e
 have m1 : k ∈ (cf ss i).tail ↔ k ∈ cf ss i /\ i < k := by
  rw [e]
  exact ⟨fun h => ⟨List.mem_cons_of_mem _ h, hl k h⟩, fun ⟨h, h2⟩ => (List.mem_cons.mp h).elim (fun z => by omega) id⟩
 rw [m1]
 by_cases mi : cA ss i = true
 ·rw [pO hs he mi hi, List.mem_filter, List.mem_range'_1]
  constructor
  ·rintro ⟨⟨_, h⟩, h2⟩
   exact ⟨h2, mi, (of_decide_eq_true h).2.symm⟩
  ·rintro ⟨h, _, h2⟩
   exact ⟨⟨by omega, decide_eq_true ⟨hm, h2.symm⟩⟩, h⟩
 ·constructor
  ·rintro ⟨h, h2⟩
   rcases sI (show k ∈ (bZ ss i (ss.length - (i + 1))).1 from h) with z | z
   ·omega
   ·exact absurd (by rw [<- lj z.2.2]; exact hm) mi
  ·rintro ⟨_, h, _⟩
   exact absurd h mi
theorem fA {ss : List Tr} (hs : ∀ s ∈ ss, bG s) (he : fD ss) {k : Nat} (hk : k < ss.length) (hm : cA ss k = true) : ∀ n, n <= ss.length -> (k ∈ (bw ss n).2 ↔ ∃ i, i < n /\ i < k /\ cA ss i = true /\ ce ss i = ce ss k)
 | 0, _ => ⟨fun h => (nomatch h), fun ⟨_, h, _⟩ => absurd h (Nat.not_lt_zero _)⟩
 | n + 1, hn => by
  have ih := fA hs he hk hm n (by omega)
  have e : (bw ss (n + 1)).2 = (bw ss n).2 ++ (cf ss n).tail := rfl
  rw [e, List.mem_append, ih, qT hs he (by omega) hk hm]
  constructor
  ·rintro (⟨i, h, a⟩ | a)
   ·exact ⟨i, by omega, a⟩
   ·exact ⟨n, by omega, a⟩
  ·rintro ⟨i, h, a⟩
   rcases Nat.lt_or_ge i n with h | h
   ·exact .inl ⟨i, h, a⟩
   ·rw [show i = n by omega] at a; exact .inr a
def xV (ss : List Tr) (k : Nat) : Bool := decide (cA ss k = true /\ k ∉ (bw ss k).2 /\ 1 < (cf ss k).length)
theorem tw (ss : List Tr) : ∀ n, (bw ss n).1 = ((List.range n).filter (xV ss)).map (cf ss)
 | 0 => rfl
 | n + 1 => by
  have ih := tw ss n
  have e : (bw ss (n + 1)).1 = if cA ss n = true /\ n ∉ (bw ss n).2 /\ 1 < (cf ss n).length then (bw ss n).1 ++ [cf ss n] else (bw ss n).1 := rfl
  rw [e, List.range_succ, List.filter_append, List.map_append, <- ih, List.filter_cons, List.filter_nil]
  by_cases q : cA ss n = true /\ n ∉ (bw ss n).2 /\ 1 < (cf ss n).length
  ·rw [if_pos q, if_pos (show xV ss n = true from decide_eq_true q)]; rfl
  ·rw [if_neg q, if_neg (show ¬ xV ss n = true from fun z => q (of_decide_eq_true z))]; exact (List.append_nil _).symm
theorem ui {ss : List Tr} (hs : ∀ s ∈ ss, bG s) (he : fD ss) : (bw ss ss.length).1 = qC ss := by
 have fi : ∀ k ∈ List.range ss.length, tM ss k = true -> cf ss k = (List.range ss.length).filter (im ss k) := fun k hk hf => by
  have hk := List.mem_range.mp hk
  obtain ⟨hm, hf⟩ := of_decide_eq_true hf
  rw [pO hs he hm hk]
  have sp : List.range ss.length = List.range k ++ List.range' k (ss.length - k) := by
   rw [List.range_eq_range', List.range_eq_range']
   have := @List.range'_append 0 k (ss.length - k) 1
   rw [Nat.one_mul, Nat.zero_add, show k + (ss.length - k) = ss.length by omega] at this
   exact this.symm
  rw [sp, List.filter_append, List.filter_eq_nil_iff.mpr fun i hi z => hf i (List.mem_range.mp hi) (of_decide_eq_true z).1 (of_decide_eq_true z).2, List.nil_append]
 have fq : (List.range ss.length).filter (xV ss) = ((List.range ss.length).filter (tM ss)).filter fun k => decide (1 < (cf ss k).length) := by
  rw [List.filter_filter]
  refine List.filter_congr fun k hk => ?_
  have hk := List.mem_range.mp hk
  have h1 : xV ss k = true ↔ (decide (1 < (cf ss k).length) && tM ss k) = true := by
   rw [Bool.and_eq_true]
   constructor
   ·intro z
    obtain ⟨a, b, c⟩ := of_decide_eq_true z
    exact ⟨decide_eq_true c, decide_eq_true ⟨a, fun i hi mi e => b ((fA hs he hk a k (by omega)).mpr ⟨i, hi, hi, mi, e⟩)⟩⟩
   ·rintro ⟨c, z⟩
    obtain ⟨a, b⟩ := of_decide_eq_true z
    refine decide_eq_true ⟨a, fun h => ?_, of_decide_eq_true c⟩
    obtain ⟨i, hi, _, mi, e⟩ := (fA hs he hk a k (by omega)).mp h
    exact b i hi mi e
  exact Bool.eq_iff_iff.mpr h1
 unfold qC
 rw [tw, oC, List.map_map, fq]
 show _ = List.filter _ (List.map (fun k => (List.range ss.length).filter (im ss k)) _)
 rw [<- List.map_congr_left (f := cf ss) fun k hk => fi k (List.mem_filter.mp hk).1 (List.mem_filter.mp hk).2, List.filter_map]
 rfl
theorem sU {ns : List Int} {k : Int} (h0 : 0 <= k) (h1 : k <= fe ns) : 0 <= eC ns k /\ eC ns k <= 40 := by
 have f := gn ns
 have m := pS ns
 unfold eC
 refine ⟨Int.ediv_nonneg (Int.mul_nonneg m.1 h0) (by omega), ?_⟩
 have b : li ns * k <= li ns * fe ns := Int.mul_le_mul_of_nonneg_left h1 m.1
 have c : li ns * fe ns / fe ns = li ns := Int.mul_ediv_cancel _ (by omega)
 have d := Int.ediv_le_ediv (show 0 < fe ns by omega) b
 omega
theorem nX {ns : List Int} {st : S2} {lo : Int} : ∀ i, (qg ns st lo i).1.length = st.1.length + i
 | 0 => rfl
 | i + 1 => by
  show (_ ++ [_]).length = _
  rw [List.length_append, nX i]; rfl
theorem lq (ns : List Int) : ∀ k : Nat, (k : Int) <= fe ns -> (bV ns k).1.length <= k * 50
 | 0, _ => Nat.le_refl _
 | k + 1, hk => by
  have ih := lq ns k (by omega)
  have a := sU (ns := ns) (k := (k : Nat)) (by omega) (by omega)
  have b := sU (ns := ns) (k := ((k : Nat) : Int) + 1) (by omega) (by omega)
  show (qg ns _ _ _).1.length <= _
  rw [nX]
  show (_ ++ bQ _ 3).length + _ <= _
  rw [List.length_append]
  show _ + 10 + _ <= _
  omega
theorem mX (ns : List Int) : (ax ns).length <= 300 := by
 have f := gn ns
 have o := lq ns (fe ns).toNat (by omega)
 unfold ax
 rw [List.length_append, List.length_append]
 show _ + 1 + 2 <= 300
 omega
def vp (st : S2) : Prop := ∀ t ∈ st.1, wdOf t ≠ "legend"
theorem sW {ns : List Int} {st : S2} {lo : Int} {n : Nat} (h : gG st n) (g : vp st) : ∀ i, vp (qg ns st lo i)
 | 0 => g
 | i + 1 => fun t ht => by
  rcases List.mem_append.mp ht with z | z
  ·exact sW h g i t z
  ·rw [List.mem_singleton.mp z]
   have p := (lz (s := qh ns (1 + (lo + (i : Nat)))) (lO (ns := ns) (lo := lo) h i)).2
   intro w
   have p : (!decide (wdOf _ ∈ GRD)) = true := p
   rw [w] at p
   exact absurd p (by decide)
theorem tW {k : Int} : ∀ t ∈ bQ k 3, wdOf t ≠ "legend" := by
 intro t ht
 have e : (bQ k 3).map wdOf = (["frame", "axis", "tick", "tick", "axis", "tick", "tick", "axis", "tick", "tick"] : List Str) := rfl
 intro w
 have : wdOf t ∈ (bQ k 3).map wdOf := List.mem_map.mpr ⟨t, ht, rfl⟩
 rw [e, w] at this
 exact absurd this (by decide)
theorem nN (ns : List Int) : ∀ k, k <= 3 -> vp (bV ns k)
 | 0, _ => fun _ h => nomatch h
 | k + 1, hk => by
  have ih := nN ns k (by omega)
  have o := ed ns k (by omega)
  refine sW (n := k * 130 + 10) (kB o) (fun t ht => ?_) _
  rcases List.mem_append.mp ht with z | z
  ·exact ih t z
  ·exact tW t z
theorem iS (ns : List Int) : fD (ax ns) := fun i j hij hj hm w => by
 have f := gn ns
 have nl := nN ns (fe ns).toNat (by omega)
 have tl : ∀ t ∈ endT ++ keyL, qd t = false := by decide
 have e : ax ns = (bV ns (fe ns).toNat).1 ++ (endT ++ keyL) := List.append_assoc _ _ _
 have hj' : j < (bV ns (fe ns).toNat).1.length := by
  rcases Nat.lt_or_ge j (bV ns (fe ns).toNat).1.length with h | h
  ·exact h
  ·have a := kq hj
   rw [e, List.getElem?_append_right h] at a
   have b := tl _ (List.mem_of_getElem? a)
   have c : qd (dh (ax ns) j) = true := hm
   rw [e] at c
   rw [b] at c
   cases c
 have hi : i < (bV ns (fe ns).toNat).1.length := by omega
 have a := kq (show i < (ax ns).length by omega)
 rw [e, List.getElem?_append_left hi] at a
 rw [e] at w
 exact nl _ (List.mem_of_getElem? a) w
theorem mI (ns : List Int) : (bw (ax ns) (ax ns).length).1 = qC (ax ns) := ui (bU ns).2 (iS ns)
theorem lL {K : Fg} {H : Hp} {p q : Addr} {xs ys : List V} {ts : List Tr} {n : Nat} (hp : ak K H p xs) (hq : ak K H q ys) (ix : IsL K H xs ts) (iy : IsL K H ys ts) (hn : n <= 100) (d : ∀ t ∈ ts, Dp n t) : jC K H p q :=
 ⟨n, xs, ys, hn, .inr ⟨hp, hq⟩, by rw [ix.length, iy.length], fun j x y hx hy => by
  obtain ⟨a, ha, ia⟩ := ix.get2 hx
  obtain ⟨b, hb, ib⟩ := iy.get2 hy
  rw [ha] at hb
  cases hb
  exact oP (d a (List.mem_of_getElem? ha)) (aa.refl _) (aa.refl _) ia ib⟩
theorem oE : ∀ {n : Nat} {t : Tr}, aF n t = true -> Dp n t
 | 0, t, h => by cases t <;> first | exact .int | exact .str | cases h
 | n + 1, t, h => by
  cases t with
  | tup ts =>
   have h : ts.all (aF n) = true := h
   exact .tup fun x hx => oE (List.all_eq_true.mp h x hx)
  | int => exact .int
  | str => exact .str
  | _ => cases h
theorem qJ {t : Tr} (h : dk t = true) : Dp 3 t := by
 cases t with
 | int => exact .int
 | str => exact .str
 | lst us =>
  have h : (us.all (aF 2) && decide (us.length <= 900)) = true := h
  rw [Bool.and_eq_true] at h
  exact .lst fun x hx => oE (List.all_eq_true.mp h.1 x hx)
 | _ => cases h
theorem xv {t : Tr} (h : bG t) : Dp 4 t := by
 obtain ⟨k, r, rfl, _, h⟩ := h
 exact .tup (rg .str fun x hx => qJ (List.all_eq_true.mp h x hx))
theorem wO {gs : List (List Nat)} : ∀ t ∈ gs.map gT, Dp 4 t := fun t ht => by
 obtain ⟨g, _, rfl⟩ := List.mem_map.mp ht
 refine .lst fun x hx => ?_
 obtain ⟨n, _, rfl⟩ := List.mem_map.mp hx
 exact .int
theorem gP {K : Fg} {H : Hp} {Q : VK} {E : XK} {a : Addr} {ns : List Int} (hS : ak K H a (ns.map V.int)) (hn : ns.length <= 63) (hb : ∀ x ∈ ns, My.Bd 1048576 x) (q : ∀ L xs H', aa H H' -> ak K H' L xs -> IsL K H' xs (ax ns) -> Q (.ref L) H') : jb K [.ref a] H Q E :=
 ⟨a, ns, rfl, hS, hn, hb, fun L H' s i => by
  cases i with
  | @lst _ xs _ h g => exact q L xs H' s h g⟩
theorem xG {K : Fg} {H : Hp} {Q : VK} {E : XK} {L : Addr} {xs : List V} {ns : List Int} (h : ak K H L xs) (g : IsL K H xs (ax ns)) (q : ∀ l ys H', aa H H' -> H' l = some (.lst ys) -> IsL K H' ys ((qC (ax ns)).map gT) -> Q (.ref l) H') : cZ K pH [.ref L] H Q E :=
 dF (a := (0 : Nat)) (as := [.fz (.lst (ax ns))]) (Φ := fun k => k = .nw (.lst ((qC (ax ns)).map gT))) (.cons (.lst h g) .nil) ⟨ax ns, rfl, mX ns, (bU ns).2, by rw [mI]⟩ fun v F' H' k s i _ r e => by
  subst e
  obtain ⟨l, rfl, ow, _, hn⟩ := r
  cases ow with
  | lst h g => exact q l _ H' s h (IsL.same i g)
theorem sx {K : Fg} {H : Hp} : ∀ {g : List Nat}, IsL K H (gV g) (g.map fun n => Tr.int (n : Nat))
 | [] => .nil
 | _ :: _ => .cons .int sx
theorem sX {K : Fg} {H : Hp} {ls : List Addr} {gs : List (List Nat)} (h : Paired (fun l (g : List Nat) => H l = some (.lst (gV g))) ls gs) : IsL K H (ls.map V.ref) (gs.map gT) := by
 induction h with
 | nil => exact .nil
 | cons a _ ih => exact .cons (.lst (ak.of a) sx) ih
theorem ft {α β : Type} {F G : α -> β -> Prop} (k : ∀ a b, F a b -> G a b) : ∀ {xs : List α} {ys : List β}, Paired F xs ys -> Paired G xs ys
 | _, _, .nil => .nil
 | _, _, .cons a r => .cons (k _ _ a) (ft k r)
theorem qN {α β : Type} {F : α -> β -> Prop} {xs : List α} {ys : List β} (h : Paired F xs ys) : ∀ {i : Nat} {x : α}, xs[i]? = some x -> ∃ y, ys[i]? = some y /\ F x y := by
 induction h with
 | nil => exact fun h => nomatch h
 | cons a _ ih =>
  intro i x h
  cases i with
  | zero => cases h; exact ⟨_, rfl, a⟩
  | succ i => exact ih h
theorem jz {α β : Type} {F : α -> β -> Prop} {xs : List α} {ys : List β} (h : Paired F xs ys) : xs.length = ys.length := by
 induction h with
 | nil => rfl
 | cons _ _ ih => rw [List.length_cons, List.length_cons, ih]
theorem tU {ss : List Tr} {g : List Nat} (h : g ∈ qC ss) : g.length <= ss.length := by
 obtain ⟨h, _⟩ := List.mem_filter.mp h
 obtain ⟨p, hp, rfl⟩ := List.mem_map.mp h
 exact (dX ss ss.length).2 p hp
theorem kM {K : Fg} {H : Hp} {Q : VK} {E : XK} {L : Addr} {xs : List V} {ns : List Int} (h : ak K H L xs) (g : IsL K H xs (ax ns)) (q : ∀ acc ls H', H acc = none -> aa H H' -> H' acc = some (.lst (ls.map V.ref)) -> Paired (fun l (g : List Nat) => H' l = some (.lst (gV g)) /\ H l = none) ls (qC (ax ns)) -> ls.Nodup -> acc ∉ ls -> Q (.ref acc) H') : ju K [.ref L] H Q E :=
 ⟨.ref L, ax ns, rfl, .lst h g, (bU ns).1, (bU ns).2, fun acc H' ls a b c d e f => q acc ls H' a b c d e f⟩
theorem ud (T : mS K mg t) : bA P w K mg base iq 4 t.f_law t.d_law ["_law_script"] (hW K) := by
 have G_zab := @jI P w K mg base t T
 have G_zak := @mh P w K mg base t T
 have G_zad := @ic P w K mg base t T
 refine T.F_law.ok fL (fun vs H Q E h => ?_) (fun cdv A outer s H vs Q E hr h => ?_)
 ·obtain ⟨a, ns, rfl, _⟩ := h
  rfl
 obtain ⟨a, ns, rfl, hS, hn, hb, q⟩ := h
 refine ⟨_, (bJ (ao (i := 1) fL.nd rfl (Or.inl rfl) (au G_zab (hr.mono (by decide)) rfl T.m_zab T.k_l_scene T.b_l_scene .nil aU (af (pv 0) aB)))
 (bJ (ao (i := 2) fL.nd rfl (Or.inl rfl) (au G_zak (hr.mono (by decide)) rfl T.m_zak T.k_l_due T.b_l_due .nil aU (af (pv 1) aB)))
 (bJ (ao (i := 3) fL.nd rfl (Or.inl rfl) (au G_zad (hr.mono (by decide)) rfl T.m_zad T.k_not_apart T.b_not_apart .nil aU (af (pv 1) aB)))
 (bJ (bO (PW.pt (tu (oi (fR (ko fm rfl rfl T.z_isinstance T.z_list gZ (pv 3)))) (tu (aA (nL hr.un150) (pv 3) (pv 2) (aJ _)) (wv (aA (nL hr.un150) (pv 1) (au G_zab (hr.mono (by decide)) rfl T.m_zab T.k_l_scene T.b_l_scene .nil aU (af (pv 0) aB)) (aJ _)))))) (cH (aE lu)) aP)
 (bJ (cL PassesOwn.never rfl (gH (pv 3)) (aL (i := 4) fL.nd rfl (Or.inl rfl)) (bJ (bO (oi (fR (ko fm rfl rfl T.z_isinstance T.z_list gZ (pv 4)))) (cH (aE lu)) aP)
 (cH (bX (eM PySem.F.plainAttrs_list PySem.F.slot_list_append PySem.F.type_list_append aQ (pv 4) (af oz aB))))))
 (bJ (bX (eM PySem.F.plainAttrs_list PySem.F.slot_list_append PySem.F.type_list_append aQ (pv 3) (af oz aB)))
 (cH (aE (uq (dR (ox hr.un150) (au G_zad (hr.mono (by decide)) rfl T.m_zad T.k_not_apart T.b_not_apart .nil aU (af (pv 1) aB)) (pv 2) (aJ _)) (tQ (dR (ox hr.un150) (pv 1) (au G_zab (hr.mono (by decide)) rfl T.m_zab T.k_l_scene T.b_l_scene .nil aU (af (pv 0) aB)) (aJ _)))))))))))), mP (σ := [some _, none, none, none, none]) rfl ?_⟩
 have dps : ∀ t ∈ ax ns, Dp 4 t := fun t ht => xv ((bU ns).2 t ht)
 f_look
 refine gP hS hn hb (fun L xs H1 s1 hL iL => ?_)
 f_look
 refine xG hL iL (fun ld ys H2 s2 hd id => ?_)
 f_look
 refine kM (s2.seq hL) (iL.same s2) (fun acc ls H3 nacc s3 hacc pl nd na => ?_)
 have s13 := s2.trans s3
 f_look
 have pf : ∀ {i : Nat} {l : Addr}, ls[i]? = some l -> H2 l = none /\ ∃ g : List Nat, g.length <= 900 /\ H3 l = some (.lst (gV g)) := fun {i l} hi => by
  obtain ⟨g, hg, e, n⟩ := qN pl hi
  exact ⟨n, g, Nat.le_trans (tU (List.mem_of_getElem? hg)) (bU ns).1, e⟩
 refine lF (lL (n := 4) (ak.of hacc) (ak.of (s3 _ _ hd)) (sX (ft (fun _ _ h => h.1) pl)) (id.same s3) (by decide) wO) ?_
 f_look
 refine gP ((s1.trans s13).seq hS) hn hb (fun Lb xb H4 s4 hLb iLb => ?_)
 f_look
 have s14 := s13.trans s4
 refine lF (lL (n := 4) (s14.seq hL) hLb (iL.same s14) iLb (by decide) dps) ?_
 f_look
 refine ⟨acc, rfl, ⟨_, ak.of (s4 _ _ hacc)⟩, ?_⟩
 refine uo (K := K) (xs := ls.map V.ref) (fun i σ HD => ∃ u, σ = [some (.ref a), some (.ref L), some (.ref ld), some (.ref acc), u] /\ aa H2 HD /\ HD acc = some (.lst (ls.map V.ref)) /\ ∀ j l, i <= j -> ls[j]? = some l -> ∃ g : List Nat, g.length <= 900 /\ HD l = some (.lst (gV g))) ⟨none, rfl, s3.trans s4, s4 _ _ hacc, fun j l _ h => by obtain ⟨_, g, hg, e⟩ := pf h; exact ⟨g, hg, s4 _ _ e⟩⟩ (fun i σ HD _ ⟨_, _, _, e, _⟩ => ak.of e) ?_ ?_
 ·rintro i x σ HD hi ⟨u, rfl, sD, eD, gD⟩
  obtain ⟨l, hl, rfl⟩ := mF hi
  obtain ⟨g, hg, e⟩ := gD i l (Nat.le_refl _) hl
  have nl := (pf hl).1
  have nla : acc ≠ l := fun z => na (by rw [z]; exact List.mem_of_getElem? hl)
  f_look
  refine di (ak.of e) ?_
  f_look
  refine aZ e (Nat.lt_of_le_of_lt (by rw [List.length_map]; exact hg) (by decide)) (fun HE bE _ => ?_)
  f_look
  refine ⟨_, rfl, sD.but nl bE, bE _ _ nla eD, fun j m hj hm => ?_⟩
  obtain ⟨g', hg', e'⟩ := gD j m (by omega) hm
  have nml : m ≠ l := fun z => by
   have hil := (List.getElem?_eq_some_iff.mp hl)
   have hjm := (List.getElem?_eq_some_iff.mp hm)
   exact (List.pairwise_iff_getElem.mp nd) i j hil.1 hjm.1 (by omega) (by rw [hil.2, hjm.2, z])
  exact ⟨g', hg', bE _ _ nml e'⟩
 ·rintro σ HD ⟨u, rfl, sD, eD, _⟩
  f_look
  refine di (ak.of eD) ?_
  f_look
  have ll : ls.length <= 900 := by
   have := jz pl
   have := List.length_filter_le (fun g : List Nat => decide (1 < g.length)) ((da (ax ns) (ax ns).length).map (·.2))
   have := (dX (ax ns) (ax ns).length).1
   have := (bU ns).1
   rw [List.length_map] at *
   unfold qC at *
   omega
  refine aZ eD (Nat.lt_of_le_of_lt (by rw [List.length_map]; exact ll) (by decide)) (fun HE bE _ => ?_)
  have sE := sD.but nacc bE
  have sE1 := s2.trans sE
  f_look
  refine kM (sE1.seq hL) (iL.same sE1) (fun acc2 ls2 HF _ sF hacc2 pl2 _ _ => ?_)
  f_look
  refine lF (lL (n := 4) (ak.of hacc2) (ak.of (sF _ _ (sE _ _ hd))) (sX (ft (fun _ _ h => h.1) pl2)) (id.same (sE.trans sF)) (by decide) wO) ?_
  f_look
  have sF1 := sE1.trans sF
  refine gP ((s1.trans sF1).seq hS) hn hb (fun Lc xc HG sG hLc iLc => ?_)
  f_look
  refine lF (lL (n := 4) ((sF1.trans sG).seq hL) hLc (iL.same (sF1.trans sG)) iLc (by decide) dps) ?_
  f_look
  exact q _
end
theorem all_mk {l : PySem.W.OpenLaw} {w : World} {K : Fg} {h : Heap} {mg : Str -> Option Value} {fa f0 f1 f2 f3 f4 f5 f6 f7 f8 f9 f10 f11 g_GROUND : Addr} (X : K.In h) (G : h.Ns mainGlobals mg) (hfa : mg "law" = some (.ref fa))
  {od0 an0 od1 an1 od2 an2 od3 an3 od4 an4 od5 an5 od6 an6 od7 an7 od8 an8 od9 an9 od10 an10 od11 an11 : Option Addr} {sl0 sl1 sl2 sl3 sl4 sl5 sl6 sl7 sl8 sl9 sl10 sl11 : Array (Option Value)} {oc0 kV0 dc0 pm0 cd0 ct0 oc1 kV1 dc1 pm1 cd1 ct1 oc2 kV2 dc2 pm2 cd2 ct2 oc3 kV3 dc3 pm3 cd3 ct3 oc4 kV4 dc4 pm4 cd4 ct4 oc5 kV5 dc5 pm5 cd5 ct5 oc6 kV6 dc6 pm6 cd6 ct6 oc7 kV7 dc7 pm7 cd7 ct7 oc8 kV8 dc8 pm8 cd8 ct8 oc9 kV9 dc9 pm9 cd9 ct9 oc10 kV10 dc10 pm10 cd10 ct10 oc11 kV11 dc11 pm11 cd11 ct11 : Value}
  {gd_GROUND : Option Addr} {gn_GROUND : Nat} {gs_GROUND : Array (Option Value)} {tg_GROUND_0 tg_GROUND_1 tg_GROUND_2 tg_GROUND_3 tg_GROUND_4 : Tok}
  (x0 : eT K f0 oc0 od0 "is_mark" cW .none kV0 dc0 pm0 an0 cd0 ct0 sl0)
  (x1 : eT K f1 oc1 od1 "frame_numbers" bc .none kV1 dc1 pm1 an1 cd1 ct1 sl1)
  (x2 : eT K f2 oc2 od2 "likeness_of" aY .none kV2 dc2 pm2 an2 cd2 ct2 sl2)
  (x3 : eT K f3 oc3 od3 "not_apart" bI .none kV3 dc3 pm3 an3 cd3 ct3 sl3)
  (x4 : eT K f4 oc4 od4 "_law_cell_at" bY .none kV4 dc4 pm4 an4 cd4 ct4 sl4)
  (x5 : eT K f5 oc5 od5 "_law_source" cr .none kV5 dc5 pm5 an5 cd5 ct5 sl5)
  (x6 : eT K f6 oc6 od6 "_law_draw" dC .none kV6 dc6 pm6 an6 cd6 ct6 sl6)
  (x7 : eT K f7 oc7 od7 "_law_one" dQ .none kV7 dc7 pm7 an7 cd7 ct7 sl7)
  (x8 : eT K f8 oc8 od8 "_law_begun" cV .none kV8 dc8 pm8 an8 cd8 ct8 sl8)
  (x9 : eT K f9 oc9 od9 "_law_scene" cT .none kV9 dc9 pm9 an9 cd9 ct9 sl9)
  (x10 : eT K f10 oc10 od10 "_law_due" fg .none kV10 dc10 pm10 an10 cd10 ct10 sl10)
  (x11 : eT K f11 oc11 od11 "law" fu .none kV11 dc11 pm11 an11 cd11 ct11 sl11)
  (w_GROUND : PySem.W.nsIn K mainGlobals "GROUND" = some (some (.ref g_GROUND))) (u_GROUND : K.lookup g_GROUND = some ⟨.type "tuple", gd_GROUND, .seq #[.str "frame" tg_GROUND_0, .str "axis" tg_GROUND_1, .str "tick" tg_GROUND_2, .str "legend" tg_GROUND_3, .str "key" tg_GROUND_4] gn_GROUND, gs_GROUND⟩)
  (z_isinstance : PySem.W.nsIn K mainGlobals "isinstance" = some none)
  (z_int : PySem.W.nsIn K mainGlobals "int" = some none)
  (z_tuple : PySem.W.nsIn K mainGlobals "tuple" = some none)
  (z_list : PySem.W.nsIn K mainGlobals "list" = some none)
  (z_len : PySem.W.nsIn K mainGlobals "len" = some none)
  (z_range : PySem.W.nsIn K mainGlobals "range" = some none)
  (z_max : PySem.W.nsIn K mainGlobals "max" = some none)
  (z_min : PySem.W.nsIn K mainGlobals "min" = some none)
  (z_enumerate : PySem.W.nsIn K mainGlobals "enumerate" = some none)
  : ∃ fd : FuncData, (∀ (s : Shared) (v : Value), BindsTo s fd ⟨[v], []⟩ [("_law_script", v)]) /\ ∀ base : Heap, K.In base -> base.Ns mainGlobals mg -> bA l.prog w K mg base iq 4 fa fd ["_law_script"] (hW K) := by
 have e := hfa.symm.trans (PySem.W.mg_of X G x11.a)
 cases e
 have F0 := bK (st := cW) x0.l x0.c x0.k
 have b0 := F0.binds (ps := ["shape"]) fun _ _ _ _ _ _ us hl => by obtain ⟨_, rfl⟩ := gF hl; rfl
 have F1 := bK (st := bc) x1.l x1.c x1.k
 have b1 := F1.binds (ps := ["shapes"]) fun _ _ _ _ _ _ us hl => by obtain ⟨_, rfl⟩ := gF hl; rfl
 have F2 := bK (st := aY) x2.l x2.c x2.k
 have b2 := F2.binds (ps := ["shape"]) fun _ _ _ _ _ _ us hl => by obtain ⟨_, rfl⟩ := gF hl; rfl
 have F3 := bK (st := bI) x3.l x3.c x3.k
 have b3 := F3.binds (ps := ["shapes"]) fun _ _ _ _ _ _ us hl => by obtain ⟨_, rfl⟩ := gF hl; rfl
 have F4 := bK (st := bY) x4.l x4.c x4.k
 have b4 := F4.binds (ps := ["_law_script", "_law_k"]) fun _ _ _ _ _ _ us hl => by obtain ⟨_, _, rfl⟩ := tR hl; rfl
 have F5 := bK (st := cr) x5.l x5.c x5.k
 have b5 := F5.binds (ps := ["_law_script", "_law_k"]) fun _ _ _ _ _ _ us hl => by obtain ⟨_, _, rfl⟩ := tR hl; rfl
 have F6 := bK (st := dC) x6.l x6.c x6.k
 have b6 := F6.binds (ps := ["_law_source_here", "_law_many"]) fun _ _ _ _ _ _ us hl => by obtain ⟨_, _, rfl⟩ := tR hl; rfl
 have F7 := bK (st := dQ) x7.l x7.c x7.k
 have b7 := F7.binds (ps := ["_law_source_here"]) fun _ _ _ _ _ _ us hl => by obtain ⟨_, rfl⟩ := gF hl; rfl
 have F8 := bK (st := cV) x8.l x8.c x8.k
 have b8 := F8.binds (ps := ["_law_k"]) fun _ _ _ _ _ _ us hl => by obtain ⟨_, rfl⟩ := gF hl; rfl
 have F9 := bK (st := cT) x9.l x9.c x9.k
 have b9 := F9.binds (ps := ["_law_script"]) fun _ _ _ _ _ _ us hl => by obtain ⟨_, rfl⟩ := gF hl; rfl
 have F10 := bK (st := fg) x10.l x10.c x10.k
 have b10 := F10.binds (ps := ["_law_shapes"]) fun _ _ _ _ _ _ us hl => by obtain ⟨_, rfl⟩ := gF hl; rfl
 have F11 := bK (st := fu) x11.l x11.c x11.k
 have b11 := F11.binds (ps := ["_law_script"]) fun _ _ _ _ _ _ us hl => by obtain ⟨_, rfl⟩ := gF hl; rfl
 have T : mS K mg ⟨_, _, _, _, _, _, _, _, _, _, _, _, _, _, _, _, _, _, _, _, _, _, _, _, g_GROUND⟩ := ⟨F0, PySem.W.mg_of X G x0.a, x0.k, b0, F1, PySem.W.mg_of X G x1.a, x1.k, b1, F2, PySem.W.mg_of X G x2.a, x2.k, b2, F3, PySem.W.mg_of X G x3.a, x3.k, b3, F4, PySem.W.mg_of X G x4.a, x4.k, b4, F5, PySem.W.mg_of X G x5.a, x5.k, b5, F6, PySem.W.mg_of X G x6.a, x6.k, b6, F7, PySem.W.mg_of X G x7.a, x7.k, b7, F8, PySem.W.mg_of X G x8.a, x8.k, b8, F9, PySem.W.mg_of X G x9.a, x9.k, b9, F10, PySem.W.mg_of X G x10.a, x10.k, b10, F11, PySem.W.mg_of X G x11.a, x11.k, b11, PySem.W.mg_of X G w_GROUND, fun _ => .inr ⟨_, _, _, u_GROUND, rfl, rfl, (by show 5 <= sizeLine; decide), .cons ⟨_, rfl⟩ (.cons ⟨_, rfl⟩ (.cons ⟨_, rfl⟩ (.cons ⟨_, rfl⟩ (.cons ⟨_, rfl⟩ (.nil)))))⟩, PySem.W.mg_none_of X G z_isinstance, PySem.W.mg_none_of X G z_int, PySem.W.mg_none_of X G z_tuple, PySem.W.mg_none_of X G z_list, PySem.W.mg_none_of X G z_len, PySem.W.mg_none_of X G z_range, PySem.W.mg_none_of X G z_max, PySem.W.mg_none_of X G z_min, PySem.W.mg_none_of X G z_enumerate⟩
 exact ⟨PySem.W.fnOf "law" "law" (cS fu) (cv fu) (ai fu) .none kV11 dc11 pm11 an11 cd11 ct11, fun s v => .of_eq rfl, fun base _ _ => ud T⟩
theorem walk {l : PySem.W.OpenLaw} {q : Program} {loose : List Str} {XP : (Str -> Option Value) -> Heap -> Prop} {YP : World -> Heap -> Prop} {d : DefRec} {K : Params -> Fg} (hn : l.most = some 63) (hdf : d.params.defaults = [])
  (hY : ∀ (w : World) (h : Heap), YP w h -> (K w.params).In h)
  (F : ∀ (w : World) (mg : Str -> Option Value) (fa : Addr) (h : Heap), (K w.params).In h -> h.Ns mainGlobals mg -> mg d.name = some (.ref fa) ->
   ∃ fd : FuncData, (∀ (s : Shared) (u : Value), BindsTo s fd ⟨[u], []⟩ [("_law_script", u)]) /\ ∀ base : Heap, (K w.params).In base -> base.Ns mainGlobals mg -> bA l.prog w (K w.params) mg base iq 4 fa fd ["_law_script"] (hW (K w.params))) :
  PySem.W.WalkO q loose XP YP l.row.toRowW d [] (fun f vs => PySem.call f vs) :=
 L2.walk_ofB (n := 63) (k := 4) (x := "_law_script") (CX := fun _ => iq) (sp := fun w => hW (K w.params)) hn (by decide) hdf ⟨rfl, by decide, by decide⟩ hY F (fun _ _ a ns hl hbt _ hS => ⟨a, ns, rfl, hS, hl, hbt, fun _ => rfl⟩) fun _ _ _ _ _ z => z
end MyLaw
open PySem PySem.W PyProof.Rows
set_option maxRecDepth 100000 in
set_option maxHeartbeats 0 in
theorem PySem.Challenge.cw_markscale_k56_marks_not_told_apart_holds : PySem.Challenge.rw_markscale_k56_marks_not_told_apart.Holds := by
 w_on; o_law
 refine holds_open (q := MyLaw.hdV) (loose := []) (Xt := MyLaw.hdX MyLaw.hdV) (XP := XL MyLaw.hdV [])
  (Yf := Hook.obs (kHook MyLaw.hdKs.heap_1 MyLaw.hdKs MyLaw.hdKe)) (Ya := Hook.val (kHook MyLaw.hdKs.heap_1 MyLaw.hdKs MyLaw.hdKe)) (YP := Hook.says (kHook MyLaw.hdKs.heap_1 MyLaw.hdKs MyLaw.hdKe)) (N := 1080)
  MyLaw.hdL (Hook.of _) (Hook.keeps _) (fun s z => xl_of s (Bool.and_eq_true_iff.mp z).1) XL.keeps (by rfl)
  (by rfl) (by rfl) (fun s z => recFacts_of (Bool.and_eq_true_iff.mp z).2) (by rfl)
  (by first | assumption | decide +kernel) (by decide +kernel)
  ⟨rfl, rfl, rfl, rfl, rfl, by decide +kernel⟩ ?hw ?hc
 (case hw => w_witness2)
 k_fill
 refine MyLaw.walk (l := PySem.Challenge.rw_markscale_k56_marks_not_told_apart) rfl rfl (fun w h Y => PySem.W.kIn_of Y) ?F
 case F =>
  intro w mg fa h KX G hmg
  refine' MyLaw.all_mk KX G hmg ⟨?a0, ?l0, ?c0, ?k0⟩ ⟨?a1, ?l1, ?c1, ?k1⟩ ⟨?a2, ?l2, ?c2, ?k2⟩ ⟨?a3, ?l3, ?c3, ?k3⟩ ⟨?a4, ?l4, ?c4, ?k4⟩ ⟨?a5, ?l5, ?c5, ?k5⟩ ⟨?a6, ?l6, ?c6, ?k6⟩ ⟨?a7, ?l7, ?c7, ?k7⟩ ⟨?a8, ?l8, ?c8, ?k8⟩ ⟨?a9, ?l9, ?c9, ?k9⟩ ⟨?a10, ?l10, ?c10, ?k10⟩ ⟨?a11, ?l11, ?c11, ?k11⟩ ?w_GROUND ?u_GROUND ?z_isinstance ?z_int ?z_tuple ?z_list ?z_len ?z_range ?z_max ?z_min ?z_enumerate
  all_goals try k_is
