import Derived.Test.YtjiaedckecfjbaaDoorVaA
set_option linter.unusedVariables false
set_option linter.unusedSimpArgs false
namespace Go.Proofs.YtjiaedckecfjbaaDoor
open Go.ChangeShapes Go.WideShapes Go.ChangeAt Go.RowKit Go.Maps

theorem fitR_wrap (n : Int) : Fits (wrap64 n) := by unfold Fits wrap64; omega
theorem fitR_wrapK {x : Int} (h : ∃ n, x = IntKind.i64.wrap n) : Fits x := by
  obtain ⟨n, rfl⟩ := h
  rw [IntKind.wrap_i64]
  unfold Fits
  omega
theorem fitR_zero : Fits 0 := by unfold Fits; omega
theorem fitR_truth (p : Bool) : Fits (truthIW p) := by cases p <;> (unfold truthIW Fits; simp)
theorem fitR_rem {a b : Int} (ha : Fits a) : Fits (remIW a b) := by
  unfold remIW
  split
  · exact fitR_zero
  · have h := ha
    unfold Fits at h ⊢
    have hn : (a.tmod b).natAbs ≤ a.natAbs := by rw [Int.natAbs_tmod]; exact Nat.mod_le _ _
    rcases Int.le_total 0 a with q | q
    · have := Int.tmod_nonneg b q
      omega
    · have h2 := Int.tmod_nonneg b (a := -a) (by omega)
      rw [Int.neg_tmod] at h2
      omega
theorem fitR_shr {a b : Int} (ha : Fits a) : Fits (shrIW a b) := by
  unfold shrIW
  split
  · exact fitR_zero
  · have h := ha
    unfold Fits at h ⊢
    obtain ⟨d, hd⟩ : ∃ d : Int, d = 2 ^ min b.toNat 64 := ⟨_, rfl⟩
    have hp : 0 < d := by rw [hd]; exact Int.pow_pos (by decide)
    rw [← hd]
    rcases Int.le_total 0 a with q | q
    · have h1 := Int.ediv_nonneg q (Int.le_of_lt hp)
      have h2 := Int.ediv_le_self d q
      omega
    · have h0 := Int.mul_nonneg (show 0 ≤ -a by omega) (show 0 ≤ d - 1 by omega)
      rw [Int.neg_mul, Int.mul_sub, Int.mul_one] at h0
      have h1 : a ≤ a / d := (Int.le_ediv_iff_mul_le hp).2 (by omega)
      have h2 : a / d < 1 := (Int.ediv_lt_iff_lt_mul hp).2 (by omega)
      omega
theorem fitR_ite {c : Prop} [Decidable c] {x y : Int} (hx : Fits x) (hy : Fits y) : Fits (if c then x else y) := by
  split
  · exact hx
  · exact hy
theorem fitR_do {op a b : Int} (ha : Fits a) (hb : Fits b) : Fits (doIW op a b) := by
  have hd : Fits (divIW a b) := by unfold divIW; exact fitR_ite fitR_zero (fitR_wrap _)
  have hl : Fits (shlIW a b) := by unfold shlIW; exact fitR_ite fitR_zero (fitR_wrap _)
  unfold doIW
  exact fitR_ite (fitR_wrap _) (fitR_ite (fitR_wrap _) (fitR_ite (fitR_wrap _) (fitR_ite hd (fitR_ite (fitR_rem ha) (fitR_ite (fitR_wrapK ⟨_, rfl⟩) (fitR_ite (fitR_wrapK ⟨_, rfl⟩) (fitR_ite (fitR_wrapK ⟨_, rfl⟩) (fitR_ite (fitR_wrapK ⟨_, rfl⟩) (fitR_ite hl (fitR_ite (fitR_shr ha) (fitR_ite (fitR_truth _) (fitR_ite (fitR_truth _) (fitR_ite (fitR_truth _) (fitR_ite (fitR_truth _) (fitR_ite (fitR_wrap _) (fitR_ite (fitR_wrapK ⟨_, rfl⟩) (fitR_ite (fitR_wrap _) fitR_zero)))))))))))))))))
/-- How many registers an Op has. -/
def rcnt (op : Int) : Int :=
  if op = 21 ∨ op = 26 ∨ op = 27 then 0
  else if op = 1 ∨ op = 22 ∨ op = 23 ∨ op = 24 ∨ op = 25 ∨ op = 32 ∨ op = 33 ∨ op = 35 ∨ op = 36 ∨ op = 37 ∨ op = 38 then 1
  else if op = 2 ∨ op = 18 ∨ op = 19 ∨ op = 20 ∨ op = 28 ∨ op = 29 ∨ op = 34 then 2
  else if (3 ≤ op ∧ op ≤ 17) ∨ op = 30 ∨ op = 31 then 3
  else -1
def okR (cnt i r : Int) : Bool := if i < cnt then decide (0 ≤ r ∧ r ≤ 15) else decide (r = 0)
def regsF (x : Ri) : Bool := decide (0 ≤ rcnt x.op) && (okR (rcnt x.op) 0 x.a && (okR (rcnt x.op) 1 x.b && okR (rcnt x.op) 2 x.c))
def numF (n : Nat) (f : Rf) (x : Ri) : Bool :=
  if x.op = 1 then decide (-9223372036854775808 ≤ x.n ∧ x.n ≤ 9223372036854775807)
  else if x.op = 21 ∨ x.op = 22 ∨ x.op = 23 then decide (f.fi ≤ x.n ∧ x.n ≤ f.fi + f.ct - 1)
  else if x.op = 24 ∨ x.op = 25 then decide (2 ≤ x.n ∧ x.n ≤ f.fr - 1)
  else if x.op = 26 then decide (0 ≤ x.n ∧ x.n ≤ (n : Int) - 1)
  else if x.op = 32 ∨ x.op = 33 ∨ x.op = 34 then decide (1 ≤ x.n ∧ x.n ≤ 5)
  else if x.op = 35 then decide (1 ≤ x.n ∧ x.n ≤ 6)
  else decide (x.n = 0)
def lastF (op : Int) : Bool := decide (op = 21 ∨ op = 27 ∨ op = 35)
def funF (C : List Ri) (n : Nat) (f : Rf) : Bool := decide (2 ≤ f.fr ∧ f.fr ≤ 1099511627776) && (decide (0 ≤ f.pa ∧ f.pa ≤ 8) && (((C.drop f.fi.toNat).take f.ct.toNat).all (fun x => regsF x && numF n f x) && lastF (C.getD (f.fi + f.ct - 1).toNat riZ).op))
def cutF (len : Int) : Int → List Rf → Bool
  | next, [] => decide (next = len)
  | next, f :: FS => decide (f.fi = next ∧ 1 ≤ f.ct ∧ f.ct ≤ len - next) && cutF len (next + f.ct) FS
def mainF (FS : List Rf) (mn : Int) : Bool := decide (0 ≤ mn ∧ mn ≤ (FS.length : Int) - 1) && decide ((FS.getD mn.toNat ⟨ByteArray.empty, 0, 0, 0, 0⟩).pa = 0)
/-- What code's form says. -/
structure FoR (C : List Ri) (FS : List Rf) : Prop where
  cut : ∀ f ∈ FS, 0 ≤ f.fi ∧ 1 ≤ f.ct ∧ f.fi + f.ct ≤ (C.length : Int)
  fr : ∀ f ∈ FS, 2 ≤ f.fr ∧ f.fr ≤ 1099511627776
  ins : ∀ f ∈ FS, ∀ i : Int, f.fi ≤ i → i < f.fi + f.ct → regsF (C.getD i.toNat riZ) = true ∧ numF FS.length f (C.getD i.toNat riZ) = true
  last : ∀ f ∈ FS, lastF (C.getD (f.fi + f.ct - 1).toNat riZ).op = true
theorem cutF_all {len : Int} : ∀ (FS : List Rf) (next : Int), 0 ≤ next → cutF len next FS = true → ∀ f ∈ FS, 0 ≤ f.fi ∧ 1 ≤ f.ct ∧ f.fi + f.ct ≤ len
  | [], _, _, _, f, hf => by simp at hf
  | g :: FS, next, h0, h, f, hf => by
    unfold cutF at h
    simp only [Bool.and_eq_true, decide_eq_true_eq] at h
    obtain ⟨⟨h1, h2, h3⟩, h4⟩ := h
    rcases List.mem_cons.1 hf with rfl | q
    · omega
    · exact cutF_all FS (next + g.ct) (by omega) h4 f q
theorem foR_of {C : List Ri} {FS : List Rf} (h1 : cutF C.length 0 FS = true) (h2 : FS.all (funF C FS.length) = true) : FoR C FS := by
  have hc := cutF_all FS 0 (by omega) h1
  have hf : ∀ f ∈ FS, funF C FS.length f = true := by simpa using h2
  refine ⟨hc, fun f q => ?_, fun f q i h3 h4 => ?_, fun f q => ?_⟩
  · have := hf f q
    unfold funF at this
    simp only [Bool.and_eq_true, decide_eq_true_eq] at this
    exact this.1
  · have := hf f q
    have := hc f q
    unfold funF at *
    simp only [Bool.and_eq_true, decide_eq_true_eq, List.all_eq_true] at *
    obtain ⟨_, _, h5, _⟩ := hf f q
    have hi : i.toNat < C.length := by omega
    have e : C.getD i.toNat riZ = C[i.toNat] := by simp [List.getD, hi]
    rw [e]
    refine h5 _ ?_
    rw [List.mem_iff_getElem?]
    refine ⟨i.toNat - f.fi.toNat, ?_⟩
    rw [List.getElem?_take_of_lt (by omega), List.getElem?_drop, show f.fi.toNat + (i.toNat - f.fi.toNat) = i.toNat by omega]
    simp [hi]
  · have := hf f q
    unfold funF at this
    simp only [Bool.and_eq_true] at this
    exact this.2.2.2
/-- The activations, the newest first: its function, the first word of its frame. -/
def ActR (FS : List Rf) (sw : Int → Int) : List (Nat × Int) → Prop
  | [] => False
  | [(_, b)] => b = 0 ∧ sw 0 = -1 ∧ sw 1 = -1
  | (_, b) :: (j, b') :: A => (∃ g, FS[j]? = some g ∧ b = b' + g.fr ∧ g.fi ≤ sw b ∧ sw b < g.fi + g.ct) ∧ sw (b + 1) = b' ∧ ActR FS sw ((j, b') :: A)
theorem ActR.nonneg {FS sw} (hF : ∀ f ∈ FS, 2 ≤ Rf.fr f) : ∀ {A k b}, ActR FS sw ((k, b) :: A) → 0 ≤ b ∧ (A.length : Int) * 2 ≤ b
  | [], k, b, h => by
    obtain ⟨h1, _⟩ := h
    subst h1
    simp
  | (j, b') :: A, k, b, h => by
    obtain ⟨⟨g, h1, h2, _⟩, _, h4⟩ := h
    have := ActR.nonneg hF h4
    have := hF g (List.mem_of_getElem? h1)
    simp only [List.length_cons]
    omega
theorem ActR.keep {FS sw sw'} (hF : ∀ f ∈ FS, 2 ≤ Rf.fr f) : ∀ {A k b}, ActR FS sw ((k, b) :: A) → (∀ i, 0 ≤ i → i ≤ b + 1 → sw' i = sw i) → ActR FS sw' ((k, b) :: A)
  | [], k, b, h, hk => by
    obtain ⟨h1, h2, h3⟩ := h
    subst h1
    exact ⟨rfl, (hk 0 (by omega) (by omega)).trans h2, (hk 1 (by omega) (by omega)).trans h3⟩
  | (j, b') :: A, k, b, h, hk => by
    obtain ⟨⟨g, h1, h2, h3, h4⟩, h5, h6⟩ := h
    have hn := ActR.nonneg hF h6
    have hg := hF g (List.mem_of_getElem? h1)
    have e0 := hk b (by omega) (by omega)
    have e1 := hk (b + 1) (by omega) (by omega)
    exact ⟨⟨g, h1, h2, by rw [e0]; exact h3, by rw [e0]; exact h4⟩, e1.trans h5, ActR.keep hF h6 fun i hi1 hi2 => hk i hi1 (by omega)⟩
/-- A write above the newest frame's two words. -/
theorem ActR.upd_at {FS sw} (hF : ∀ f ∈ FS, 2 ≤ Rf.fr f) {A k b} (h : ActR FS sw ((k, b) :: A)) {i x : Int} (hi : b + 2 ≤ i) : ActR FS (upd sw i x) ((k, b) :: A) :=
  h.keep hF fun j _ h2 => by unfold upd; rw [if_neg (by omega)]
/-- Where a run stands. -/
structure AtR (C : List Ri) (FS : List Rf) (S : Int) (R : Rv) (A : List (Nat × Int)) (f : Rf) : Prop where
  act : ActR FS R.sw A
  hd : ∃ k B, A = (k, R.base) :: B ∧ FS[k]? = some f
  top : R.top = R.base + f.fr
  le : R.top ≤ S
  nx : f.fi ≤ R.nx ∧ R.nx < f.fi + f.ct
  frames : R.frames = A.length
/-- What holds of a run's values. -/
structure ValR (room : Int) (R : Rv) : Prop where
  rg : R.rg.length = 16
  fits : ∀ x ∈ R.rg, Fits x
  sw : ∀ i, Fits (R.sw i)
  mm : ∀ i, Fits (R.mm i)
  inp : ∀ x ∈ R.inp, Fits x
  tk : 0 ≤ R.tk ∧ (R.tk ≤ room ∨ R.tk = 0)
  ln : ∀ a k, R.ln a = some k → 1 ≤ a ∧ 0 ≤ k ∧ a + k ≤ R.tk
  steps : 0 ≤ R.steps
theorem ValR.reg {room R} (h : ValR room R) (i : Int) : Fits (R.reg i) := by
  unfold Rv.reg
  rw [List.getD_eq_getElem?_getD]
  cases e : R.rg[i.toNat]? with
  | none => exact fitR_zero
  | some x => exact h.fits x (List.mem_of_getElem? e)
theorem ValR.set {room R} (h : ValR room R) (i : Int) {x : Int} (hx : Fits x) : ValR room (R.set i x) :=
  ⟨by simp [Rv.set, h.rg], fun y hy => by
    rcases List.mem_or_eq_of_mem_set hy with q | q
    · exact h.fits y q
    · rw [q]; exact hx, h.sw, h.mm, h.inp, h.tk, h.ln, h.steps⟩
theorem fit_upd {f : Int → Int} (h : ∀ i, Fits (f i)) (a : Int) {x : Int} (hx : Fits x) : ∀ i, Fits (upd f a x i) := fun i => by
  unfold upd
  split
  · exact hx
  · exact h i
end Go.Proofs.YtjiaedckecfjbaaDoor
