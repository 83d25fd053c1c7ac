import Derived.Test.YtjiaedckecfjbaaDoorCyK
set_option linter.unusedVariables false
set_option linter.unusedSimpArgs false
namespace Go.Proofs.YtjiaedckecfjbaaDoor
open Go.ChangeShapes Go.WideShapes Go.ChangeAt Go.RowKit Go.Maps Go.WideMaps

theorem rdFns_back {B : List Int} (hB : Byts B) {main : Int} : ∀ {m i : Nat} {first : Int} {A FS : List Rf} {next q : Nat}, rdFns B main m (i : Int) first A next = .ok (FS, q) → (A.map fun f : Rf => nml f.name).Nodup →
    ∃ N, FS = A ++ N ∧ N.length = m ∧ B.drop next = N.flatMap wrR ++ B.drop q ∧ ChF first N ∧ (∀ f ∈ N, nmOk (nml f.name) = true ∧ (2 ≤ f.fr ∧ f.fr ≤ 1099511627776) ∧ (0 ≤ f.pa ∧ f.pa ≤ 8) ∧ (Fits f.fr ∧ Fits f.ct ∧ Fits f.pa)) ∧ (FS.map fun f : Rf => nml f.name).Nodup ∧ ∀ j (hj : j < N.length), ((i + j : Nat) : Int) = main → (N[j]).pa = 0
  | 0, i, first, A, FS, next, q, h, hA => by
    simp only [rdFns, Except.ok.injEq, Prod.mk.injEq] at h
    obtain ⟨rfl, rfl⟩ := h
    exact ⟨[], by simp, rfl, rfl, trivial, fun f hf => by simp at hf, hA, fun j hj => by simp at hj⟩
  | m + 1, i, first, A, FS, next, q, h, hA => by
    simp only [rdFns] at h
    split at h
    · cases h
    · next T fr ct pa e1 =>
      have hg := rdFn_rng e1
      obtain ⟨a1, a2, a3, a4⟩ := rdFn_back hB (first := first) e1
      have en : nml (bs T) = T := by simp [nml, bs]
      have hA2 : ((A ++ [(⟨bs T, fr, first, ct, pa⟩ : Rf)]).map fun f : Rf => nml f.name).Nodup := by
        rw [List.map_append, List.nodup_append]
        refine ⟨hA, by simp, fun x hx y hy => ?_⟩
        simp only [List.map_cons, List.map_nil, List.mem_singleton] at hy
        rw [hy, en]
        intro e
        rw [e] at hx
        exact a3 hx
      have h' : rdFns B main m ((i + 1 : Nat) : Int) (first + ct) (A ++ [(⟨bs T, fr, first, ct, pa⟩ : Rf)]) (next + 1 + T.length + 8 + 4 + 1) = .ok (FS, q) := h
      obtain ⟨N, b1, b2, b3, b4, b5, b6, b7⟩ := rdFns_back hB h' hA2
      refine ⟨⟨bs T, fr, first, ct, pa⟩ :: N, by rw [b1, List.append_assoc]; rfl, by rw [List.length_cons, b2], by rw [a1, b3, List.flatMap_cons, List.append_assoc], ⟨rfl, hg.2.1.1, b4⟩, fun f hf => ?_, b6, fun j hj hm => ?_⟩
      · rcases List.mem_cons.1 hf with rfl | hf
        · refine ⟨by show nmOk (nml (bs T)) = true; rw [en]; exact a2, hg.1, ?_, a4⟩
          have := hg.2.2
          show 0 ≤ pa ∧ pa ≤ 8
          split at this <;> omega
        · exact b5 f hf
      · cases j with
        | zero =>
          have e : (i : Int) = main := by simpa using hm
          have := hg.2.2
          rw [if_pos e] at this
          show pa = 0
          omega
        | succ j =>
          have := b7 j (by simpa using hj) (by rw [← hm]; congr 1; omega)
          simpa using this
/-- Bytes that read are just those that are written of what was read. -/
theorem rdCode_back {B : List Int} (hB : Byts B) {main : Int} {FS : List Rf} {L : List Ri} (h : rdCode B = .ok (main, FS, L)) : formR L FS main = true ∧ wrC L FS main = B ∧ (∀ x ∈ L, ReI x) ∧ (∀ f ∈ FS, Fits f.fr ∧ Fits f.ct ∧ Fits f.pa) ∧ Fits main := by
  unfold rdCode at h
  split at h
  · cases h
  · next q0 e0 =>
    split at h
    · cases h
    · next count e1 =>
      split at h
      · cases h
      · next main' e2 =>
        split at h
        · cases h
        · next FS' q2 e3 =>
          split at h
          · cases h
          · next L' q3 e4 =>
            split at h
            · next e5 =>
              cases h
              obtain ⟨a1, a2⟩ := rdMk_back hB (by decide) e0
              obtain ⟨b1, _, b3, _⟩ := rdN_back hB (by omega) e1
              obtain ⟨c1, _, c3, c4⟩ := rdN_back hB (by omega) e2
              obtain ⟨N, d1, d2, d3, d4, d5, d6, d7⟩ := rdFns_back hB (i := 0) e3 (by simp)
              rw [List.nil_append] at d1
              subst d1
              have hn : (count.toNat : Int) = count := Int.toNat_of_nonneg (by omega)
              have hc : count = (FS.length : Int) := by omega
              obtain ⟨f1, f2, f3, f4⟩ := rdIns_back hB (P := []) d4 rfl e4
              refine ⟨?_, ?_, f4, fun f hf => (d5 f hf).2.2.2, c4⟩
              · unfold formR
                have g1 : cutF (L.length : Int) 0 FS = true := by
                  have z := f2
                  rw [List.length_nil, Nat.zero_add] at z
                  exact z
                have g2 : namesP FS = true := by
                  unfold namesP
                  simp only [Bool.and_eq_true, decide_eq_true_eq, List.all_eq_true]
                  exact ⟨fun f hf => (d5 f hf).1, d6⟩
                have g3 : mainF FS main = true := by
                  unfold mainF
                  simp only [Bool.and_eq_true, decide_eq_true_eq]
                  refine ⟨by omega, ?_⟩
                  have hj : main.toNat < FS.length := by omega
                  have z := d7 main.toNat hj (by omega)
                  rw [List.getD_eq_getElem?_getD, List.getElem?_eq_getElem hj]
                  exact z
                have g4 : FS.all (funF L FS.length) = true := by
                  rw [List.all_eq_true]
                  intro f hf
                  have z := f3 f hf
                  rw [List.nil_append] at z
                  unfold funF
                  simp only [Bool.and_eq_true, decide_eq_true_eq, List.all_eq_true]
                  exact ⟨(d5 f hf).2.1, (d5 f hf).2.2.1, z.1, z.2⟩
                rw [g1, g2, g3, g4]
                rfl
              · have e6 : B.drop q3 = [] := List.drop_eq_nil_of_le (by omega)
                have z : B = B.drop 0 := rfl
                unfold wrC
                rw [fwB_all, iwB_all]
                rw [hc] at b1
                rw [a1] at b1 a2
                have e7 : q0 + 8 = q0 + 4 + 4 := rfl
                rw [z, a2, b1]
                rw [show 0 + mkB.length + 4 = q0 + 4 by rw [a1], c1, show q0 + 4 + 4 = q0 + 8 from rfl, d3, f1, e6]
                simp only [List.append_assoc, List.append_nil]
                rfl
            · cases h
end Go.Proofs.YtjiaedckecfjbaaDoor
namespace Go.Proofs.YtjiaedckecfjbaaDoor
open Go.ChangeShapes Go.WideShapes Go.ChangeAt Go.RowKit Go.Maps Go.WideMaps

theorem rdN_err {B k least most next p} (h : rdN B k least most next = .error p) (hn : next ≤ B.length) : p ≤ B.length := by
  unfold rdN at h
  split at h
  · cases h; exact Nat.le_refl _
  · split at h
    · cases h
    · cases h; exact hn
theorem rdMk_err {B : List Int} : ∀ {L : List Int} {next p : Nat}, rdMk B L next = .error p → next ≤ B.length → p ≤ B.length
  | [], next, p, h, _ => by cases h
  | x :: L, next, p, h, hn => by
    simp only [rdMk] at h
    split at h
    · next e => cases h; exact rdN_err e hn
    · next e => exact rdMk_err h (rdN_len e)
theorem rdNm_err {B M next p} (h : rdNm B M next = .error p) (hn : next ≤ B.length) : p ≤ B.length := by
  unfold rdNm at h
  split at h
  · next e => cases h; exact rdN_err e hn
  · next e =>
    split at h
    · cases h; exact Nat.le_refl _
    · split at h
      · cases h
      · cases h; exact rdN_len e
theorem rdFn_err {B M params next p} (h : rdFn B M params next = .error p) (hn : next ≤ B.length) : p ≤ B.length := by
  unfold rdFn at h
  split at h
  · next e => cases h; exact rdNm_err e hn
  · next e0 =>
    have := (rdNm_len e0).2
    split at h
    · next e => cases h; exact rdN_err e (by omega)
    · next e1 =>
      split at h
      · next e => cases h; exact rdN_err e (rdN_len e1)
      · next e2 =>
        split at h
        · next e => cases h; exact rdN_err e (rdN_len e2)
        · cases h
theorem rdFns_err {B : List Int} {main : Int} : ∀ {m : Nat} {i first : Int} {A : List Rf} {next p : Nat}, rdFns B main m i first A next = .error p → next ≤ B.length → p ≤ B.length
  | 0, i, first, A, next, p, h, _ => by cases h
  | m + 1, i, first, A, next, p, h, hn => by
    simp only [rdFns] at h
    split at h
    · next e => cases h; exact rdFn_err e hn
    · next e => exact rdFns_err h (rdFn_len e).2
theorem rdRg_err {B : List Int} : ∀ {m next p : Nat}, rdRg B m next = .error p → next ≤ B.length → p ≤ B.length
  | 0, next, p, h, _ => by cases h
  | m + 1, next, p, h, hn => by
    simp only [rdRg] at h
    split at h
    · next e => cases h; exact rdN_err e hn
    · next e =>
      split at h
      · next e2 => cases h; exact rdRg_err e2 (rdN_len e)
      · cases h
theorem rdRg_lenB {B : List Int} : ∀ {m next : Nat} {L : List Int}, rdRg B m next = .ok L → next ≤ B.length → next + m ≤ B.length
  | 0, next, L, h, hn => hn
  | m + 1, next, L, h, hn => by
    simp only [rdRg] at h
    split at h
    · cases h
    · next e =>
      split at h
      · cases h
      · next e2 =>
        have := rdRg_lenB e2 (rdN_len e)
        omega
theorem rdOp_err {B last next p} (h : rdOp B last next = .error p) (hn : next ≤ B.length) : p ≤ B.length := by
  unfold rdOp at h
  split at h
  · cases h; exact Nat.le_refl _
  · split at h
    · cases h
    · cases h; exact hn
theorem rdOp_len {B last next op} (h : rdOp B last next = .ok op) : next + 1 ≤ B.length := by
  unfold rdOp at h
  split at h
  · cases h
  · omega
theorem rdIn_err {B f k last next p} (h : rdIn B f k last next = .error p) (hn : next ≤ B.length) : p ≤ B.length := by
  unfold rdIn at h
  split at h
  · next e => cases h; exact rdOp_err e hn
  · next e0 =>
    split at h
    · next e => cases h; exact rdRg_err e (rdOp_len e0)
    · next e1 =>
      have := rdRg_lenB e1 (rdOp_len e0)
      split at h
      · split at h
        · next e => cases h; exact rdN_err e (by omega)
        · cases h
      · cases h
theorem rdIn_lenB {B f k last next x q} (h : rdIn B f k last next = .ok (x, q)) : q ≤ B.length := by
  unfold rdIn at h
  split at h
  · cases h
  · next e0 =>
    split at h
    · cases h
    · next e1 =>
      have := rdRg_lenB e1 (rdOp_len e0)
      split at h
      · split at h
        · cases h
        · next e => cases h; exact rdN_len e
      · cases h; omega
theorem rdIns1_err {B : List Int} {f : Rf} {k : Int} : ∀ {m next p : Nat}, rdIns1 B f k m next = .error p → next ≤ B.length → p ≤ B.length
  | 0, next, p, h, _ => by cases h
  | m + 1, next, p, h, hn => by
    simp only [rdIns1] at h
    split at h
    · next e => cases h; exact rdIn_err e hn
    · next e =>
      split at h
      · next e2 => cases h; exact rdIns1_err e2 (rdIn_lenB e)
      · cases h
theorem rdIns1_lenB {B : List Int} {f : Rf} {k : Int} : ∀ {m next q : Nat} {L : List Ri}, rdIns1 B f k m next = .ok (L, q) → next ≤ B.length → q ≤ B.length
  | 0, next, q, L, h, hn => by
    simp only [rdIns1, Except.ok.injEq, Prod.mk.injEq] at h
    omega
  | m + 1, next, q, L, h, hn => by
    simp only [rdIns1] at h
    split at h
    · cases h
    · next e =>
      split at h
      · cases h
      · next e2 => cases h; exact rdIns1_lenB e2 (rdIn_lenB e)
theorem rdIns_err {B : List Int} {k : Int} : ∀ {FS : List Rf} {next p : Nat}, rdIns B k FS next = .error p → next ≤ B.length → p ≤ B.length
  | [], next, p, h, _ => by cases h
  | f :: FS, next, p, h, hn => by
    simp only [rdIns] at h
    split at h
    · next e => cases h; exact rdIns1_err e hn
    · next e =>
      split at h
      · next e2 => cases h; exact rdIns_err e2 (rdIns1_lenB e hn)
      · cases h
theorem rdIns_lenB {B : List Int} {k : Int} : ∀ {FS : List Rf} {next q : Nat} {L : List Ri}, rdIns B k FS next = .ok (L, q) → next ≤ B.length → q ≤ B.length
  | [], next, q, L, h, hn => by
    simp only [rdIns, Except.ok.injEq, Prod.mk.injEq] at h
    omega
  | f :: FS, next, q, L, h, hn => by
    simp only [rdIns] at h
    split at h
    · cases h
    · next e =>
      split at h
      · cases h
      · next e2 => cases h; exact rdIns_lenB e2 (rdIns1_lenB e hn)
theorem rdMk_lenB {B : List Int} : ∀ {L : List Int} {next q : Nat}, rdMk B L next = .ok q → next ≤ B.length → q ≤ B.length
  | [], next, q, h, hn => by
    simp only [rdMk, Except.ok.injEq] at h
    omega
  | x :: L, next, q, h, hn => by
    simp only [rdMk] at h
    split at h
    · cases h
    · next e => exact rdMk_lenB h (rdN_len e)
theorem rdFns_lenB {B : List Int} {main : Int} : ∀ {m : Nat} {i first : Int} {A FS : List Rf} {next q : Nat}, rdFns B main m i first A next = .ok (FS, q) → next ≤ B.length → q ≤ B.length
  | 0, i, first, A, FS, next, q, h, hn => by
    simp only [rdFns, Except.ok.injEq, Prod.mk.injEq] at h
    omega
  | m + 1, i, first, A, FS, next, q, h, hn => by
    simp only [rdFns] at h
    split at h
    · cases h
    · next e => exact rdFns_lenB h (rdFn_len e).2
/-- The place of a fault lies in the bytes, or just behind them. -/
theorem rdCode_err {B : List Int} {p : Nat} (h : rdCode B = .error p) : p ≤ B.length := by
  unfold rdCode at h
  split at h
  · next e => cases h; exact rdMk_err e (Nat.zero_le _)
  · next e0 =>
    have := rdMk_lenB e0 (Nat.zero_le _)
    split at h
    · next e => cases h; exact rdN_err e this
    · next e1 =>
      split at h
      · next e => cases h; exact rdN_err e (rdN_len e1)
      · next e2 =>
        have l2 := rdN_len e2
        split at h
        · next e => cases h; exact rdFns_err e (by omega)
        · next e3 =>
          have l3 := rdFns_lenB e3 (by omega)
          split at h
          · next e => cases h; exact rdIns_err e l3
          · next e4 =>
            split at h
            · cases h
            · cases h; exact rdIns_lenB e4 l3
end Go.Proofs.YtjiaedckecfjbaaDoor
