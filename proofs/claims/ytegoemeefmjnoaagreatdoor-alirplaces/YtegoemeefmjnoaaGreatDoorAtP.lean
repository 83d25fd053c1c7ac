import Derived.Test.YtegoemeefmjnoaaGreatDoorAtO
set_option linter.unusedVariables false
set_option linter.unusedSimpArgs false
namespace Go.Proofs.YtegoemeefmjnoaaGreatDoor
open Go.ChangeShapes Go.WideShapes Go.ChangeAt Go.RowKit Go.Maps

theorem numP_wh {k : Nat} (hk : k < 16) : numP 8 (whP k) = (k : Int) := by
  by_cases q : k < 8
  · have e : whP k = (1, (k : Int)) := if_pos q
    rw [e]
    show (if (1 : Int) = 0 ∧ (k : Int) = 0 then (-1 : Int) else if (1 : Int) = 1 ∧ 0 ≤ (k : Int) ∧ (k : Int) < 8 then (k : Int) else if (1 : Int) = 2 ∧ 0 ≤ (k : Int) ∧ (k : Int) < 8 then 8 + (k : Int) else -2) = _
    rw [if_neg (by omega), if_pos (by omega)]
  · have e : whP k = (2, (k : Int) - 8) := if_neg q
    rw [e]
    show (if (2 : Int) = 0 ∧ (k : Int) - 8 = 0 then (-1 : Int) else if (2 : Int) = 1 ∧ 0 ≤ (k : Int) - 8 ∧ (k : Int) - 8 < 8 then (k : Int) - 8 else if (2 : Int) = 2 ∧ 0 ≤ (k : Int) - 8 ∧ (k : Int) - 8 < 8 then 8 + ((k : Int) - 8) else -2) = _
    rw [if_neg (by omega), if_neg (by omega), if_pos (by omega)]
    omega
theorem rgP_k {k : Nat} (hk : k < 16) : rgP 16 (k : Int) = true := by
  unfold rgP
  simp
  omega
/-- What an instruction of the body must be. -/
structure PiOk (L : List Lf) (x : Ai) : Prop where
  sv : svI x = true
  is : in14 16 (nuI 8 x) = true
  ci : ci14 L (nuI 8 x) = true
  ar : x.args.length ≤ 1
  sl : x.saves.length ≤ 1000
theorem pi_ok (L : List Lf) (p : Pt) : PiOk L (pI p) := by
  obtain ⟨t, f, n, b⟩ := p
  have ht := wn_lt t
  have hf := wn_lt f
  cases b with
  | true =>
    refine ⟨by rfl, ?_, by rfl, by simp [pI, prI], by simp [pI, prI]⟩
    show (cn14 1 0 && (true && (rgP 16 (numP 8 (whP (wn t))) && true))) = true
    rw [numP_wh ht, rgP_k ht]
    rfl
  | false =>
    refine ⟨by rfl, ?_, by rfl, by simp [pI, prI], by simp [pI, prI]⟩
    show (cn14 31 1 && ((rgP 16 (numP 8 (whP (wn f))) && true) && (rgP 16 (numP 8 (whP (wn t))) && true))) = true
    rw [numP_wh ht, rgP_k ht, numP_wh hf, rgP_k hf]
    rfl
theorem pr_ok (L : List Lf) {k : Nat} (hk : k < 16) : PiOk L (prI k) := by
  refine ⟨by rfl, ?_, by rfl, by simp [pI, prI], by simp [pI, prI]⟩
  show (cn14 26 1 && ((rgP 16 (numP 8 (whP k)) && true) && true)) = true
  rw [numP_wh hk, rgP_k hk]
  rfl
theorem call_ok (B : List Ai) {S : List Int} (hS : rise 0 S = true) (hl : S.length ≤ 1000) : PiOk ((plF B).map nuF) ⟨25, 0, (0, 0), [], S⟩ := by
  refine ⟨?_, by rfl, by rfl, by simp, hl⟩
  unfold svI
  rw [hS]
  simp
theorem body_ok (l1 l2 : List Pt) (c : Option (List Int)) (B : List Ai) (hc : ∀ S, c = some S → rise 0 S = true ∧ S.length ≤ 1000) : ∀ x ∈ plB l1 l2 c, PiOk ((plF B).map nuF) x := by
  intro x hx
  unfold plB at hx
  rcases List.mem_append.1 hx with h | h
  · obtain ⟨p, _, rfl⟩ := List.mem_map.1 h
    exact pi_ok _ p
  · rcases List.mem_append.1 h with h | h
    · cases c with
      | none => simp [midI] at h
      | some S =>
        simp only [midI, List.mem_singleton] at h
        subst h
        exact call_ok B (hc S rfl).1 (hc S rfl).2
    · rcases List.mem_append.1 h with h | h
      · obtain ⟨p, _, rfl⟩ := List.mem_map.1 h
        exact pi_ok _ p
      · obtain ⟨k, hk, rfl⟩ := List.mem_map.1 h
        exact pr_ok _ (List.mem_range.1 hk)
theorem pl_form {B : List Ai} (h : ∀ x ∈ B, PiOk ((plF B).map nuF) x) : formA (plF B) 1 = true := by
  have h1 : B.all svI = true := List.all_eq_true.2 fun x hx => (h x hx).sv
  have h2 : (B.map (nuI 8)).all (in14 16) = true := List.all_eq_true.2 fun y hy => by
    obtain ⟨x, hx, rfl⟩ := List.mem_map.1 hy
    exact (h x hx).is
  have h3 : (B.map (nuI 8)).all (ci14 ((plF B).map nuF)) = true := List.all_eq_true.2 fun y hy => by
    obtain ⟨x, hx, rfl⟩ := List.mem_map.1 hy
    exact (h x hx).ci
  unfold formA
  rw [Bool.and_eq_true]
  refine ⟨?_, ?_⟩
  · have e : (plF B).all slF = (true && ((true && (B.all svI && true)) && true)) := by rfl
    rw [e, h1]
    rfl
  · unfold ft14
    rw [Bool.and_eq_true, Bool.and_eq_true]
    refine ⟨by rfl, by rfl, ?_⟩
    have e : ((plF B).map nuF).all (ff14 ((plF B).map nuF)) = (true && (((true && (true && (true && (true && (((B.map (nuI 8)).all (in14 16) && true) && true))))) && ((B.map (nuI 8)).all (ci14 ((plF B).map nuF)) && true)) && true)) := by rfl
    rw [e, h2, h3]
    rfl
theorem pl_ok {B : List Ai} (h : ∀ x ∈ B, PiOk ((plF B).map nuF) x) (hl : B.length ≤ 100000) : OkA (plF B) 1 := by
  refine ⟨pl_form h, fun f hf => ?_, fun f hf => ?_, by simp [plF], by simp [plF]⟩
  · simp only [plF, List.mem_cons, List.not_mem_nil, or_false] at hf
    rcases hf with rfl | rfl <;> simp
  · simp only [plF, List.mem_cons, List.not_mem_nil, or_false] at hf
    rcases hf with rfl | rfl
    · exact fewB_ok (by rfl)
    · refine ⟨by simp, by simp, fun b hb => ?_⟩
      simp only [List.mem_singleton] at hb
      subst hb
      exact ⟨by show B.length ≤ _; omega, by simp, fun x hx => ⟨Nat.le_trans (h x hx).ar (by decide), Nat.le_trans (h x hx).sl (by decide)⟩⟩
/-- AlirPlaces' run. -/
theorem pl_go (l1 l2 : List Pt) (c : Option (List Int)) (h1 : l1.length ≤ 300) (h2 : l2.length ≤ 300) (f1 : ∀ p ∈ l1, fitsB p.num = true) (f2 : ∀ p ∈ l2, fitsB p.num = true) (hc : ∀ S, c = some S → ∀ x ∈ S, 0 ≤ x ∧ x < 8) {s d w} (h : Mca (plF (plB l1 l2 c)) s d w (Ma.start [] 1)) : Calls Tryz.prog 13 #[.pointer (some ⟨s.ws.mb, 0, none⟩), .int .i64 ((2000 : Nat) : Int)] w fun e w' => ∃ ao c' st dp, e = .returned (.tuple #[.agg #[.slice ao 16 c', .int .i64 1, .int .i64 0, .int .i64 0, .int .i64 st, .int .i64 0, .int .i64 dp], .int .i64 0]) ∧ Evs w' ao c' (tev (plH l1 l2 c) 16) ∧ Only (footA s d) w w' := by
  obtain ⟨N, MF, st, dp, hN, hW, hw, ho⟩ := pl_run l1 l2 c h1 h2 f1 f2 hc
  refine (run_to h (fuel := 2000) (N := N) (by omega) (by omega) hW (stp_over ho)).mono ?_
  rw [hw]
  rintro e w' ⟨ao, c', d', rfl, hE, _, hf⟩
  refine ⟨ao, c', st, dp, ?_, hE, hf.only⟩
  show Ending.returned (.tuple #[.agg #[.slice ao (tev (plH l1 l2 c) 16).length c', .int .i64 1, .int .i64 0, .int .i64 0, .int .i64 st, .int .i64 0, .int .i64 dp], .int .i64 0]) = _
  rw [tev_len]
end Go.Proofs.YtegoemeefmjnoaaGreatDoor
