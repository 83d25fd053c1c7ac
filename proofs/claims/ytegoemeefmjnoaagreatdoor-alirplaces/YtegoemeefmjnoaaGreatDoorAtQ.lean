import Derived.Test.YtegoemeefmjnoaaGreatDoorAtP
set_option linter.unusedVariables false
set_option linter.unusedSimpArgs false
namespace Go.Proofs.YtegoemeefmjnoaaGreatDoor
open Go.ChangeShapes Go.WideShapes Go.ChangeAt Go.RowKit Go.Maps

theorem Pts.below {w w' a c l K} (h : Pts w a c l) (hb : Below K w w') (hK : w.heap.size ≤ K) : Pts w' a c l := StsG.below h hb hK
/-- The first of the places are written. -/
structure HfA (W0 wr : World) (hb i : Nat) : Prop where
  only : Only (fun k => k = hb) W0 wr
  hd : HbA wr hb (List.replicate i (-1) ++ List.replicate (16 - i) 0)
theorem HfA.next {W0 wr hb i} (h : HfA W0 wr hb i) (hi : i < 16) : HfA W0 (wr.setCell ⟨hb, i, none⟩ (.int .i64 (-1))) hb (i + 1) := by
  refine ⟨h.only.trans (Only.of_set wr ⟨hb, i, none⟩ _) fun _ _ q => q, ?_⟩
  have := h.hd.set i (-1)
  have e : (List.replicate i (-1 : Int) ++ List.replicate (16 - i) 0).set i (-1) = List.replicate (i + 1) (-1) ++ List.replicate (16 - (i + 1)) 0 := by
    rw [List.set_append_right _ _ (by simp), List.length_replicate, Nat.sub_self, show 16 - i = (16 - (i + 1)) + 1 by omega, List.replicate_succ, List.set_cons_zero, show i + 1 = i + 1 from rfl, List.replicate_succ', List.append_assoc]
    rfl
  rw [e] at this
  exact this
set_option maxRecDepth 100000 in
theorem seven_two (w : World) : Calls Tryz.prog 16 #[] w fun e w' => ∃ SB, SB = w.heap.size ∧ e = .returned (.agg #[.slice (some ⟨SB + 23, 0, none⟩) 2 2, .int .i64 1]) ∧ w'.heap[SB + 2]? = some (.cells #[.int .i64 1, .int .i64 7, .int .i64 1, .int .i64 0, .slice none 0 0, .slice none 0 0] 29 (0, 0)) ∧ w'.heap[SB + 4]? = some (.cells #[.slice (some ⟨SB + 2, 0, none⟩) 1 1, .int .i64 3, .int .i64 1, .int .i64 0, .slice none 0 0] 34 (0, 0)) ∧ w'.heap[SB + 23]? = some (.cells #[.string ⟨#[115, 101, 118, 101, 110]⟩, .slice none 0 0, .int .i64 1, .int .i64 0, .slice (some ⟨SB + 4, 0, none⟩) 1 1, .string ⟨#[109, 97, 105, 110]⟩, .slice none 0 0, .int .i64 0, .int .i64 1, .slice (some ⟨SB + 21, 0, none⟩) 1 1] 37 (0, 0)) ∧ Below w.heap.size w w' := by
  refine (seven_any w).mono ?_
  rintro e w' ⟨rfl, rfl⟩
  have h := fun i (h : i < (svX w.heap.size).length) => al_at (svX w.heap.size) w i h
  exact ⟨_, rfl, rfl, h 2 (by simp [svX]), h 4 (by simp [svX]), h 23 (by simp [svX]), al_below _ w⟩
theorem rowE_one {w : World} {N : List Ai} {xs : List (List Value)} (h2 : xs.length = N.length) (h3 : ∀ i (h : i < N.length), PlE w (xs.getD i []) N[i]) : ∀ u ∈ xs.flatten, u.oneCell' = true := fun u hu => by
  obtain ⟨cs, hcs, hu'⟩ := List.mem_flatten.1 hu
  obtain ⟨i, hi, e⟩ := List.mem_iff_getElem.1 hcs
  obtain ⟨a1, c1, a2, c2, e2, _, _⟩ := h3 i (by omega)
  have e3 : xs.getD i [] = xs[i] := by simp [List.getD, hi]
  rw [e3, e] at e2
  rw [e2] at hu'
  simp only [aiv, List.mem_cons, List.not_mem_nil, or_false] at hu'
  rcases hu' with rfl | rfl | rfl | rfl | rfl | rfl <;> rfl
/-- The program as it lies. -/
theorem pl_afs {W : World} {SB gq n xc : Nat} {xa : Option Addr} {B : List Ai} (h2 : W.heap[SB + 2]? = some (.cells #[.int .i64 1, .int .i64 7, .int .i64 1, .int .i64 0, .slice none 0 0, .slice none 0 0] 29 (0, 0))) (h4 : W.heap[SB + 4]? = some (.cells #[.slice (some ⟨SB + 2, 0, none⟩) 1 1, .int .i64 3, .int .i64 1, .int .i64 0, .slice none 0 0] 34 (0, 0))) (h23 : W.heap[SB + 23]? = some (.cells #[.string ⟨#[115, 101, 118, 101, 110]⟩, .slice none 0 0, .int .i64 1, .int .i64 0, .slice (some ⟨SB + 4, 0, none⟩) 1 1, .string ⟨#[109, 97, 105, 110]⟩, .slice none 0 0, .int .i64 0, .int .i64 8, .slice (some ⟨gq, 0, none⟩) 1 1] 37 (0, 0))) (hq : W.heap[gq]? = some (.cells #[.slice xa n xc, .int .i64 3, .int .i64 0, .int .i64 0, .slice none 0 0] 34 (0, 0))) (hn : n = B.length) (hB : Lst EnI 6 W xa xc B) : Afs W (some ⟨SB + 23, 0, none⟩) 2 (plF B) := by
  subst hn
  have hi0 : Lst EnI 6 W (some ⟨SB + 2, 0, none⟩) 1 [⟨1, 7, (1, 0), [], []⟩] := by
    refine lst_exact (α := Ai) (En := EnI) (N := [⟨1, 7, (1, 0), [], []⟩]) (xs := [[.int .i64 1, .int .i64 7, .int .i64 1, .int .i64 0, .slice none 0 0, .slice none 0 0]]) h2 rfl rfl rfl (Nat.le_of_ble_eq_true (by kernel_rfl)) rfl (fun i hi => ?_)
    match i, hi with
    | 0, _ => exact ⟨none, 0, none, 0, rfl, (locs_none W), (ints_noneA W)⟩
  have hb0 : Lst EnB 5 W (some ⟨SB + 4, 0, none⟩) 1 [⟨[⟨1, 7, (1, 0), [], []⟩], 3, (1, 0), []⟩] := by
    refine lst_exact (α := Ab) (En := EnB) (N := [⟨[⟨1, 7, (1, 0), [], []⟩], 3, (1, 0), []⟩]) (xs := [[.slice (some ⟨SB + 2, 0, none⟩) 1 1, .int .i64 3, .int .i64 1, .int .i64 0, .slice none 0 0]]) h4 rfl rfl rfl (Nat.le_of_ble_eq_true (by kernel_rfl)) rfl (fun i hi => ?_)
    match i, hi with
    | 0, _ => exact ⟨some ⟨SB + 2, 0, none⟩, 1, none, 0, rfl, hi0, (ints_noneA W)⟩
  have hb1 : Lst EnB 5 W (some ⟨gq, 0, none⟩) 1 [⟨B, 3, (0, 0), []⟩] := by
    refine lst_exact (α := Ab) (En := EnB) (N := [⟨B, 3, (0, 0), []⟩]) (xs := [[.slice xa B.length xc, .int .i64 3, .int .i64 0, .int .i64 0, .slice none 0 0]]) hq rfl rfl rfl (Nat.le_of_ble_eq_true (by kernel_rfl)) rfl (fun i hi => ?_)
    match i, hi with
    | 0, _ => exact ⟨xa, xc, none, 0, rfl, hB, (ints_noneA W)⟩
  refine lst_exact (α := Af) (En := EnF) (N := plF B) (xs := [[.string ⟨#[115, 101, 118, 101, 110]⟩, .slice none 0 0, .int .i64 1, .int .i64 0, .slice (some ⟨SB + 4, 0, none⟩) 1 1], [.string ⟨#[109, 97, 105, 110]⟩, .slice none 0 0, .int .i64 0, .int .i64 8, .slice (some ⟨gq, 0, none⟩) 1 1]]) h23 rfl rfl rfl (Nat.le_of_ble_eq_true (by kernel_rfl)) rfl (fun i hi => ?_)
  match i, hi with
  | 0, _ => exact ⟨none, 0, some ⟨SB + 4, 0, none⟩, 1, rfl, (locs_none W), hb0⟩
  | 1, _ => exact ⟨none, 0, some ⟨gq, 0, none⟩, 1, rfl, (locs_none W), hb1⟩
end Go.Proofs.YtegoemeefmjnoaaGreatDoor
