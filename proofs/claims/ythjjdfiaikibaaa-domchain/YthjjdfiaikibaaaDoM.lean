import Derived.Test.YthjjdfiaikibaaaDoJ
set_option linter.unusedVariables false
set_option linter.unusedSimpArgs false
namespace Go.Proofs.Ythjjdfiaikibaaa
open Go.ChangeShapes Go.WideShapes Go.ChangeAt Go.RowKit Go.Maps

/-- The chain: each block leads to the next one and to the last. -/
def chRow (m i : Nat) : List Int := if i + 2 < m then [(i : Int) + 1, (m : Int) - 1] else if i + 2 = m then [0, (m : Int) - 2] else []
def chLs (m : Nat) : List (List Int) := (List.range m).map (chRow m)
theorem chLs_len (m : Nat) : (chLs m).length = m := by simp [chLs]
theorem chLs_row {m i : Nat} (hi : i < m) : rowOf (chLs m) (i : Int) = chRow m i := by simp [rowOf, chLs, hi]
theorem chLs_good {m : Nat} (hm : 4 ≤ m) : goodP (chLs m) = true := by
  unfold goodP
  rw [chLs_len]
  simp only [Bool.and_eq_true, decide_eq_true_eq, List.all_eq_true]
  refine ⟨by omega, fun l hl x hx => ?_⟩
  simp only [chLs, List.mem_map, List.mem_range] at hl
  obtain ⟨i, hi, rfl⟩ := hl
  unfold chRow at hx
  split at hx
  · simp at hx; omega
  · split at hx
    · simp at hx; omega
    · simp at hx
theorem ch_all {m : Nat} (hm : 4 ≤ m) : ∀ i, i < m → (i : Int) ∈ (walkP (chLs m)).bl := by
  have hg := chLs_good hm
  have h0 : ((0 : Nat) : Int) ∈ (walkP (chLs m)).bl := walkP_zero
  have hcl := walkP_closed hg
  have key : ∀ i, i + 1 < m → (i : Int) ∈ (walkP (chLs m)).bl := by
    intro i
    induction i with
    | zero => intro _; exact h0
    | succ i ih =>
      intro hi
      refine hcl (i : Int) (ih (by omega)) ((i + 1 : Nat) : Int) ?_
      rw [chLs_row (by omega), chRow, if_pos (by omega)]
      simp
  intro i hi
  by_cases h : i + 1 < m
  · exact key i h
  · refine hcl ((0 : Nat) : Int) h0 (i : Int) ?_
    rw [chLs_row (by omega), chRow, if_pos (by omega)]
    simp; omega
theorem ch_prev {m b : Nat} (hm : 4 ≤ m) (h1 : 1 ≤ b) (hb : b + 1 < m) : Dm (chLs m) ((b - 1 : Nat) : Int) b := by
  have hg := chLs_good hm
  refine ⟨ch_all hm _ (by omega), ch_all hm _ (by omega), fun hw => ?_⟩
  by_cases h0 : b - 1 = 0
  · rw [h0] at hw; unfold woP at hw; rw [if_pos (by simp)] at hw; simp at hw
  · obtain ⟨_, _, _, s4⟩ := woP_spec hg (out := ((b - 1 : Nat) : Int)) (by omega)
    have := s4 (fun x => (0 ≤ x ∧ x < ((b - 1 : Nat) : Int)) ∨ x = (m : Int) - 1) (.inl (by omega)) (fun x hx y hy hne => by
      rcases hx with ⟨x0, x1⟩ | rfl
      · obtain ⟨i, rfl⟩ : ∃ i : Nat, x = i := ⟨x.toNat, by omega⟩
        rw [chLs_row (by omega), chRow, if_pos (by omega)] at hy
        simp at hy
        omega
      · rw [show (m : Int) - 1 = ((m - 1 : Nat) : Int) by omega, chLs_row (by omega), chRow, if_neg (by omega), if_neg (by omega)] at hy
        simp at hy) b hw
    omega
theorem ch_tree {m b : Nat} (hm : 4 ≤ m) (h1 : 1 ≤ b) (hb : b + 1 < m) : gn (treeP (chLs m)) b = (b : Int) - 1 := by
  have hg := chLs_good hm
  have hI := treeP_some hg (ch_all hm b (by omega)) (by omega)
  have hp := ch_prev hm h1 hb
  have a1 := hI.near _ hp (by omega)
  have a2 : Dm (chLs m) (gn (treeP (chLs m)) b) ((b - 1 : Nat) : Int) := by
    refine ⟨hI.ov.1, ch_all hm _ (by omega), fun hw => hI.ov.2.2 ?_⟩
    by_cases hd : gn (treeP (chLs m)) b = 0
    · rw [hd] at hw; unfold woP at hw; rw [if_pos rfl] at hw; simp at hw
    · refine (woP_spec hg hd).2.2.1 _ hw _ ?_ (fun e => hI.ne e.symm)
      rw [chLs_row (by omega), chRow, if_pos (by omega)]
      simp; omega
  have := a2.anti hg a1
  omega
theorem ch_last {m : Nat} (hm : 4 ≤ m) : gn (treeP (chLs m)) (m - 1) = 0 := by
  have hg := chLs_good hm
  have hI := treeP_some hg (ch_all hm (m - 1) (by omega)) (by omega)
  apply Classical.byContradiction
  intro hd
  obtain ⟨s1, _, s3, _⟩ := woP_spec hg hd
  refine hI.ov.2.2 (s3 0 s1 _ ?_ (fun e => hI.ne e.symm))
  have : rowOf (chLs m) 0 = chRow m 0 := chLs_row (i := 0) (by omega)
  rw [this, chRow, if_pos (by omega)]
  simp; omega
theorem ch_o1 {m : Nat} (hm : 4 ≤ m) : overP (treeP (chLs m)) 0 ((m : Int) - 2) = true := by
  have := over_ovb (chLs_good hm) (a := 0) (b := m - 2) (ch_all hm 0 (by omega)) (ch_all hm _ (by omega))
  rw [show ((m - 2 : Nat) : Int) = (m : Int) - 2 by omega] at this
  simp only [Int.natCast_zero] at this
  have hw : (m : Int) - 2 ∉ woP (chLs m) 0 := by unfold woP; rw [if_pos rfl]; simp
  rw [this, decide_eq_false hw]; rfl
theorem ch_o2 {m : Nat} (hm : 4 ≤ m) : overP (treeP (chLs m)) 1 ((m : Int) - 1) = false := by
  have hg := chLs_good hm
  have := over_ovb hg (a := 1) (b := m - 1) (ch_all hm 1 (by omega)) (ch_all hm _ (by omega))
  rw [show ((m - 1 : Nat) : Int) = (m : Int) - 1 by omega] at this
  obtain ⟨s1, _, s3, _⟩ := woP_spec hg (out := ((1 : Nat) : Int)) (by omega)
  have hw : (m : Int) - 1 ∈ woP (chLs m) ((1 : Nat) : Int) := by
    refine s3 0 s1 _ ?_ (by omega)
    have : rowOf (chLs m) 0 = chRow m 0 := chLs_row (i := 0) (by omega)
    rw [this, chRow, if_pos (by omega)]
    simp
  rw [decide_eq_true hw] at this
  exact this
theorem ch_o3 {m : Nat} (hm : 4 ≤ m) : overP (treeP (chLs m)) ((m : Int) - 2) 1 = false := by
  have hg := chLs_good hm
  have := over_ovb hg (a := m - 2) (b := 1) (ch_all hm _ (by omega)) (ch_all hm 1 (by omega))
  rw [show ((m - 2 : Nat) : Int) = (m : Int) - 2 by omega] at this
  obtain ⟨s1, _, s3, _⟩ := woP_spec hg (out := (m : Int) - 2) (by omega)
  have hw : ((1 : Nat) : Int) ∈ woP (chLs m) ((m : Int) - 2) := by
    refine s3 0 s1 _ ?_ (by omega)
    have : rowOf (chLs m) 0 = chRow m 0 := chLs_row (i := 0) (by omega)
    rw [this, chRow, if_pos (by omega)]
    simp
  rw [decide_eq_true hw] at this
  exact this
/-- The chain in memory, up to block k. -/
structure CT (w wr : World) (B m go k : Nat) (gs : Nat → Nat) : Prop where
  o : CW wr go m 31 fun i => if i < k then .slice (some ⟨gs i, 0, none⟩) 2 2 else .slice none 0 0
  s : ∀ i, i < k → wr.heap[gs i]? = some (.cells (ivs (chRow m i)).toArray 3 (0, 0))
  bel : Below B w wr
  lo : B ≤ go
theorem CT.step {w wr B m go k gs} (h : CT w wr B m go k gs) (hB : B ≤ wr.heap.size) {a b : Int} (hr : chRow m k = [a, b]) : CT w ((wr.setCell ⟨go, k, none⟩ (.slice (some ⟨wr.heap.size, 0, none⟩) 2 2)).alloc (.cells #[.int .i64 a, .int .i64 b] 3)) B m go (k + 1) (fun i => if i = k then wr.heap.size else gs i) := by
  have hsz : (wr.setCell ⟨go, k, none⟩ (.slice (some ⟨wr.heap.size, 0, none⟩) 2 2)).heap.size = wr.heap.size := by simp [World.setCell]
  have hb : Below (wr.setCell ⟨go, k, none⟩ (.slice (some ⟨wr.heap.size, 0, none⟩) 2 2)).heap.size (wr.setCell ⟨go, k, none⟩ (.slice (some ⟨wr.heap.size, 0, none⟩) 2 2)) ((wr.setCell ⟨go, k, none⟩ (.slice (some ⟨wr.heap.size, 0, none⟩) 2 2)).alloc (.cells #[.int .i64 a, .int .i64 b] 3)) := (Below.refl _ _).alloc (Nat.le_refl _) _
  refine ⟨((h.o.set k _).keep hb).congr fun i _ => ?_, fun i hi => ?_, (h.bel.setCell h.lo _).trans (hb.mono (by rw [hsz]; exact hB)), h.lo⟩
  · by_cases e : i = k
    · subst e; simp
    · rw [if_neg e]
      by_cases e2 : i < k
      · rw [if_pos e2, if_pos (by omega), if_neg e]
      · rw [if_neg e2, if_neg (by omega)]
  · by_cases e : i = k
    · subst e
      simp only [if_true]
      rw [hr]
      have := heap_alloc_new (wr.setCell ⟨go, i, none⟩ (.slice (some ⟨wr.heap.size, 0, none⟩) 2 2)) (.cells #[.int .i64 a, .int .i64 b] 3)
      rw [hsz] at this
      exact this
    · simp only [if_neg e]
      have h1 := h.s i (by omega)
      have hlt := (Array.getElem?_eq_some_iff.1 h1).1
      have hne : gs i ≠ go := by
        intro q
        have := h.o
        unfold CW at this
        rw [q] at h1
        rw [h1] at this
        simp only [Option.some.injEq, Obj.cells.injEq] at this
        exact absurd this.2.1 (by decide)
      rw [heap_alloc_old _ _ (by rw [hsz]; exact hlt), heap_set_other hne]
      exact h1
theorem CT.irow {w wr B m go gs} (hm : 4 ≤ m) (hm2 : m ≤ 1000) (h : CT w wr B m go (m - 1) gs) : IRow wr (some ⟨go, 0, none⟩) m (chLs m) := by
  refine ⟨by rw [chLs_len]; exact Nat.le_refl _, by omega, fun _ => ⟨go, 0, rfl, h.o.lt, fun i hi => ?_⟩⟩
  rw [chLs_len] at hi
  have hc := h.o.cell hi
  have e : (chLs m)[i]'(by rw [chLs_len]; exact hi) = chRow m i := by simp [chLs]
  rw [e, Nat.zero_add]
  by_cases hk : i < m - 1
  · rw [if_pos hk] at hc
    have hl : (chRow m i).length = 2 := by unfold chRow; split; rfl; split; rfl; omega
    refine ⟨_, 2, by rw [hl]; exact hc, by omega, by omega, fun _ => ⟨gs i, 0, rfl, (Array.getElem?_eq_some_iff.1 (h.s i hk)).1, fun j hj => ?_⟩⟩
    rw [Nat.zero_add, cell_arr (h.s i hk) (ivs_at hj)]
    simp [gn, hj]
  · rw [if_neg hk] at hc
    have hr : chRow m i = [] := by unfold chRow; rw [if_neg (by omega), if_neg (by omega)]
    rw [hr]
    exact ⟨none, 0, hc, by simp, by omega, fun q => absurd rfl q⟩
end Go.Proofs.Ythjjdfiaikibaaa
