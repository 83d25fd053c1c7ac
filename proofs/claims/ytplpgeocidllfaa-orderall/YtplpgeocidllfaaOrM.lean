import Derived.Test.YtplpgeocidllfaaOrH
set_option linter.unusedVariables false
set_option linter.unusedSimpArgs false
namespace Go.Proofs.Ytplpgeocidllfaa
open Go.ChangeShapes Go.WideShapes Go.ChangeAt Go.RowKit Go.Maps

/-- A state that the visit comes to. -/
structure Aty (Ls : List (List Int)) (s : OS) : Prop where
  oi : OI Ls s
  run : orP Ls = orun Ls (msr Ls s) s
theorem Aty.zero {Ls : List (List Int)} (hg : goodP Ls = true) : Aty Ls (os0 Ls) := ⟨OI.zero hg, rfl⟩
theorem Aty.step {Ls : List (List Int)} (hg : goodP Ls = true) {s : OS} (h : Aty Ls s) (hw : s.way ≠ []) : Aty Ls (stp Ls s) := by
  obtain ⟨h1, h2⟩ := h.oi.step hg hw
  refine ⟨h1, ?_⟩
  rw [h.run, h2, orun_more _ _ _ hw]
theorem Aty.done {Ls : List (List Int)} {s : OS} (h : Aty Ls s) (hw : s.way = []) : orP Ls = s := by rw [h.run, orun_end _ _ _ hw]

/-- The chain: each block leads to the next one. -/
def oc (m i : Nat) : List Int := if i + 1 < m then [(i : Int) + 1] else []
def ocL (m : Nat) : List (List Int) := (List.range m).map (oc m)
def nI (m : Nat) : List Int := (List.range m).map fun i : Nat => (i : Int)
theorem ocL_len (m : Nat) : (ocL m).length = m := by simp [ocL]
theorem ocL_row {m i : Nat} (hi : i < m) : rowOf (ocL m) (i : Int) = oc m i := by simp [rowOf, ocL, hi]
theorem ocL_good {m : Nat} (hm : 0 < m) : goodP (ocL m) = true := by
  unfold goodP
  rw [ocL_len]
  simp only [Bool.and_eq_true, decide_eq_true_eq, List.all_eq_true]
  refine ⟨by omega, fun l hl x hx => ?_⟩
  simp only [ocL, List.mem_map, List.mem_range] at hl
  obtain ⟨i, hi, rfl⟩ := hl
  unfold oc at hx
  split at hx
  · simp at hx; omega
  · simp at hx
def wz (j : Nat) : List (Int × Nat) := (List.range j).map fun i : Nat => ((i : Int), 0)
theorem wz_succ (j : Nat) : wz (j + 1) = wz j ++ [((j : Int), 0)] := by simp [wz, List.range_succ]
theorem nI_succ (j : Nat) : nI (j + 1) = nI j ++ [(j : Int)] := by simp [nI, List.range_succ]
theorem nI_mem {j x : Nat} : (x : Int) ∈ nI j ↔ x < j := by
  simp only [nI, List.mem_map, List.mem_range]
  exact ⟨fun ⟨a, h, e⟩ => by omega, fun h => ⟨x, h, rfl⟩⟩
theorem oc_down {m : Nat} (hm : 0 < m) : ∀ j, j < m → Aty (ocL m) ⟨nI (j + 1), wz j ++ [((j : Int), (oc m j).length)], []⟩
  | 0, hj => by
    have := Aty.zero (ocL_good hm)
    unfold os0 at this
    have e : rowOf (ocL m) 0 = oc m 0 := ocL_row (i := 0) hj
    rw [e] at this
    exact this
  | j + 1, hj => by
    have h := oc_down hm j (by omega)
    have e1 : (oc m j).length = 0 + 1 := by unfold oc; rw [if_pos hj]; rfl
    rw [e1] at h
    have h2 := h.step (ocL_good hm) (by simp)
    have e2 : (rowOf (ocL m) (j : Int)).getD 0 0 = ((j + 1 : Nat) : Int) := by rw [ocL_row (by omega), oc, if_pos hj]; rfl
    rw [stp_go, e2, vst, if_neg (by rw [nI_mem]; omega), ← nI_succ, ← wz_succ, ocL_row (by omega)] at h2
    exact h2
theorem oc_up {m : Nat} (hm : 0 < m) : ∀ k, k ≤ m → Aty (ocL m) ⟨nI m, wz (m - k), ((nI m).drop (m - k)).reverse⟩
  | 0, _ => by
    have h := oc_down hm (m - 1) (by omega)
    have e1 : (oc m (m - 1)).length = 0 := by unfold oc; rw [if_neg (by omega)]; rfl
    rw [e1, ← wz_succ, show m - 1 + 1 = m by omega] at h
    rw [Nat.sub_zero, List.drop_eq_nil_of_le (by simp [nI])]
    exact h
  | k + 1, hk => by
    have h := oc_up hm k (by omega)
    obtain ⟨j, hj⟩ : ∃ j, m - k = j + 1 := ⟨m - k - 1, by omega⟩
    rw [hj, wz_succ] at h
    have h2 := h.step (ocL_good hm) (by simp)
    rw [stp_pop] at h2
    have e : m - (k + 1) = j := by omega
    have hjm : j < (nI m).length := by simp [nI]; omega
    have e2 : (nI m).drop j = (j : Int) :: (nI m).drop (j + 1) := by
      rw [List.drop_eq_getElem_cons hjm]
      congr 1
      simp [nI]
    rw [e, e2, List.reverse_cons]
    exact h2
theorem oc_line {m : Nat} (hm : 0 < m) : linP (ocL m) = nI m := by
  have h := oc_up hm m (Nat.le_refl _)
  rw [Nat.sub_self] at h
  have := h.done rfl
  rw [linP, if_pos (ocL_good hm), this]
  simp
def CW (w : World) (g n t : Nat) (f : Nat → Value) : Prop := w.heap[g]? = some (.cells ((List.range n).map f).toArray t (0, 0))
theorem CW.lt {w g n t f} (h : CW w g n t f) : g < w.heap.size := (Array.getElem?_eq_some_iff.1 h).1
theorem CW.cell {w g n t f} (h : CW w g n t f) {i : Nat} (hi : i < n) : w.cell? ⟨g, i, none⟩ = some (f i) := cell_arr h (by simp [hi])
theorem CW.fz {w g n t f} (h : CW w g n t f) (i : Nat) : w.frozen? ⟨g, i, none⟩ = false := fz_of h
theorem CW.congr {w g n t f f'} (h : CW w g n t f) (e : ∀ i, i < n → f i = f' i) : CW w g n t f' := by
  unfold CW at h ⊢
  rw [h]
  congr 3
  exact List.map_congr_left fun i hi => e i (by simpa using hi)
theorem CW.set {w g n t f} (h : CW w g n t f) (i : Nat) (v : Value) : CW (w.setCell ⟨g, i, none⟩ v) g n t (fun j => if j = i then v else f j) := by
  unfold CW at h ⊢
  rw [heap_set_at h]
  congr 2
  rw [List.setIfInBounds_toArray]
  congr 1
  refine List.ext_getElem (by simp) fun j h1 h2 => ?_
  rw [List.getElem_set]
  simp only [List.getElem_map, List.getElem_range]
  by_cases e : i = j
  · subst e; simp
  · rw [if_neg e, if_neg (fun q => e q.symm)]
theorem CW.other {w : World} {g n t f} (h : CW w g n t f) {k i : Nat} {v : Value} (hne : g ≠ k) : CW (w.setCell ⟨k, i, none⟩ v) g n t f := by
  unfold CW at h ⊢
  rw [heap_set_other hne]; exact h
theorem CW.move {w w' : World} {g n t f} (h : CW w g n t f) (hk : w'.heap[g]? = w.heap[g]?) : CW w' g n t f := hk.trans h
theorem CW.keep {w w' : World} {g n t f} (h : CW w g n t f) (hb : Below w.heap.size w w') : CW w' g n t f := h.move (hb.block g h.lt)
theorem CW.made (w : World) (n t : Nat) (z : Value) : CW (w.alloc (.cells (madeCells #[z] n) t)) w.heap.size n t fun _ => z := by
  unfold CW
  have e : madeCells #[z] n = ((List.range n).map fun _ => z).toArray := by
    apply Array.toList_inj.1
    rw [toList_madeCells_one]
    refine List.ext_getElem (by simp) fun i h1 h2 => ?_
    simp
  rw [e]; exact heap_alloc_new _ _
theorem CW.ne {w : World} {g g' n n' t t' f f'} (h : CW w g n t f) (h' : CW w g' n' t' f') (ht : t ≠ t') : g ≠ g' := by
  rintro rfl
  unfold CW at h h'
  rw [h] at h'
  simp only [Option.some.injEq, Obj.cells.injEq] at h'
  exact ht h'.2.1
theorem infoSl : (Try.prog.info? 27).map (fun i => (i.zero, i.size, i.bytes)) = some (some (.slice none 0 0), 1, 24) := by kernel_rfl
/-- The chain in memory, up to block k. -/
structure CT (w wr : World) (B m go k : Nat) (gs : Nat → Nat) : Prop where
  o : CW wr go m 27 fun i => if i < k then .slice (some ⟨gs i, 0, none⟩) 1 1 else .slice none 0 0
  s : ∀ i, i < k → wr.heap[gs i]? = some (.cells (ivs (oc m i)).toArray 3 (0, 0))
  bel : Below B w wr
  lo : B ≤ go
theorem CT.step {w wr B m go k gs} (h : CT w wr B m go k gs) (hB : B ≤ wr.heap.size) {a : Int} (hr : oc m k = [a]) : CT w ((wr.setCell ⟨go, k, none⟩ (.slice (some ⟨wr.heap.size, 0, none⟩) 1 1)).alloc (.cells #[.int .i64 a] 3)) B m go (k + 1) (fun i => if i = k then wr.heap.size else gs i) := by
  have hsz : (wr.setCell ⟨go, k, none⟩ (.slice (some ⟨wr.heap.size, 0, none⟩) 1 1)).heap.size = wr.heap.size := by simp [World.setCell]
  have hb : Below (wr.setCell ⟨go, k, none⟩ (.slice (some ⟨wr.heap.size, 0, none⟩) 1 1)).heap.size (wr.setCell ⟨go, k, none⟩ (.slice (some ⟨wr.heap.size, 0, none⟩) 1 1)) ((wr.setCell ⟨go, k, none⟩ (.slice (some ⟨wr.heap.size, 0, none⟩) 1 1)).alloc (.cells #[.int .i64 a] 3)) := (Below.refl _ _).alloc (Nat.le_refl _) _
  refine ⟨((h.o.set k _).keep hb).congr fun i _ => ?_, fun i hi => ?_, (h.bel.setCell h.lo _).trans (hb.mono (by rw [hsz]; exact hB)), h.lo⟩
  · by_cases e : i = k
    · subst e; simp
    · rw [if_neg e]
      by_cases e2 : i < k
      · rw [if_pos e2, if_pos (by omega), if_neg e]
      · rw [if_neg e2, if_neg (by omega)]
  · by_cases e : i = k
    · subst e
      simp only [if_true]
      rw [hr]
      have := heap_alloc_new (wr.setCell ⟨go, i, none⟩ (.slice (some ⟨wr.heap.size, 0, none⟩) 1 1)) (.cells #[.int .i64 a] 3)
      rw [hsz] at this
      exact this
    · simp only [if_neg e]
      have h1 := h.s i (by omega)
      have hlt := (Array.getElem?_eq_some_iff.1 h1).1
      have hne : gs i ≠ go := by
        intro q
        have := h.o
        unfold CW at this
        rw [q] at h1
        rw [h1] at this
        simp only [Option.some.injEq, Obj.cells.injEq] at this
        exact absurd this.2.1 (by decide)
      rw [heap_alloc_old _ _ (by rw [hsz]; exact hlt), heap_set_other hne]
      exact h1
theorem CT.irow {w wr B m go gs} (hm : 0 < m) (hm2 : m ≤ 50000) (h : CT w wr B m go (m - 1) gs) : IRow wr (some ⟨go, 0, none⟩) m (ocL m) := by
  refine ⟨by rw [ocL_len]; exact Nat.le_refl _, by omega, fun _ => ⟨go, 0, rfl, h.o.lt, fun i hi => ?_⟩⟩
  rw [ocL_len] at hi
  have hc := h.o.cell hi
  have e : (ocL m)[i]'(by rw [ocL_len]; exact hi) = oc m i := by simp [ocL]
  rw [e, Nat.zero_add]
  by_cases hk : i < m - 1
  · rw [if_pos hk] at hc
    have hl : (oc m i).length = 1 := by unfold oc; rw [if_pos (by omega)]; rfl
    refine ⟨_, 1, by rw [hl]; exact hc, by omega, by omega, fun _ => ⟨gs i, 0, rfl, (Array.getElem?_eq_some_iff.1 (h.s i hk)).1, fun j hj => ?_⟩⟩
    rw [Nat.zero_add, cell_arr (h.s i hk) (ivs_at hj)]
  · rw [if_neg hk] at hc
    have hr : oc m i = [] := by unfold oc; rw [if_neg (by omega)]
    rw [hr]
    exact ⟨none, 0, hc, by simp, by omega, fun q => absurd rfl q⟩
theorem OwnI.cellI {w B g c n L} (h : OwnI w B (.slice (some ⟨g, 0, none⟩) n c) n L) {i : Nat} (hi : i < n) : w.cell? ⟨g, i, none⟩ = some (.int .i64 (L.getD i 0)) := by
  have hl := h.len
  rw [own_cell h.out i (by omega)]
  simp [ivs, show i < L.length by omega]
set_option maxRecDepth 100000 in
set_option maxHeartbeats 8000000 in
theorem orderChain_any (w : World) (many : Int) :
    Calls Try.prog 7 #[.int .i64 many] w fun e w' => e = .returned (.bool true) ∧ Below w.heap.size w w' := by
  have hal := aliveO_any w
  go_enter Try.func7, Try.ntmps7
  go_wp2_with fail
  refine hal.mono ?_
  rintro e w1 ⟨rfl, b1⟩
  have HB1 : Hid (Below w.heap.size w w1) := b1
  have hsz1 := b1.size
  clear hal b1
  by_cases h4 : many < 1
  · go_wp2_with fail
    go_ret
    exact ⟨rfl, HB1.out⟩
  by_cases h5 : 50000 < many
  · go_wp2_with fail
    go_ret
    exact ⟨rfl, HB1.out⟩
  obtain ⟨m, rfl⟩ : ∃ m : Nat, many = m := ⟨many.toNat, by omega⟩
  have hm : 0 < m := by omega
  have hm2 : m ≤ 50000 := by omega
  clear h4 h5
  have m1 := (run_make_row' (P := Try.prog) 22 27 (.slice none 0 0) 24 Try.underlying22 infoSl rfl .i64 .i64 m (by omega) (by omega)) w1
  obtain ⟨w2, hw2⟩ : ∃ w2, w2 = w1.alloc (.cells (madeCells #[.slice none 0 0] m) 27) := ⟨_, rfl⟩
  rw [← hw2] at m1
  obtain ⟨go, hgo⟩ : ∃ go, go = w1.heap.size := ⟨_, rfl⟩
  have HC0 : Hid (CT w w2 w.heap.size m go 0 (fun _ => 0)) := by
    refine ⟨?_, fun i hi => by omega, ?_, by omega⟩
    · rw [hw2, hgo]
      exact (CW.made w1 m 27 (.slice none 0 0)).congr fun i _ => by simp
    · rw [hw2]; exact HB1.out.alloc hsz1 _
  rw [← hgo] at m1
  clear hw2 hgo HB1
  go_wp2_with fail
  go_loopg [5] m (fun q iv wr => ∃ (k : Nat) (gs : Nat → Nat), k + 1 ≤ m ∧ q = m - k ∧ iv = .int .i64 k ∧ Hid (CT w wr w.heap.size m go k gs))
  case atStart => exact ⟨0, fun _ => 0, by omega, by omega, rfl, HC0.out⟩
  case round =>
    clear HC0 m1
    obtain ⟨k, gs, hk, rfl, rfl, HC⟩ := hrel
    have hB : w.heap.size ≤ wr.heap.size := by have := HC.out.bel.size; omega
    obtain ⟨z, kz⟩ : ∃ z, wr.cell? ⟨go, k, none⟩ = some z := ⟨_, HC.out.o.cell (by omega)⟩
    have fz := HC.out.o.fz k
    have hgl := HC.out.o.lt
    by_cases hlt : k + 1 < m
    · have HNX : Hid _ := HC.out.step hB (a := (k : Int) + 1) (by unfold oc; rw [if_pos hlt])
      go_wp2_with fail
      go_roundg (m - (k + 1))
      case rel => exact ⟨k + 1, _, by omega, rfl, by go_num, HNX.out⟩
      case measure => omega
    · have HNX : Hid (CT w wr w.heap.size m go (m - 1) gs) := by
        have := HC.out
        rw [show k = m - 1 by omega] at this
        exact this
      clear HC kz fz hgl
      go_wp2_with fail
      have hT := line_any wr (some ⟨go, 0, none⟩) m m (ocL m) (ocL_len m).symm (HNX.out.irow hm hm2) (by omega)
      refine hT.mono ?_
      rintro e w4 ⟨v, rfl, OT, b4⟩
      have hlt4 : (linP (ocL m)).length = m := by rw [oc_line hm]; simp [nI]
      rw [hlt4, oc_line hm] at OT
      obtain ⟨gt, ct, rfl, hct, hct', _, _⟩ := own_some OT.out (by omega)
      have HB4 : Hid (Below w.heap.size w w4) := HNX.out.bel.trans (b4.mono (by have := HNX.out.bel.size; omega))
      have HOT : Hid _ := OT
      clear OT b4 hT HNX hlt4 hB
      go_wp2_with fail
      go_loopg [7] m (fun q iv wr => ∃ i : Nat, i ≤ m ∧ q = m - i ∧ iv = .int .i64 i ∧ wr = w4)
      case atStart => exact ⟨0, by omega, by omega, rfl, rfl⟩
      case round =>
        obtain ⟨i, hi2, rfl, rfl, rfl⟩ := hrel
        by_cases hi : i < m
        · have kt := HOT.out.cellI (i := i) hi
          rw [show (nI m).getD i 0 = (i : Int) by simp [nI, hi]] at kt
          go_wp2_with fail
          go_roundg (m - (i + 1))
          case rel => exact ⟨i + 1, by omega, rfl, by go_num, rfl⟩
          case measure => omega
        · have q1 : ((m : Int) == (m : Int)) = true := by simp
          go_wp2_with fail
          go_ret
          exact ⟨rfl, HB4.out⟩
end Go.Proofs.Ytplpgeocidllfaa
