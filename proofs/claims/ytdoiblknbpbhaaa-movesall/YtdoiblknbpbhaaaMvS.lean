import Derived.Test.YtdoiblknbpbhaaaMvR
set_option linter.unusedVariables false
set_option linter.unusedSimpArgs false
namespace Go.Proofs.Ytdoiblknbpbhaaa
open Go.ChangeShapes Go.WideShapes Go.ChangeAt Go.RowKit Go.Maps

theorem reg_any (w : World) (n : Int) : Calls Try.prog 17 #[.int .i64 n] w fun e w' => e = .returned (.agg #[.int .i64 1, .int .i64 n]) ∧ Below w.heap.size w w' := by
  go_enter Try.func17, Try.ntmps17
  go_wp2
  refine bodyPost_ret (v := .agg #[.int .i64 1, .int .i64 n]) ?_ rfl ⟨rfl, (Below.refl _ _).alloc (Nat.le_refl _) _⟩
  exact results_cell_row Try.results17 _ _ w.heap.size 24 _ (0, 0) _ rfl (heap_alloc_new _ _) Try.underlying24 rfl (by kernel_rfl)
def alvL : List Mv := [((1, 0), (1, 1)), ((1, 1), (1, 0))]
def alvR : List Mv := [((1, 9), (1, 1)), ((1, 1), (1, 0)), ((1, 0), (1, 9))]
theorem alv_err : errP (1, 9) alvL = 0 := by decide
theorem alv_ans : ansP (1, 9) alvL = alvR := by decide
theorem fit_alv {m : Mv} (hm : m ∈ alvL ∨ m ∈ alvR) : FitM m := by
  have h : m = ((1, 0), (1, 1)) ∨ m = ((1, 1), (1, 0)) ∨ m = ((1, 9), (1, 1)) ∨ m = ((1, 0), (1, 9)) := by
    simp only [alvL, alvR, List.mem_cons, List.not_mem_nil, or_false] at hm
    rcases hm with (h | h) | (h | h | h)
    · exact .inl h
    · exact .inr (.inl h)
    · exact .inr (.inr (.inl h))
    · exact .inr (.inl h)
    · exact .inr (.inr (.inr h))
  rcases h with rfl | rfl | rfl | rfl <;> exact ⟨⟨by simp [Fits], by simp [Fits]⟩, ⟨by simp [Fits], by simp [Fits]⟩⟩
theorem alvL_at {w : World} {gb : Nat} (h : w.heap[gb]? = some (.cells #[.int .i64 1, .int .i64 0, .int .i64 1, .int .i64 1, .int .i64 1, .int .i64 1, .int .i64 1, .int .i64 0] 36 (0, 0))) : Mvs w (some ⟨gb, 0, none⟩) 2 alvL := by
  refine ⟨by simp [alvL], by omega, fun m hm => fit_alv (.inl hm), fun _ => ⟨gb, 0, rfl, (Array.getElem?_eq_some_iff.1 h).1, fun i hi => ?_⟩⟩
  simp only [alvL, List.length_cons, List.length_nil] at hi
  have hi2 : i = 0 ∨ i = 1 := by omega
  rcases hi2 with rfl | rfl
  · exact ⟨cell_arr h rfl, cell_arr h rfl, cell_arr h rfl, cell_arr h rfl⟩
  · exact ⟨cell_arr h rfl, cell_arr h rfl, cell_arr h rfl, cell_arr h rfl⟩
theorem alvL_mvs {W w' : World} (hb : Below (W.alloc (.cells #[.int .i64 1, .int .i64 0, .int .i64 1, .int .i64 1, .int .i64 1, .int .i64 1, .int .i64 1, .int .i64 0] 36)).heap.size (W.alloc (.cells #[.int .i64 1, .int .i64 0, .int .i64 1, .int .i64 1, .int .i64 1, .int .i64 1, .int .i64 1, .int .i64 0] 36)) w') : Mvs w' (some ⟨W.heap.size, 0, none⟩) 2 alvL := alvL_at ((hb.block W.heap.size (by simp)).trans (heap_alloc_new _ _))
theorem alvR_at {w : World} {gb : Nat} (h : w.heap[gb]? = some (.cells #[.int .i64 1, .int .i64 9, .int .i64 1, .int .i64 1, .int .i64 1, .int .i64 1, .int .i64 1, .int .i64 0, .int .i64 1, .int .i64 0, .int .i64 1, .int .i64 9] 36 (0, 0))) : Mvs w (some ⟨gb, 0, none⟩) 3 alvR := by
  refine ⟨by simp [alvR], by omega, fun m hm => fit_alv (.inr hm), fun _ => ⟨gb, 0, rfl, (Array.getElem?_eq_some_iff.1 h).1, fun i hi => ?_⟩⟩
  simp only [alvR, List.length_cons, List.length_nil] at hi
  have hi2 : i = 0 ∨ i = 1 ∨ i = 2 := by omega
  rcases hi2 with rfl | rfl | rfl
  · exact ⟨cell_arr h rfl, cell_arr h rfl, cell_arr h rfl, cell_arr h rfl⟩
  · exact ⟨cell_arr h rfl, cell_arr h rfl, cell_arr h rfl, cell_arr h rfl⟩
  · exact ⟨cell_arr h rfl, cell_arr h rfl, cell_arr h rfl, cell_arr h rfl⟩
theorem OwnM.mvsS {w : World} {B n c : Nat} {a : Option Addr} {L : List Mv} (h : OwnM w B (.slice a n c) n L) : Mvs w a c L := by
  obtain ⟨a', c', e, hM⟩ := h.mvs
  cases e
  exact hM
theorem alv_order {W w' : World} (hb : Below (W.alloc (.cells #[.int .i64 1, .int .i64 0, .int .i64 1, .int .i64 1, .int .i64 1, .int .i64 1, .int .i64 1, .int .i64 0] 36)).heap.size (W.alloc (.cells #[.int .i64 1, .int .i64 0, .int .i64 1, .int .i64 1, .int .i64 1, .int .i64 1, .int .i64 1, .int .i64 0] 36)) w') :
    Calls Try.prog 10 #[.slice (some ⟨W.heap.size, 0, none⟩) 2 2, .agg #[.int .i64 1, .int .i64 9]] w' fun e w'' => ∃ a c, e = .returned (.tuple #[.slice a 3 c, .int .i64 0]) ∧ OwnM w'' w'.heap.size (.slice a 3 c) 3 alvR ∧ Below w'.heap.size w' w'' := by
  have h := order_any (ln := 2) w' (alvL_mvs hb) rfl (by omega) (1, 9) ⟨by simp [Fits], by simp [Fits]⟩
  rw [alv_err, alv_ans] at h
  refine h.mono ?_
  rintro e w'' ⟨v, rfl, h1, h2⟩
  obtain ⟨a, c, rfl, _, _⟩ := own_slice h1.out
  exact ⟨a, c, rfl, h1, h2⟩
set_option maxRecDepth 100000 in
set_option maxHeartbeats 4000000 in
theorem alive_any (w : World) : Calls Try.prog 8 #[] w fun e w' => e = .returned (.bool true) ∧ Below w.heap.size w w' := by
  have HB : Hid (∀ w' : World, w' = w → Below w.heap.size w w') := fun w' e => by rw [e]; exact Below.refl _ _
  have HBW : Hid (Below w.heap.size w w) := Below.refl _ _
  clear HB
  go_enter Try.func8, Try.ntmps8
  go_wp2_with (first
    | (go_at_call 17; refine (reg_any _ _).mono ?_; rintro e w1 ⟨rfl, hb1⟩
       first
         | replace HBW : Hid (Below w.heap.size w w1) := HBW.out.trans (hb1.mono HBW.out.size)
         | replace HBW : Hid (Below w.heap.size w w1) := (HBW.out.alloc HBW.out.size _).trans (hb1.mono (by have := HBW.out.size; simp; omega))
       try (replace HO : Hid (∃ B : Nat, OwnM w1 B (.slice a5 3 c5) 3 alvR) := ⟨_, HO.out.choose_spec.keep hb1⟩))
    | (go_at_call 10; refine (alv_order hb1).mono ?_
       rintro e w5 ⟨a5, c5, rfl, h5, hb5⟩
       replace HBW : Hid (Below w.heap.size w w5) := HBW.out.trans (hb5.mono HBW.out.size)
       have HO : Hid (∃ B : Nat, OwnM w5 B (.slice a5 3 c5) 3 alvR) := ⟨_, h5⟩
       clear h5 hb5)
    | (go_at_call 13; refine (sameM_any _ (HO.out.choose_spec.keep (below_new _ _)).mvsS (alvR_at (heap_alloc_new _ _)) rfl).mono ?_; rintro e w6 ⟨rfl, hb6⟩; have HB6 : Hid _ := hb6; clear hb6))
  go_ret
  exact ⟨rfl, (HBW.out.alloc HBW.out.size _).trans (HB6.out.mono (by have := HBW.out.size; simp; omega))⟩
end Go.Proofs.Ytdoiblknbpbhaaa
