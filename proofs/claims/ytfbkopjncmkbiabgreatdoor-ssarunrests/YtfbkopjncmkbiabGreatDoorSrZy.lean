import Derived.Test.YtfbkopjncmkbiabGreatDoorSrZx
set_option linter.unusedVariables false
set_option linter.unusedSimpArgs false
namespace Go.Proofs.YtfbkopjncmkbiabGreatDoor
open Go.ChangeShapes Go.WideShapes Go.ChangeAt Go.RowKit Go.Maps

set_option maxRecDepth 100000 in
set_option maxHeartbeats 4000000 in
theorem sameO_any (w : World) {aa ba : Option Addr} {n ac bc : Nat} {L : List (Int × Int)} (x1 x2 x3 x4 x5 x6 : Int) (hA : Evs w aa ac L) (hB : Evs w ba bc L) (hn : n = L.length) :
    Calls Tryz.prog 8 #[.agg #[.slice aa n ac, .int .i64 x1, .int .i64 x2, .int .i64 x3, .int .i64 x4, .int .i64 x5, .int .i64 x6], .agg #[.slice ba n bc, .int .i64 x1, .int .i64 x2, .int .i64 x3, .int .i64 x4, .int .i64 x5, .int .i64 x6]] w fun e w' => e = .returned (.bool true) ∧ Below w.heap.size w w' := by
  obtain ⟨w1, hw1⟩ : ∃ w1, w1 = w.alloc (.cells #[.slice aa n ac, .int .i64 x1, .int .i64 x2, .int .i64 x3, .int .i64 x4, .int .i64 x5, .int .i64 x6] 43) := ⟨_, rfl⟩
  obtain ⟨w2, hw2⟩ : ∃ w2, w2 = w1.alloc (.cells #[.slice ba n bc, .int .i64 x1, .int .i64 x2, .int .i64 x3, .int .i64 x4, .int .i64 x5, .int .i64 x6] 43) := ⟨_, rfl⟩
  have b1 : Below w.heap.size w w1 := by rw [hw1]; exact below_new w _
  have b2 : Below w1.heap.size w1 w2 := by rw [hw2]; exact below_new w1 _
  have b12 : Below w.heap.size w w2 := b1.trans (b2.mono b1.size)
  have k1 : w1.heap[w.heap.size]? = some (.cells #[.slice aa n ac, .int .i64 x1, .int .i64 x2, .int .i64 x3, .int .i64 x4, .int .i64 x5, .int .i64 x6] 43 (0, 0)) := by rw [hw1]; exact heap_alloc_new _ _
  have k2 : w2.heap[w1.heap.size]? = some (.cells #[.slice ba n bc, .int .i64 x1, .int .i64 x2, .int .i64 x3, .int .i64 x4, .int .i64 x5, .int .i64 x6] 43 (0, 0)) := by rw [hw2]; exact heap_alloc_new _ _
  have k12 := (b2.block _ (Array.getElem?_eq_some_iff.1 k1).1).trans k1
  have e1 : w1.heap.size = w.heap.size + 1 := by rw [hw1]; simp
  rw [e1] at k2
  have hl1 := (Array.getElem?_eq_some_iff.1 k12).1
  have hl2 := (Array.getElem?_eq_some_iff.1 k2).1
  have x0 : w2.cell? ⟨w.heap.size, 0, none⟩ = some (.slice aa n ac) := cell_arr k12 rfl
  have y0 : w2.cell? ⟨w.heap.size + 1, 0, none⟩ = some (.slice ba n bc) := cell_arr k2 rfl
  have HSE : Hid (Calls Tryz.prog 10 #[.slice aa n ac, .slice ba n bc] w2 fun e w' => e = .returned (.bool true) ∧ Below w.heap.size w w' ∧ (w'.cell? ⟨w.heap.size, 1, none⟩ = some (.int .i64 x1) ∧ w'.cell? ⟨w.heap.size, 2, none⟩ = some (.int .i64 x2) ∧ w'.cell? ⟨w.heap.size, 3, none⟩ = some (.int .i64 x3) ∧ w'.cell? ⟨w.heap.size, 4, none⟩ = some (.int .i64 x4) ∧ w'.cell? ⟨w.heap.size, 5, none⟩ = some (.int .i64 x5) ∧ w'.cell? ⟨w.heap.size, 6, none⟩ = some (.int .i64 x6)) ∧ (w'.cell? ⟨w.heap.size + 1, 1, none⟩ = some (.int .i64 x1) ∧ w'.cell? ⟨w.heap.size + 1, 2, none⟩ = some (.int .i64 x2) ∧ w'.cell? ⟨w.heap.size + 1, 3, none⟩ = some (.int .i64 x3) ∧ w'.cell? ⟨w.heap.size + 1, 4, none⟩ = some (.int .i64 x4) ∧ w'.cell? ⟨w.heap.size + 1, 5, none⟩ = some (.int .i64 x5) ∧ w'.cell? ⟨w.heap.size + 1, 6, none⟩ = some (.int .i64 x6)) ∧ w.heap.size + 1 < w'.heap.size) := by
    refine (sameE_any w2 (hA.belowR b12) (hB.belowR b12) hn).mono ?_
    rintro e w' ⟨rfl, b3⟩
    have q1 := (b3.block _ hl1).trans k12
    have q2 := (b3.block _ hl2).trans k2
    exact ⟨rfl, b12.trans (b3.mono b12.size), ⟨cell_arr q1 rfl, cell_arr q1 rfl, cell_arr q1 rfl, cell_arr q1 rfl, cell_arr q1 rfl, cell_arr q1 rfl⟩, ⟨cell_arr q2 rfl, cell_arr q2 rfl, cell_arr q2 rfl, cell_arr q2 rfl, cell_arr q2 rfl, cell_arr q2 rfl⟩, (Array.getElem?_eq_some_iff.1 q2).1⟩
  have HW : Hid (w2 = (w.alloc (.cells #[.slice aa n ac, .int .i64 x1, .int .i64 x2, .int .i64 x3, .int .i64 x4, .int .i64 x5, .int .i64 x6] 43)).alloc (.cells #[.slice ba n bc, .int .i64 x1, .int .i64 x2, .int .i64 x3, .int .i64 x4, .int .i64 x5, .int .i64 x6] 43)) := by rw [hw2, hw1]; exact rfl
  have t1 : (x1 == x1) = true := by simp
  have t2 : (x2 == x2) = true := by simp
  have t3 : (x3 == x3) = true := by simp
  have t4 : (x4 == x4) = true := by simp
  have t5 : (x5 == x5) = true := by simp
  have t6 : (x6 == x6) = true := by simp
  clear hA hB hn hw1 hw2 b1 b2 b12 k1 k2 k12 e1
  go_enter Tryz.func8, Tryz.ntmps8
  go_upto_region 1 with fail
  rw [← HW.out]
  clear HW
  go_wp2_with (go_at_call 10; refine Calls.mono HSE.out ?_; rintro e w3 ⟨rfl, b3, ⟨c1, c2, c3, c4, c5, c6⟩, ⟨d1, d2, d3, d4, d5, d6⟩, hl3⟩)
  go_ret
  exact ⟨rfl, b3⟩
/-- What Run answers. -/
def ResR (m : Int) (K : Nat) (x1 x2 x3 x4 : Int) : Prop := 1 ≤ m ∧ m ≤ 1048576 ∧ m = (K : Int) ∧ x1 = 2 ∧ x2 = 6 ∧ x3 = m ∧ x4 = 5 + 5 * m ∨ 1048576 < m ∧ K = 1048576 ∧ x1 = 0 ∧ x2 = 0 ∧ x3 = 0 ∧ x4 = 5242885
theorem re_run1 (m : Int) {K x1 x2 x3 x4} (hr : ResR m K x1 x2 x3 x4) {s d w} (h : Mach [reF m] s d w (rsM 0 0 [] [] [] 0)) : Calls Tryz.prog 6 #[.pointer (some ⟨s.mb, 0, none⟩), .int .i64 ((10000000 : Nat) : Int)] w fun e w' => ∃ ao c d' MF, e = .returned (.tuple #[.agg #[.slice ao K c, .int .i64 x1, .int .i64 x2, .int .i64 x3, .int .i64 x4, .int .i64 0, .int .i64 1], .int .i64 0]) ∧ Evs w' ao c (uev K) ∧ Over10 s d' w' MF ∧ MF.over = true ∧ (∀ v, otv v MF = .agg #[v, .int .i64 x1, .int .i64 x2, .int .i64 x3, .int .i64 x4, .int .i64 0, .int .i64 1]) ∧ MF.ev = uev K ∧ Only (foot s d) w w' := by
  have key : ∀ (N : Nat) (M1 MF : Ms), Way [reF m] N (rsM 0 0 [] [] [] 0) M1 → StepsTo [reF m] M1 false MF → N < 10000000 → MF.over = true → (∀ v, otv v MF = .agg #[v, .int .i64 x1, .int .i64 x2, .int .i64 x3, .int .i64 x4, .int .i64 0, .int .i64 1]) → MF.ev = uev K → Calls Tryz.prog 6 #[.pointer (some ⟨s.mb, 0, none⟩), .int .i64 ((10000000 : Nat) : Int)] w fun e w' => ∃ ao c d' MF, e = .returned (.tuple #[.agg #[.slice ao K c, .int .i64 x1, .int .i64 x2, .int .i64 x3, .int .i64 x4, .int .i64 0, .int .i64 1], .int .i64 0]) ∧ Evs w' ao c (uev K) ∧ Over10 s d' w' MF ∧ MF.over = true ∧ (∀ v, otv v MF = .agg #[v, .int .i64 x1, .int .i64 x2, .int .i64 x3, .int .i64 x4, .int .i64 0, .int .i64 1]) ∧ MF.ev = uev K ∧ Only (foot s d) w w' := by
    intro N M1 MF hW hS hN ho hov hev
    obtain ⟨Q, hQ0, hQN, hQ⟩ := hW
    rw [← hQN] at hS
    refine (mRun_any (re_few10 m) h.stp (fuel := 10000000) (N := N) (by omega) Q hQ0 hQ hS (MF := MF) (by rw [if_pos hN])).mono ?_
    rintro e w' ⟨v, d', B, rfl, _, ho', hf, _, hR⟩
    rw [hev] at hR
    obtain ⟨ao, c, rfl, hE⟩ := evs_of hR
    refine ⟨ao, c, d', MF, ?_, hE, ho', ho, hov, hev, hf.only⟩
    rw [hov, uev_len]
  rcases hr with ⟨h1, h2, rfl, rfl, rfl, rfl, rfl⟩ | ⟨h1, hK, rfl, rfl, rfl, rfl⟩
  · obtain ⟨N, hW⟩ := re_panics K (by omega) (by omega)
    exact key _ _ _ hW (.over rfl) (by omega) rfl (fun v => rfl) rfl
  · obtain ⟨M1, N, P, hW, hS⟩ := re_rests m K hK h1
    refine key _ _ _ hW hS (by omega) rfl (fun v => ?_) rfl
    have e : 5 + 5 * (K : Int) = 5242885 := by omega
    show Value.agg #[v, .int .i64 0, .int .i64 0, .int .i64 0, .int .i64 (5 + 5 * (K : Int)), .int .i64 0, .int .i64 1] = _
    rw [e]
/-- The outcome that is wanted, while it is made. -/
structure WantS (g : Nat) (wN wr : World) (x1 x2 x3 x4 : Int) (i : Nat) : Prop where
  out : ∃ v, wr.heap[g]? = some (.cells #[v, .int .i64 x1, .int .i64 x2, .int .i64 x3, .int .i64 x4, .int .i64 0, .int .i64 1] 43 (0, 0)) ∧ Row wr (g + 1) 45 2 v ((uev i).map evc) ∧ Below g wN wr
theorem want_next {g : Nat} {wN wr w5 : World} {v v' : Value} {x1 x2 x3 x4 : Int} {i : Nat} (hb : wr.heap[g]? = some (.cells #[v, .int .i64 x1, .int .i64 x2, .int .i64 x3, .int .i64 x4, .int .i64 0, .int .i64 1] 43 (0, 0))) (bN : Below g wN wr) (h5 : Row w5 (g + 1) 45 2 v' ((uev i).map evc ++ [[.int .i64 1, .int .i64 (i : Int)]])) (g5 : GI (g + 1) (wr.alloc (.cells #[.int .i64 1, .int .i64 (i : Int)] 45)) w5 v v') : WantS g wN (w5.setCell ⟨g, 0, none⟩ v') x1 x2 x3 x4 (i + 1) ∧ w5.cell? ⟨g, 0, none⟩ = some v ∧ w5.frozen? ⟨g, 0, none⟩ = false := by
  have hlt := (Array.getElem?_eq_some_iff.1 hb).1
  have e5 : w5.heap[g]? = some (.cells #[v, .int .i64 x1, .int .i64 x2, .int .i64 x3, .int .i64 x4, .int .i64 0, .int .i64 1] 43 (0, 0)) := ((g5.bel.block g (by omega)).trans (heap_alloc_old _ _ hlt)).trans hb
  have s5 := g5.bel.size
  refine ⟨⟨v', ?_, ?_, ?_⟩, cell_arr e5 rfl, fz_of e5⟩
  · exact heap_set_at (i := 0) (v := v') e5
  · have : ((uev (i + 1)).map evc) = (uev i).map evc ++ [[.int .i64 1, .int .i64 (i : Int)]] := by rw [uev_more]; simp [evc]
    rw [this]
    exact h5.move fun b hb' => heap_set_other (by have := (own_block h5.out hb').1; omega)
  · have b1 : Below g wN w5 := (bN.trans ((below_new wr _).mono (by omega))).trans (g5.bel.mono (by omega))
    refine b1.trans ((Only.of_set w5 ⟨g, 0, none⟩ v').below ?_ fun k e => by have : k = g := e; omega)
    simp at s5
    omega
end Go.Proofs.YtfbkopjncmkbiabGreatDoor
