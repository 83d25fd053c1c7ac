import Derived.Test.YtfbkopjncmkbiabGreatDoorKbk
set_option linter.unusedVariables false
set_option linter.unusedSimpArgs false
namespace Go.Proofs.YtfbkopjncmkbiabGreatDoor
open Go.ChangeShapes Go.WideShapes Go.ChangeAt Go.RowKit Go.Maps
theorem Evs.at {w : World} {ao : Option Addr} {c : Nat} {E : List (Int × Int)} (h : Evs w ao c E) {k : Nat} (hk : k < E.length) : ∃ b o, ao = some ⟨b, o, none⟩ /\ b < w.heap.size /\ w.cell? ⟨b, o + k * 2, none⟩ = some (.int .i64 E[k].1) /\ w.cell? ⟨b, o + k * 2 + 1, none⟩ = some (.int .i64 E[k].2) := by
 obtain ⟨b, o, e, hb, hc⟩ := h.out (by intro q; rw [q] at hk; simp at hk)
 have hz : ∀ x ∈ E.map evc, x.length = 2 := by
  intro x hx
  obtain ⟨y, _, rfl⟩ := List.mem_map.1 hx
  rfl
 have f := fun r hr => flat_at (E.map evc) hz k (by simpa using hk) r hr
 refine ⟨b, o, e, hb, ?_, ?_⟩
 ·have := hc (k * 2) (.int .i64 E[k].1) (by have := f 0 (by omega); simpa [evc] using this)
  simpa [add_noneR] using this
 ·have := hc (k * 2 + 1) (.int .i64 E[k].2) (by have := f 1 (by omega); simpa [evc] using this)
  simpa [add_noneR, Nat.add_assoc] using this
theorem Evs.belowR {w w' : World} {ao : Option Addr} {c : Nat} {E : List (Int × Int)} (h : Evs w ao c E) (b : Below w.heap.size w w') : Evs w' ao c E := ⟨h.le, h.mx, h.nil, fun hne => by
 obtain ⟨g, o, e, hlt, hc⟩ := h.out hne
 refine ⟨g, o, e, by have := b.size; omega, fun j u hu => ?_⟩
 have := hc j u hu
 rw [add_noneR] at this ⊢
 exact (b.cell (p := ⟨g, o + j, none⟩) hlt).trans this⟩
set_option maxRecDepth 100000 in
set_option maxHeartbeats 2000000 in
theorem sameE_any (w : World) {aa ba : Option Addr} {n ac bc : Nat} {L : List (Int × Int)} (hA : Evs w aa ac L) (hB : Evs w ba bc L) (hn : n = L.length) :
 Calls Tryz.prog 10 #[.slice aa n ac, .slice ba n bc] w fun e w' => e = .returned (.bool true) /\ Below w.heap.size w w' := by
 have hmx : n <= 9223372036854775807 := by have := hA.le; have := hA.mx; omega
 have HA : Hid (Evs w aa ac L) := hA
 have HB : Hid (Evs w ba bc L) := hB
 have HN : Hid (n = L.length) := hn
 clear hA hB hn
 go_enter Tryz.func10, Tryz.ntmps10
 go_wp2_with fail
 go_loopw [5] (fun v wr => ∃ k : Nat, k <= n /\ v = .int .i64 k /\ Hid (Below w.heap.size w wr)) (fun v _ => n - (intOf v).toNat)
 case atStart => exact ⟨0, by omega, rfl, Below.refl _ _⟩
 case round =>
  obtain ⟨k, hk, rfl, HW⟩ := hrel
  by_cases hlt : k < n
  ·have hkf : k < L.length := by have := HN.out; omega
   obtain ⟨b, o, rfl, hbl, c0, c1⟩ := (HA.out.belowR HW.out).at hkf
   obtain ⟨b2, o2, rfl, hbl2, d0, d1⟩ := (HB.out.belowR HW.out).at hkf
   generalize L[k] = m at c0 c1 d0 d1
   obtain ⟨m1, m2⟩ := m
   simp only at c0 c1 d0 d1
   go_wp2_with fail
   go_quiet (fail)
   go_wp2_with fail
   go_roundw
   case rel => exact ⟨k + 1, by omega, by go_num, below_drawn HW.out _⟩
   case measure => simp [intOf]; omega
  ·obtain rfl : k = n := by omega
   go_wp2_with fail
   go_ret
   exact ⟨rfl, HW.out⟩
theorem first_lies (w : World) : Calls Tryz.prog 9 #[] w fun e w' => ∃ L, e = .returned (.agg #[.slice (some ⟨L, 0, none⟩) 1 1, .int .i64 0]) /\ Fus w' (some ⟨L, 0, none⟩) 1 [frF] /\ Below w.heap.size w w' := by
 refine (first_any w).mono ?_
 rintro e w' ⟨rfl, rfl⟩
 exact ⟨_, rfl, fr_fus w, al_below _ w⟩
structure Hands (w0 W : World) (L g : Nat) : Prop where
 fus : Fus W (some ⟨L, 0, none⟩) 1 [frF]
 ints : Ints W (some ⟨g, 0, none⟩) 2 [7, -3]
 low : Below w0.heap.size w0 W
theorem fr_new (w0 W : World) (hTab : Tab w0) {L g : Nat} (h : Hands w0 W L g) : Calls Tryz.prog 5 #[.agg #[.slice (some ⟨L, 0, none⟩) 1 1, .int .i64 0], .slice (some ⟨g, 0, none⟩) 2 2] W fun e w' => NewM [frF] W w' e (frM 0) :=
 mNew_yes W (hTab.below h.low hTab.1) (n := 0) (FS := [frF]) rfl h.fus (by decide) fr_few fr_fewC fr_few10 fr_check frF rfl h.ints rfl (by decide) (frM 0) fr_begin
theorem fr_run {s d w} (h : Mach [frF] s d w (frM 0)) : Calls Tryz.prog 6 #[.pointer (some ⟨s.mb, 0, none⟩), .int .i64 ((100 : Nat) : Int)] w fun e w' => ∃ ao c, e = .returned (.tuple #[.agg #[.slice ao 1 c, .int .i64 1, .int .i64 0, .int .i64 0, .int .i64 5, .int .i64 0, .int .i64 1], .int .i64 0]) /\ Evs w' ao c [(1, 4)] /\ Only (foot s d) w w' := by
 refine (mRun_any fr_few10 h.stp (fuel := 100) (N := 5) (by omega) frM rfl fr_steps fr_end (MF := frM 5) rfl).mono ?_
 rintro e w' ⟨v, d', B, rfl, _, _, hf, _, hR⟩
 obtain ⟨ao, c, rfl, hE⟩ := evs_of hR
 exact ⟨ao, c, rfl, hE, hf.only⟩
set_option maxRecDepth 100000 in
set_option maxHeartbeats 4000000 in
theorem alive10_any (w : World) (hTab : Tab w) : Calls Tryz.prog 4 #[] w fun e w' => e = .returned (.bool true) /\ Below w.heap.size w w' := by
 have HFI : Hid (∀ W, Calls Tryz.prog 9 #[] W fun e w' => ∃ L, e = .returned (.agg #[.slice (some ⟨L, 0, none⟩) 1 1, .int .i64 0]) /\ Fus w' (some ⟨L, 0, none⟩) 1 [frF] /\ Below W.heap.size W w') := first_lies
 have HNW : Hid (∀ W L g, Hands w W L g -> Calls Tryz.prog 5 #[.agg #[.slice (some ⟨L, 0, none⟩) 1 1, .int .i64 0], .slice (some ⟨g, 0, none⟩) 2 2] W fun e w' => ∃ mb s d, s.mb = mb /\ e = .returned (.tuple #[.pointer (some ⟨mb, 0, none⟩), .int .i64 0]) /\ Mach [frF] s d w' (frM 0) /\ Below w.heap.size w w' /\ ∀ k, foot s d k -> w.heap.size <= k) := fun W L g h => (fr_new w W hTab h).mono fun e w' q => by
  obtain ⟨s, d, q1, q2, q3, q4, q5⟩ := q.out
  have := h.low.size
  exact ⟨s.mb, s, d, rfl, q1, q2, h.low.trans (q3.mono this), fun k hk => Nat.le_trans this (q5 k hk)⟩
 clear hTab
 go_enter Tryz.func4, Tryz.ntmps4
 go_upto_region 2 with (first
  | (go_at_call 5
     have hH : Hands w _ L wA.heap.size := ⟨hFA.below (below_new wA _) (Nat.le_refl _), ints_exact (L := [7, -3]) (heap_alloc_new _ _) (by decide), bA.trans ((below_new wA _).mono bA.size)⟩
     refine (HNW.out _ _ _ hH).mono ?_
     rintro e wN ⟨mb, s, d, hmb, rfl, hM, bN, hft⟩)
  | (go_at_call 9; refine (HFI.out _).mono ?_; rintro e wA ⟨L, rfl, hFA, bA⟩))
 have HRN : Hid (Calls Tryz.prog 6 #[.pointer (some ⟨mb, 0, none⟩), .int .i64 100] wN fun e w' => ∃ ao c, e = .returned (.tuple #[.agg #[.slice ao 1 c, .int .i64 1, .int .i64 0, .int .i64 0, .int .i64 5, .int .i64 0, .int .i64 1], .int .i64 0]) /\ Evs w' ao c [(1, 4)] /\ Below w.heap.size w w') := (hmb ▸ fr_run hM).mono fun e w' ⟨ao, c, q1, q2, q3⟩ => ⟨ao, c, q1, q2, bN.trans (q3.below bN.size hft)⟩
 have HBN : Hid _ := bN
 clear hFA bA hH hM bN hft HFI HNW hmb
 go_upto_region 4 with fail
 go_upto_region 5 with (go_at_call 6; refine Calls.mono HRN.out ?_; rintro e wR ⟨ao, c, rfl, hE, bR⟩)
 obtain ⟨W5, hW5⟩ : ∃ W, W = wR.alloc (.cells #[.slice ao 1 c, .int .i64 1, .int .i64 0, .int .i64 0, .int .i64 5, .int .i64 0, .int .i64 1] 43) := ⟨_, rfl⟩
 rw [<- hW5]
 have k5 : W5.heap[wR.heap.size]? = some (.cells #[.slice ao 1 c, .int .i64 1, .int .i64 0, .int .i64 0, .int .i64 5, .int .i64 0, .int .i64 1] 43 (0, 0)) := by rw [hW5]; exact heap_alloc_new _ _
 have b5 : Below wR.heap.size wR W5 := by rw [hW5]; exact below_new _ _
 have x0 : W5.cell? ⟨wR.heap.size, 0, none⟩ = some (.slice ao 1 c) := cell_arr k5 rfl
 have x1 : W5.cell? ⟨wR.heap.size, 1, none⟩ = some (.int .i64 1) := cell_arr k5 rfl
 have hlt := (gl k5)
 have HSE : Hid (∀ W, W = W5.alloc (.cells #[.int .i64 1, .int .i64 4] 45) -> Calls Tryz.prog 10 #[.slice ao 1 c, .slice (some ⟨W5.heap.size, 0, none⟩) 1 1] W fun e w' => e = .returned (.bool true) /\ w'.cell? ⟨wR.heap.size, 6, none⟩ = some (.int .i64 1) /\ wR.heap.size < w'.heap.size /\ Below w.heap.size w w') := by
  rintro W rfl
  have b6 := below_new W5 (.cells #[.int .i64 1, .int .i64 4] 45)
  have k6 := heap_alloc_new W5 (.cells #[.int .i64 1, .int .i64 4] 45)
  have b56 := b5.trans (b6.mono b5.size)
  refine (sameE_any _ (hE.belowR b56) (bc := 1) (ba := some ⟨W5.heap.size, 0, none⟩) ⟨by decide, by decide, fun q => (by cases q), fun _ => ⟨W5.heap.size, 0, rfl, (gl k6), fun j u hu => ?_⟩⟩ rfl).mono ?_
  ·rw [add_noneR]
   refine cell_arr k6 ?_
   have hu2 : ([.int .i64 1, .int .i64 4] : List Value)[j]? = some u := hu
   simpa using hu2
  ·rintro e w' ⟨rfl, b7⟩
   have k7 := (b7.block _ (Nat.lt_of_lt_of_le hlt b6.size)).trans ((b6.block _ hlt).trans k5)
   exact ⟨rfl, cell_arr k7 rfl, (gl k7), (bR.trans (b56.mono bR.size)).trans (b7.mono (Nat.le_trans bR.size b56.size))⟩
 clear hE bR b5 k5 hW5 HRN HBN
 go_wp2_with (go_at_call 10; refine (HSE.out _ rfl).mono ?_; rintro e wS ⟨rfl, y6, ylt, bS⟩)
 go_ret
 exact ⟨rfl, bS⟩
theorem StepsTo.at {FS : List Fu} (M M' : Ms) (s : Int) (ho : M.over = false) (hM : M.adv FS = some { M' with steps := s }) (h1 : Nat.ble M.nums.length 800000000 = true) (h2 : M.here.fst = 0) (h3 : M.wait = []) (h4 : Nat.ble (M.here.bh + 1) 1000000000 = true) (hs : 0 <= s /\ s <= 4611686018427387904) (hr : M'.rests = false) (he : M'.steps = s + 1) : StepsTo FS M true M' := by
 have z := StepsTo.one (M1 := { M' with steps := s }) ho hM (Nat.le_of_ble_eq_true h1) h2 h3 (Nat.le_of_ble_eq_true h4) hs hr
 have e : ({ ({ M' with steps := s } : Ms) with steps := ({ M' with steps := s } : Ms).steps + 1 } : Ms) = M' := by
  cases M'
  simp only at he
  simp [he]
 rw [e] at z
 exact z
end Go.Proofs.YtfbkopjncmkbiabGreatDoor
