import Derived.Test.YtjiaedckecfjbaaDoorVfI
import Derived.Test.YtjiaedckecfjbaaDoorAcQ
set_option linter.unusedVariables false
set_option linter.unusedSimpArgs false
namespace Go.Proofs.YtjiaedckecfjbaaDoor
open Go.ChangeShapes Go.WideShapes Go.ChangeAt Go.RowKit Go.Maps

/-- A reader's box. -/
def RdB (W : World) (rb : Nat) (ao : Option Addr) (n cap next : Nat) : Prop := W.heap[rb]? = some (.cells #[.slice ao n cap, .int .i64 (next : Int)] 53 (0, 0))
theorem RdB.below {W W' rb ao n cap next} (h : RdB W rb ao n cap next) (b : Below W.heap.size W W') : RdB W' rb ao n cap next := (b.block _ (Array.getElem?_eq_some_iff.1 h).1).trans h
theorem RdB.moved {W W' rb ao n cap next k} (h : RdB W rb ao n cap next) (b : Below W.heap.size (W.setCell ⟨rb, 1, none⟩ (.int .i64 ((next + k : Nat) : Int))) W') : RdB W' rb ao n cap (next + k) := (b.block _ (Array.getElem?_eq_some_iff.1 h).1).trans (heap_set_at (i := 1) (v := .int .i64 ((next + k : Nat) : Int)) h)
theorem RdB.set_below {w wX rb ao n cap next} (h : RdB w rb ao n cap next) (b : Below w.heap.size w wX) (u : Value) : Below w.heap.size (w.setCell ⟨rb, 1, none⟩ u) (wX.setCell ⟨rb, 1, none⟩ u) := by
  refine ⟨b.os, b.tape, b.output, by simp only [World.setCell, Array.size_modify]; exact b.size, fun k hk => ?_⟩
  by_cases e : k = rb
  · subst e
    rw [heap_set_at (i := 1) (v := u) h, heap_set_at (i := 1) (v := u) (h.below b)]
  · rw [heap_set_other e, heap_set_other e]
    exact b.block k hk
/-- What a field reads. -/
def RdQ (w W : World) (rb : Nat) (ao : Option Addr) (n cap next : Nat) : Prop := (W.cell? ⟨rb, 0, none⟩ = some (.slice ao n cap) ∧ W.cell? ⟨rb, 1, none⟩ = some (.int .i64 (next : Int)) ∧ rb < W.heap.size) ∧ Hid (Below w.heap.size w W)
theorem RdQ.of {w W rb ao n cap next} (h : RdB w rb ao n cap next) (b : Below w.heap.size w W) : RdQ w W rb ao n cap next := by
  have k := h.below b
  exact ⟨⟨cell_arr k rfl, cell_arr k rfl, (Array.getElem?_eq_some_iff.1 k).1⟩, b⟩
set_option maxRecDepth 100000 in
set_option maxHeartbeats 4000000 in
theorem field_yes (w : World) {rb : Nat} {ao : Option Addr} {n cap next k : Nat} (h : RdB w rb ao n cap next) (hn : n ≤ cap ∧ cap ≤ 9223372036854775807 ∧ n ≤ 1000000000000000000) (hx : next ≤ n) (hk : next + k ≤ n) (hk1 : 1 ≤ k) (b o : Nat) (ha : ao = some ⟨b, o, none⟩) :
    Calls Tryd.prog 43 #[.pointer (some ⟨rb, 0, none⟩), .int .i64 (k : Int)] w fun e w' => e = .returned (.slice (some ⟨b, o + next, none⟩) k k) ∧ Below w.heap.size (w.setCell ⟨rb, 1, none⟩ (.int .i64 ((next + k : Nat) : Int))) w' := by
  have HRB : Hid (RdB w rb ao n cap next) := h
  have HLC : Hid (∀ W, Hid (Below w.heap.size w W) → Calls Tryd.prog 33 #[.pointer (some ⟨rb, 0, none⟩)] W fun e w' => e = .returned (.int .i64 ((n : Int) - (next : Int))) ∧ Below W.heap.size W w') := fun W b => left_any W (h.below b.out) (by omega) hx
  have Sz : RdQ w w.drew rb ao n cap next := RdQ.of h (Below.refl _ _).drew
  have HNN : Hid (next ≤ n ∧ n ≤ cap ∧ cap ≤ 9223372036854775807 ∧ n ≤ 1000000000000000000) := ⟨hx, hn⟩
  have t1 : decide ((k : Int) ≤ (n : Int) - (next : Int)) = true := decide_eq_true (by omega)
  have HKN : Hid (next + k ≤ n ∧ 1 ≤ k ∧ ao = some ⟨b, o, none⟩) := ⟨hk, hk1, ha⟩
  clear h hn hx hk hk1 ha
  go_enter Tryd.func43, Tryd.ntmps43
  go_upto_region 1 with fail
  refine lec_start (S := (fun w' => RdQ w w' rb ao n cap next)) (z := 12) (by kernel_rfl) ?_
  show lec _ _ _ _ _ 13 _ _ _
  try simp only [List.size_toArray, List.length_cons, List.length_nil, Array.replicate]
  refine lec_takeP (i := 0) (v := ?v0y) rfl (by kernel_rfl) (by kernel_rfl) (by kernel_rfl) (by kernel_rfl) (fun _ _ _ h => h) (.inl ⟨by rfl, ?hy0y⟩) Sz ?rest0y
  case hy0y =>
    rintro w' _
    go_simp
    all_goals with_reducible rfl
  try simp only [Act.put, List.getElem_toArray, List.getElem_cons_succ, List.getElem_cons_zero, List.setIfInBounds_toArray, List.set_cons_zero, List.set_cons_succ]
  refine lec_takeP (i := 1) (v := ?v1y) rfl (by kernel_rfl) (by kernel_rfl) (by kernel_rfl) (by kernel_rfl) (fun _ _ _ h => h) (.inl ⟨by rfl, ?hy1y⟩) Sz ?rest1y
  case hy1y =>
    rintro w' _
    go_simp
    all_goals with_reducible rfl
  try simp only [Act.put, List.getElem_toArray, List.getElem_cons_succ, List.getElem_cons_zero, List.setIfInBounds_toArray, List.set_cons_zero, List.set_cons_succ]
  refine lec_takeP (i := 2) (v := ?v2y) rfl (by kernel_rfl) (by kernel_rfl) (by kernel_rfl) (by kernel_rfl) (fun _ _ _ h => h) (.inl ⟨by rfl, ?hy2y⟩) Sz ?rest2y
  case hy2y =>
    rintro w' _
    go_simp
    all_goals with_reducible rfl
  try simp only [Act.put, List.getElem_toArray, List.getElem_cons_succ, List.getElem_cons_zero, List.setIfInBounds_toArray, List.set_cons_zero, List.set_cons_succ]
  refine lec_takeP (i := 3) (v := ?v3y) rfl (by kernel_rfl) (by kernel_rfl) (by kernel_rfl) (by kernel_rfl) (fun _ _ _ h => h) (.inl ⟨by rfl, ?hy3y⟩) Sz ?rest3y
  case hy3y =>
    rintro w' _
    go_simp
    all_goals with_reducible rfl
  try simp only [Act.put, List.getElem_toArray, List.getElem_cons_succ, List.getElem_cons_zero, List.setIfInBounds_toArray, List.set_cons_zero, List.set_cons_succ]
  refine lec_takeP (i := 6) (v := ?v6y) rfl (by kernel_rfl) (by kernel_rfl) (by kernel_rfl) (by kernel_rfl) (fun _ _ _ h => h) (.inl ⟨by rfl, ?hy6y⟩) Sz ?rest6y
  case hy6y =>
    rintro w' _
    go_simp
    all_goals with_reducible rfl
  try simp only [Act.put, List.getElem_toArray, List.getElem_cons_succ, List.getElem_cons_zero, List.setIfInBounds_toArray, List.set_cons_zero, List.set_cons_succ]
  refine lec_takeP (i := 7) (v := ?v7y) rfl (by kernel_rfl) (by kernel_rfl) (by kernel_rfl) (by kernel_rfl) (fun _ _ _ h => h) (.inl ⟨by rfl, ?hy7y⟩) Sz ?rest7y
  case hy7y =>
    rintro w' _
    go_simp
    all_goals with_reducible rfl
  try simp only [Act.put, List.getElem_toArray, List.getElem_cons_succ, List.getElem_cons_zero, List.setIfInBounds_toArray, List.set_cons_zero, List.set_cons_succ]
  refine lec_takeP (i := 8) (v := ?v8y) rfl (by kernel_rfl) (by kernel_rfl) (by kernel_rfl) (by kernel_rfl) (fun _ _ _ h => h) (.inl ⟨by rfl, ?hy8y⟩) Sz ?rest8y
  case hy8y =>
    rintro w' _
    go_simp
    all_goals with_reducible rfl
  try simp only [Act.put, List.getElem_toArray, List.getElem_cons_succ, List.getElem_cons_zero, List.setIfInBounds_toArray, List.set_cons_zero, List.set_cons_succ]
  refine lec_takeP (i := 9) (v := ?v9y) rfl (by kernel_rfl) (by kernel_rfl) (by kernel_rfl) (by kernel_rfl) (fun _ _ _ h => h) (.inl ⟨by rfl, ?hy9y⟩) Sz ?rest9y
  case hy9y =>
    rintro w' _
    go_simp
    all_goals with_reducible rfl
  try simp only [Act.put, List.getElem_toArray, List.getElem_cons_succ, List.getElem_cons_zero, List.setIfInBounds_toArray, List.set_cons_zero, List.set_cons_succ]
  refine lec_takeT [11, 12] (i := 10) (v := ?v10y) rfl (by kernel_rfl) (by kernel_rfl) (by kernel_rfl) (by kernel_rfl) (fun _ _ _ h => h) (.inl ⟨by rfl, ?hy10y⟩) Sz ?rest10y
  case hy10y =>
    rintro w' ⟨⟨a0, a1, l1⟩, bb⟩
    go_simp
    all_goals with_reducible rfl
  try simp only [Act.put, List.getElem_toArray, List.getElem_cons_succ, List.getElem_cons_zero, List.setIfInBounds_toArray, List.set_cons_zero, List.set_cons_succ]
  refine lec_takeP (i := 11) (v := ?v11y) rfl (by kernel_rfl) (by kernel_rfl) (by kernel_rfl) (by kernel_rfl) (fun _ _ _ h => h) (.inl ⟨by rfl, ?hy11y⟩) Sz ?rest11y
  case hy11y =>
    rintro w' _
    go_simp
    all_goals with_reducible rfl
  try simp only [Act.put, List.getElem_toArray, List.getElem_cons_succ, List.getElem_cons_zero, List.setIfInBounds_toArray, List.set_cons_zero, List.set_cons_succ]
  refine lec_one (i := 4) rfl (by kernel_rfl) ?_
  intro K4 hK4
  rw [if_pos (by rfl)]
  go_simp
  refine (HLC.out _ Sz.2).mono ?_
  rintro e wX ⟨rfl, bX⟩
  have HBX : Hid (Below w.heap.size w wX) := Sz.2.out.trans (bX.mono Sz.2.out.size)
  have Sz : RdQ w wX rb ao n cap next := RdQ.of HRB.out HBX.out
  clear bX
  go_simp
  refine hK4 _ _ (fun _ => Sz) ?_
  clear hK4
  try simp only [Act.put, List.getElem_toArray, List.getElem_cons_succ, List.getElem_cons_zero, List.setIfInBounds_toArray, List.set_cons_zero, List.set_cons_succ]
  refine lec_takeP (i := 5) (v := ?v5y) rfl (by kernel_rfl) (by kernel_rfl) (by kernel_rfl) (by kernel_rfl) (fun _ _ _ h => h) (.inl ⟨by rfl, ?hy5y⟩) Sz ?rest5y
  case hy5y =>
    rintro w' _
    go_simp
    all_goals with_reducible rfl
  try simp only [Act.put, List.getElem_toArray, List.getElem_cons_succ, List.getElem_cons_zero, List.setIfInBounds_toArray, List.set_cons_zero, List.set_cons_succ]
  refine lec_one (i := 12) rfl (by kernel_rfl) ?_
  intro K12 hK12
  rw [if_pos (by rfl)]
  go_simp
  refine (hold_yes _ _).mono ?_
  rintro e wY ⟨rfl, rfl⟩
  go_simp
  refine hK12 _ _ (fun _ => Sz) ?_
  clear hK12
  try simp only [Act.put, List.getElem_toArray, List.getElem_cons_succ, List.getElem_cons_zero, List.setIfInBounds_toArray, List.set_cons_zero, List.set_cons_succ]
  refine lec_done (by kernel_rfl) ?_
  have HRX := HRB.out.below HBX.out
  rw [HKN.out.2.2] at HRX
  have HCU : Hid _ := cut_any9 wX HRX HNN.out.2 HKN.out.1 HKN.out.2.1
  have lw : rb < wX.heap.size := (Array.getElem?_eq_some_iff.1 HRX).1
  have HLW : Hid (rb < w.heap.size) := (Array.getElem?_eq_some_iff.1 HRB.out).1
  clear Sz HRX
  go_wp2_with fail
  refine Calls.mono HCU.out ?_
  rintro e wC ⟨rfl, bC⟩
  have HFIN : Hid (Below w.heap.size (w.setCell ⟨rb, 1, none⟩ (.int .i64 ((next + k : Nat) : Int))) wC) := by
    have q := HRB.out.set_below HBX.out (.int .i64 ((next + k : Nat) : Int))
    have sz : (w.setCell ⟨rb, 1, none⟩ (.int .i64 ((next + k : Nat) : Int))).heap.size = w.heap.size := by simp [World.setCell]
    exact q.trans (bC.mono HBX.out.size)
  clear bC HCU
  go_wp2_with fail
  go_ret
  exact ⟨rfl, HFIN.out⟩
set_option maxRecDepth 100000 in
set_option maxHeartbeats 4000000 in
theorem field_no (w : World) {rb : Nat} {ao : Option Addr} {n cap next k : Nat} (h : RdB w rb ao n cap next) (hn : n ≤ cap ∧ cap ≤ 9223372036854775807 ∧ n ≤ 1000000000000000000) (hx : next ≤ n) (hk : n < next + k) (hkb : k ≤ 1000) :
    Calls Tryd.prog 43 #[.pointer (some ⟨rb, 0, none⟩), .int .i64 (k : Int)] w fun e w' => e = thrC (n : Int) ∧ Below w.heap.size w w' := by
  have HRB : Hid (RdB w rb ao n cap next) := h
  have HLC : Hid (∀ W, Hid (Below w.heap.size w W) → Calls Tryd.prog 33 #[.pointer (some ⟨rb, 0, none⟩)] W fun e w' => e = .returned (.int .i64 ((n : Int) - (next : Int))) ∧ Below W.heap.size W w') := fun W b => left_any W (h.below b.out) (by omega) hx
  have Sz : RdQ w w.drew rb ao n cap next := RdQ.of h (Below.refl _ _).drew
  have HNN : Hid (next ≤ n ∧ n ≤ cap ∧ cap ≤ 9223372036854775807 ∧ n ≤ 1000000000000000000) := ⟨hx, hn⟩
  have t1 : decide ((k : Int) ≤ (n : Int) - (next : Int)) = false := decide_eq_false (by omega)
  clear h hn hx hk hkb
  go_enter Tryd.func43, Tryd.ntmps43
  go_upto_region 1 with fail
  refine lec_start (S := (fun w' => RdQ w w' rb ao n cap next)) (z := 12) (by kernel_rfl) ?_
  show lec _ _ _ _ _ 13 _ _ _
  try simp only [List.size_toArray, List.length_cons, List.length_nil, Array.replicate]
  refine lec_takeP (i := 0) (v := ?v0n) rfl (by kernel_rfl) (by kernel_rfl) (by kernel_rfl) (by kernel_rfl) (fun _ _ _ h => h) (.inl ⟨by rfl, ?hy0n⟩) Sz ?rest0n
  case hy0n =>
    rintro w' _
    go_simp
    all_goals with_reducible rfl
  try simp only [Act.put, List.getElem_toArray, List.getElem_cons_succ, List.getElem_cons_zero, List.setIfInBounds_toArray, List.set_cons_zero, List.set_cons_succ]
  refine lec_takeP (i := 1) (v := ?v1n) rfl (by kernel_rfl) (by kernel_rfl) (by kernel_rfl) (by kernel_rfl) (fun _ _ _ h => h) (.inl ⟨by rfl, ?hy1n⟩) Sz ?rest1n
  case hy1n =>
    rintro w' _
    go_simp
    all_goals with_reducible rfl
  try simp only [Act.put, List.getElem_toArray, List.getElem_cons_succ, List.getElem_cons_zero, List.setIfInBounds_toArray, List.set_cons_zero, List.set_cons_succ]
  refine lec_takeP (i := 2) (v := ?v2n) rfl (by kernel_rfl) (by kernel_rfl) (by kernel_rfl) (by kernel_rfl) (fun _ _ _ h => h) (.inl ⟨by rfl, ?hy2n⟩) Sz ?rest2n
  case hy2n =>
    rintro w' _
    go_simp
    all_goals with_reducible rfl
  try simp only [Act.put, List.getElem_toArray, List.getElem_cons_succ, List.getElem_cons_zero, List.setIfInBounds_toArray, List.set_cons_zero, List.set_cons_succ]
  refine lec_takeP (i := 3) (v := ?v3n) rfl (by kernel_rfl) (by kernel_rfl) (by kernel_rfl) (by kernel_rfl) (fun _ _ _ h => h) (.inl ⟨by rfl, ?hy3n⟩) Sz ?rest3n
  case hy3n =>
    rintro w' _
    go_simp
    all_goals with_reducible rfl
  try simp only [Act.put, List.getElem_toArray, List.getElem_cons_succ, List.getElem_cons_zero, List.setIfInBounds_toArray, List.set_cons_zero, List.set_cons_succ]
  refine lec_takeP (i := 6) (v := ?v6n) rfl (by kernel_rfl) (by kernel_rfl) (by kernel_rfl) (by kernel_rfl) (fun _ _ _ h => h) (.inl ⟨by rfl, ?hy6n⟩) Sz ?rest6n
  case hy6n =>
    rintro w' _
    go_simp
    all_goals with_reducible rfl
  try simp only [Act.put, List.getElem_toArray, List.getElem_cons_succ, List.getElem_cons_zero, List.setIfInBounds_toArray, List.set_cons_zero, List.set_cons_succ]
  refine lec_takeP (i := 7) (v := ?v7n) rfl (by kernel_rfl) (by kernel_rfl) (by kernel_rfl) (by kernel_rfl) (fun _ _ _ h => h) (.inl ⟨by rfl, ?hy7n⟩) Sz ?rest7n
  case hy7n =>
    rintro w' _
    go_simp
    all_goals with_reducible rfl
  try simp only [Act.put, List.getElem_toArray, List.getElem_cons_succ, List.getElem_cons_zero, List.setIfInBounds_toArray, List.set_cons_zero, List.set_cons_succ]
  refine lec_takeP (i := 8) (v := ?v8n) rfl (by kernel_rfl) (by kernel_rfl) (by kernel_rfl) (by kernel_rfl) (fun _ _ _ h => h) (.inl ⟨by rfl, ?hy8n⟩) Sz ?rest8n
  case hy8n =>
    rintro w' _
    go_simp
    all_goals with_reducible rfl
  try simp only [Act.put, List.getElem_toArray, List.getElem_cons_succ, List.getElem_cons_zero, List.setIfInBounds_toArray, List.set_cons_zero, List.set_cons_succ]
  refine lec_takeP (i := 9) (v := ?v9n) rfl (by kernel_rfl) (by kernel_rfl) (by kernel_rfl) (by kernel_rfl) (fun _ _ _ h => h) (.inl ⟨by rfl, ?hy9n⟩) Sz ?rest9n
  case hy9n =>
    rintro w' _
    go_simp
    all_goals with_reducible rfl
  try simp only [Act.put, List.getElem_toArray, List.getElem_cons_succ, List.getElem_cons_zero, List.setIfInBounds_toArray, List.set_cons_zero, List.set_cons_succ]
  refine lec_takeT [11, 12] (i := 10) (v := ?v10n) rfl (by kernel_rfl) (by kernel_rfl) (by kernel_rfl) (by kernel_rfl) (fun _ _ _ h => h) (.inl ⟨by rfl, ?hy10n⟩) Sz ?rest10n
  case hy10n =>
    rintro w' ⟨⟨a0, a1, l1⟩, bb⟩
    go_simp
    all_goals with_reducible rfl
  try simp only [Act.put, List.getElem_toArray, List.getElem_cons_succ, List.getElem_cons_zero, List.setIfInBounds_toArray, List.set_cons_zero, List.set_cons_succ]
  refine lec_takeP (i := 11) (v := ?v11n) rfl (by kernel_rfl) (by kernel_rfl) (by kernel_rfl) (by kernel_rfl) (fun _ _ _ h => h) (.inl ⟨by rfl, ?hy11n⟩) Sz ?rest11n
  case hy11n =>
    rintro w' _
    go_simp
    all_goals with_reducible rfl
  try simp only [Act.put, List.getElem_toArray, List.getElem_cons_succ, List.getElem_cons_zero, List.setIfInBounds_toArray, List.set_cons_zero, List.set_cons_succ]
  refine lec_one (i := 4) rfl (by kernel_rfl) ?_
  intro K4 hK4
  rw [if_pos (by rfl)]
  go_simp
  refine (HLC.out _ Sz.2).mono ?_
  rintro e wX ⟨rfl, bX⟩
  have HBX : Hid (Below w.heap.size w wX) := Sz.2.out.trans (bX.mono Sz.2.out.size)
  have Sz : RdQ w wX rb ao n cap next := RdQ.of HRB.out HBX.out
  clear bX
  go_simp
  refine hK4 _ _ (fun _ => Sz) ?_
  clear hK4
  try simp only [Act.put, List.getElem_toArray, List.getElem_cons_succ, List.getElem_cons_zero, List.setIfInBounds_toArray, List.set_cons_zero, List.set_cons_succ]
  refine lec_takeP (i := 5) (v := ?v5n) rfl (by kernel_rfl) (by kernel_rfl) (by kernel_rfl) (by kernel_rfl) (fun _ _ _ h => h) (.inl ⟨by rfl, ?hy5n⟩) Sz ?rest5n
  case hy5n =>
    rintro w' _
    go_simp
    all_goals with_reducible rfl
  try simp only [Act.put, List.getElem_toArray, List.getElem_cons_succ, List.getElem_cons_zero, List.setIfInBounds_toArray, List.set_cons_zero, List.set_cons_succ]
  refine lec_one (i := 12) rfl (by kernel_rfl) ?_
  intro K12 hK12
  rw [if_pos (by rfl)]
  go_simp
  refine (hold_no _ _).mono ?_
  rintro e wY ⟨rfl, rfl⟩
  unfold thrC
  go_simp
  exact ⟨rfl, rfl, HBX.out⟩
end Go.Proofs.YtjiaedckecfjbaaDoor
