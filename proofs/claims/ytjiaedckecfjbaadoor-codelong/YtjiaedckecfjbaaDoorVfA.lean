import Derived.Test.YtjiaedckecfjbaaDoorVaW
import Derived.Deep.Cut
import Derived.Deep.CutRange
set_option linter.unusedVariables false
set_option linter.unusedSimpArgs false
namespace Go.Proofs.YtjiaedckecfjbaaDoor
open Go.ChangeShapes Go.WideShapes Go.ChangeAt Go.RowKit Go.Maps

set_option maxRecDepth 100000 in
set_option maxHeartbeats 4000000 in
theorem left_any (w : World) {wb t : Nat} {ao : Option Addr} {n cap next : Nat} (hk : w.heap[wb]? = some (.cells #[.slice ao n cap, .int .i64 (next : Int)] t (0, 0))) (hn : n ≤ 1000000000000000000) (hx : next ≤ n) :
    Calls Tryd.prog 33 #[.pointer (some ⟨wb, 0, none⟩)] w fun e w' => e = .returned (.int .i64 ((n : Int) - (next : Int))) ∧ Below w.heap.size w w' := by
  have x0 : w.cell? ⟨wb, 0, none⟩ = some (.slice ao n cap) := cell_arr hk rfl
  have x1 : w.cell? ⟨wb, 1, none⟩ = some (.int .i64 (next : Int)) := cell_arr hk rfl
  have lw := (Array.getElem?_eq_some_iff.1 hk).1
  have u1 : IntKind.i64.wrap ((n : Int) - (next : Int)) = (n : Int) - (next : Int) := by rw [IntKind.wrap_i64]; omega
  clear hk hn hx
  go_enter Tryd.func33, Tryd.ntmps33
  go_wp2_with fail
  go_quiet (fail)
  go_wp2_with fail
  go_ret
  exact ⟨rfl, below_drewN (Below.refl _ _) _⟩
set_option maxRecDepth 100000 in
set_option maxHeartbeats 4000000 in
theorem cut_any9 (w : World) {wb t b o : Nat} {n cap next k : Nat} (hk : w.heap[wb]? = some (.cells #[.slice (some ⟨b, o, none⟩) n cap, .int .i64 (next : Int)] t (0, 0))) (hn : n ≤ cap ∧ cap ≤ 9223372036854775807 ∧ n ≤ 1000000000000000000) (hx : next + k ≤ n) (hk1 : 1 ≤ k) :
    Calls Tryd.prog 40 #[.pointer (some ⟨wb, 0, none⟩), .int .i64 (k : Int)] w fun e w' => e = .returned (.slice (some ⟨b, o + next, none⟩) k k) ∧ Below w.heap.size (w.setCell ⟨wb, 1, none⟩ (.int .i64 ((next + k : Nat) : Int))) w' := by
  have x0 : w.cell? ⟨wb, 0, none⟩ = some (.slice (some ⟨b, o, none⟩) n cap) := cell_arr hk rfl
  have x1 : w.cell? ⟨wb, 1, none⟩ = some (.int .i64 (next : Int)) := cell_arr hk rfl
  have z1 : w.frozen? ⟨wb, 1, none⟩ = false := fz_of hk
  have lw := (Array.getElem?_eq_some_iff.1 hk).1
  obtain ⟨nk, hnk⟩ : ∃ q, q = next + k := ⟨_, rfl⟩
  have u1 : IntKind.i64.wrap ((next : Int) + (k : Int)) = (nk : Int) := by rw [IntKind.wrap_i64]; omega
  obtain ⟨W2, hW2⟩ : ∃ W, W = w.setCell ⟨wb, 1, none⟩ (.int .i64 (nk : Int)) := ⟨_, rfl⟩
  have HK2 : Hid (W2.heap[wb]? = some (.cells #[.slice (some ⟨b, o, none⟩) n cap, .int .i64 (nk : Int)] t (0, 0))) := by rw [hW2]; exact heap_set_at hk
  have HS : Hid (W2.heap.size = w.heap.size) := by rw [hW2]; show _ = _; simp [World.setCell]
  have HNK : Hid (nk = next + k ∧ nk ≤ n ∧ n ≤ cap ∧ cap ≤ 9223372036854775807 ∧ n ≤ 1000000000000000000) := ⟨hnk, by omega, hn.1, hn.2⟩
  rw [← hnk, ← hW2]
  have hne : ¬ nk = next := by omega
  clear hk hn hx hnk hk1
  go_enter Tryd.func40, Tryd.ntmps40
  go_upto_region 3 with fail
  rw [← hW2]
  clear hW2 x0 x1 z1 lw u1
  have x0 : W2.cell? ⟨wb, 0, none⟩ = some (.slice (some ⟨b, o, none⟩) n cap) := cell_arr HK2.out rfl
  have x1 : W2.cell? ⟨wb, 1, none⟩ = some (.int .i64 (nk : Int)) := cell_arr HK2.out rfl
  have lw := (Array.getElem?_eq_some_iff.1 HK2.out).1
  have hh := HNK.out
  have g1 : next ≤ nk := by omega
  have g2 : nk ≤ cap := by omega
  have g3 : nk ≤ 1000000000000000000 := by omega
  have g4 : nk - next = k := by omega
  clear hh
  go_quiet (fail)
  go_wp2_with fail
  go_ret
  refine ⟨rfl, ?_⟩
  have b := below_drewN (Below.refl W2.heap.size W2) nq
  rw [HS.out] at b
  exact b
/-- A byte of a number. -/
def byt (x : Int) (i : Nat) : Int := x / 2 ^ (8 * i) % 256
/-- A number in so many bytes, the lowest first. -/
def lo (k : Nat) (x : Int) : List Int := (List.range k).map (byt x)
def u8s (B : List Int) : Array Value := (B.map (Value.int .u8)).toArray
theorem lo_len (k : Nat) (x : Int) : (lo k x).length = k := by simp [lo]
theorem lo_succ (k : Nat) (x : Int) : lo (k + 1) x = lo k x ++ [byt x k] := by simp [lo, List.range_succ]
/-- A row part of which was written. -/
def putB (B : List Int) (o i : Nat) (x : Int) : List Int := B.take o ++ lo i x ++ B.drop (o + i)
theorem putB_zero (B : List Int) (o : Nat) (x : Int) : putB B o 0 x = B := by simp [putB, lo]
theorem putB_len (B : List Int) {o i : Nat} (x : Int) (h : o + i ≤ B.length) : (putB B o i x).length = B.length := by
  unfold putB
  simp [lo_len]
  omega
theorem putB_set (B : List Int) {o i : Nat} (x : Int) (h : o + i < B.length) : (putB B o i x).set (o + i) (byt x i) = putB B o (i + 1) x := by
  unfold putB
  rw [List.set_append_right _ _ (by simp [lo_len]; omega)]
  have e : o + i - (B.take o ++ lo i x).length = 0 := by simp [lo_len]; omega
  rw [e, List.drop_eq_getElem_cons h, List.set_cons_zero, lo_succ, List.append_assoc, List.append_assoc, List.append_assoc]
  rfl
theorem u8s_set (B : List Int) (j : Nat) (x : Int) : (u8s B).setIfInBounds j (.int .u8 x) = u8s (B.set j x) := by
  unfold u8s
  simp
theorem u8s_at (B : List Int) {j : Nat} (h : j < B.length) : (u8s B)[j]? = some (.int .u8 B[j]) := by
  unfold u8s
  simp [h]
set_option maxRecDepth 100000 in
set_option maxHeartbeats 4000000 in
theorem put_any9 (w : World) {b o k : Nat} (B : List Int) (x : Int) (hk : w.heap[b]? = some (.cells (u8s B) 5 (0, 0))) (ho : o + k ≤ B.length) (hk8 : k ≤ 8) (hx : -9223372036854775808 ≤ x ∧ x ≤ 9223372036854775807) :
    Calls Tryd.prog 41 #[.slice (some ⟨b, o, none⟩) k k, .int .i64 x] w fun e w' => e = .returned (.tuple #[]) ∧ w'.heap[b]? = some (.cells (u8s (putB B o k x)) 5 (0, 0)) ∧ Only (fun q => q = b) w w' := by
  have HK : Hid (w.heap[b]? = some (.cells (u8s (putB B o 0 x)) 5 (0, 0))) := by rw [putB_zero]; exact hk
  have HO : Hid (o + k ≤ B.length) := ho
  have HX : Hid (-9223372036854775808 ≤ x ∧ x ≤ 9223372036854775807) := hx
  clear hk ho hx
  go_enter Tryd.func41, Tryd.ntmps41
  go_wp2_with fail
  go_loopw [4, 7] (fun v4 v7 wr => ∃ i : Nat, i ≤ k ∧ v7 = .int .i64 (i : Int) ∧ Hid (wr.heap[b]? = some (.cells (u8s (putB B o i x)) 5 (0, 0))) ∧ Hid (Only (fun q => q = b) w wr)) (fun v4 v7 _ => k - (intOf v7).toNat)
  case atStart => exact ⟨0, Nat.zero_le _, rfl, HK.out, Only.refl _ _⟩
  case round =>
    obtain ⟨i, hi, rfl, HKI, HOI⟩ := hrel
    by_cases hlt : i < k
    · have HLT : Hid (i < k) := hlt
      have hob : o + i < (putB B o i x).length := by rw [putB_len _ _ (by have := HO.out; omega)]; have := HO.out; omega
      obtain ⟨y, hy⟩ : ∃ y, y = (putB B o i x)[o + i] := ⟨_, rfl⟩
      have c0 : wr.cell? ⟨b, o + i, none⟩ = some (.int .u8 y) := by rw [hy]; exact cell_arr HKI.out (u8s_at _ hob)
      clear hy
      have z0 : wr.frozen? ⟨b, o + i, none⟩ = false := fz_of HKI.out
      have lb := (Array.getElem?_eq_some_iff.1 HKI.out).1
      have HN : Hid ((wr.setCell ⟨b, o + i, none⟩ (.int .u8 (byt x i))).heap[b]? = some (.cells (u8s (putB B o (i + 1) x)) 5 (0, 0))) := by
        have := heap_set_at (i := o + i) (v := .int .u8 (byt x i)) HKI.out
        rw [u8s_set, putB_set _ _ (by have := HO.out; omega)] at this
        exact this
      clear hob
      have hi8 : i < 8 := by omega
      go_wp2_with fail
      go_roundw
      case rel =>
        refine ⟨i + 1, by have := HLT.out; omega, by go_num, HN, HOI.out.trans (Only.of_set wr ⟨b, o + i, none⟩ _) fun q _ e => e⟩
      case measure => have := HLT.out; simp [intOf]; omega
    · have hie : i = k := by omega
      have HF : Hid (wr.heap[b]? = some (.cells (u8s (putB B o k x)) 5 (0, 0))) := by have := HKI.out; rw [hie] at this; exact this
      have HOF : Hid _ := HOI.out
      clear HKI HOI hie
      go_wp2_with fail
      exact bodyPost_end (v := .tuple #[]) (by simp [results, Tryd.results41, go_sem]) rfl ⟨rfl, HF.out, HOF.out⟩
end Go.Proofs.YtjiaedckecfjbaaDoor
