import Derived.Test.YtddcpbidlbiamaaHpU
set_option linter.unusedVariables false
set_option linter.unusedSimpArgs false
namespace Go.Proofs.Ytddcpbidlbiamaa
open Go.ChangeShapes Go.WideShapes Go.ChangeAt Go.RowKit

theorem slot_any (i : Int) (n : Nat) (hn : 0 < n) (hn2 : n ≤ 1000000000) (hi : Fits i) (w : World) : Calls Try.prog 14 #[.int .i64 i, .int .i64 n] w fun e w' => w' = w ∧ ∃ q : Nat, e = .returned (.int .i64 q) ∧ q < n := by
  obtain ⟨t1, t2⟩ := tmod_bounds i n hn
  obtain ⟨t, ht⟩ : ∃ t, t = i.tmod (n : Int) := ⟨_, rfl⟩
  rw [← ht] at t1 t2
  have ht' : i.tmod (n : Int) = t := ht.symm
  obtain ⟨i1, i2⟩ := hi
  clear ht
  by_cases h : t < 0
  · obtain ⟨q, hq⟩ : ∃ q : Nat, t + n = (q : Int) := ⟨(t + n).toNat, by omega⟩
    go_enter Try.func14, Try.ntmps14
    go_wp2_with fail
    go_ret
    exact ⟨rfl, q, by first | rfl | (congr 1; go_num), by omega⟩
  · obtain ⟨q, rfl⟩ : ∃ q : Nat, t = (q : Int) := ⟨t.toNat, by omega⟩
    go_enter Try.func14, Try.ntmps14
    go_wp2_with fail
    go_ret
    exact ⟨rfl, q, rfl, by omega⟩

/-- The program's heap alone, of the call's own memory. -/
structure FSt (w wr : World) (h m n : Nat) (tk : Int) (ln : Int → Option Int) (f : Int → Int) (c : Nat) : Prop where
  ch : CH wr h m n tk ln f c
  bel : Below w.heap.size w wr
  bas : w.heap.size ≤ h ∧ w.heap.size ≤ m ∧ w.heap.size ≤ n
theorem FSt.next {w wr w' h m n tk ln f c tk' ln' f' c'} (H : FSt w wr h m n tk ln f c) (hC : CH w' h m n tk' ln' f' c') (hO : Only (CF h m n) wr w') : FSt w w' h m n tk' ln' f' c' :=
  ⟨hC, H.bel.trans (hO.below H.bel.size (fun k hk => by
    have := H.bas
    rcases hk with rfl | rfl | rfl <;> omega)), H.bas⟩
theorem fs_new {w w1 w2 : World} (hb1 : Below w.heap.size w w1) (hC : CH w2 (w1.heap.size + 1 + 1) w1.heap.size (w1.heap.size + 1) 0 (fun _ => none) (fun _ => 0) 0) (hb2 : Below w1.heap.size w1 w2) : FSt w w2 (w1.heap.size + 1 + 1) w1.heap.size (w1.heap.size + 1) 0 (fun _ => none) (fun _ => 0) 0 :=
  ⟨hC, hb1.trans (hb2.mono hb1.size), by have := hb1.size; omega⟩

/-- A heap of one block of r words, and what was done behind it. -/
structure F1 (w wr : World) (h m n : Nat) (r : Nat) : Prop where
  out : ∃ ln f c, FSt w wr h m n (r + 1) ln f c ∧ c ≤ 10
structure F2 (w wr : World) (h m n : Nat) (r : Nat) (k : Int) : Prop where
  out : ∃ ln f c, FSt w wr h m n (r + 1 + k + 1) ln f c ∧ ln (r + 2) = some k ∧ c ≤ 20

end Go.Proofs.Ytddcpbidlbiamaa
