import Derived.Test.YtddcpbidlbiamaaHpU
set_option linter.unusedVariables false
set_option linter.unusedSimpArgs false
namespace Go.Proofs.Ytddcpbidlbiamaa
open Go.ChangeShapes Go.WideShapes Go.ChangeAt Go.RowKit

theorem fits_any (a : Option Addr) (len cap : Nat) (hl : len ≤ 9223372036854775807) (w : World) : Calls Try.prog 9 #[.slice a len cap] w fun e w' => e = .returned (.bool (decide ((len : Int) ≤ 5000))) ∧ w' = w := by
  go_enter Try.func9, Try.ntmps9
  go_wp2
  go_ret
  exact ⟨rfl, rfl⟩

theorem holds_long (a : Option Addr) (len cap : Nat) (lo hi : Int) (h : 5000 < len) (hl : len ≤ 9223372036854775807) (w : World) : Calls Try.prog 8 #[.slice a len cap, .int .i64 lo, .int .i64 hi] w fun e w' => e = .returned (.bool true) ∧ Below w.heap.size w w' := by
  have hf := fits_any a len cap hl w
  rw [show decide ((len : Int) ≤ 5000) = false by simp; omega] at hf
  go_enter Try.func8, Try.ntmps8
  go_wp2_with fail
  refine hf.mono ?_
  rintro e w1 ⟨rfl, rfl⟩
  go_wp2_with fail
  go_ret
  exact ⟨rfl, Below.refl _ _⟩

set_option maxHeartbeats 4000000 in
set_option maxRecDepth 100000 in
theorem holds_any (w : World) (ao : Option Addr) (len cap : Nat) (lo hi : Int) (hl : len ≤ 5000) (hcap : cap ≤ 9223372036854775807) (hlc : len ≤ cap) (s : Nat → O) (hs : 0 < len → ∃ b off, ao = some ⟨b, off, none⟩ ∧ Scr w b off len s) :
    Calls Try.prog 8 #[.slice ao len cap, .int .i64 lo, .int .i64 hi] w fun e w' => e = .returned (.bool true) ∧ Below w.heap.size w w' := by
  have hf := fits_any ao len cap (by omega) w
  rw [show decide ((len : Int) ≤ 5000) = true by simp; omega] at hf
  have HS := show Hid (0 < len → ∃ b off, ao = some ⟨b, off, none⟩ ∧ Scr w b off len s) from hs
  clear hs
  go_enter Try.func8, Try.ntmps8
  go_wp2_with fail
  refine hf.mono ?_
  rintro e w0 ⟨rfl, rfl⟩
  clear hf
  go_wp2_with fail
  refine (alive_any _).mono ?_
  rintro e w1 ⟨rfl, hb1⟩
  go_wp2_with fail
  refine (made_any _).mono ?_
  rintro e w2 ⟨rfl, hP, hb2, hs2⟩
  obtain ⟨p, hp⟩ : ∃ p, p = w1.heap.size + 1 + 1 + 1 + 1 := ⟨_, rfl⟩
  rw [← hp]
  have HP := show Hid (PS w2 w1.heap.size (SP.new w1.heap.size) 0) from hP _ (Nat.le_refl _)
  have HPP := show Hid ((SP.new w1.heap.size).p = p) from by rw [hp]; rfl
  have HB := show Hid (Below w0.heap.size w0 w2) from hb1.trans (hb2.mono hb1.size)
  have hsz := hb1.size
  clear hP hp
  go_wp2_with fail
  go_loopw [9, 10] (fun ok jv wr => ∃ (j : Nat) (S' : SP), j ≤ len ∧ jv = .int .i64 j ∧ ok = .bool true ∧ Goes w2 wr w1.heap.size (SP.new w1.heap.size) S' j) (fun _ jv _ => len - (intOf jv).toNat)
  case atStart => exact ⟨0, _, by omega, rfl, rfl, Goes.start HP.out⟩
  case round =>
    obtain ⟨j, S', hj, rfl, rfl, hG⟩ := hrel
    have hBr : w1.heap.size ≤ wr.heap.size := Nat.le_trans hb2.size hG.o.size
    have HG := show Hid _ from hG
    clear hG
    by_cases hlt : j < len
    · obtain ⟨b, off, rfl, hsc⟩ := HS.out (by omega)
      have hlb := hsc.lt
      have hS2 : Scr w2 b off len s := hsc.block (HB.out.block b hlb)
      have hS := HG.out.scr hS2 (fun h => by have := (HP.out.lt _ h).1; omega)
      obtain ⟨q0, q1, q2, q3, q4, q5⟩ := hS.c j hlt
      have hpl := plays_any wr HG.out.ps hBr (by omega) (s j).k (s j).who (s j).near (s j).a (s j).i (s j).v (hS.ok j hlt)
      rw [HG.out.p, HPP.out] at hpl
      clear hS hS2 hsc
      generalize (s j).k = a0 at *
      generalize (s j).who = a1 at *
      generalize (s j).near = a2 at *
      generalize (s j).a = a3 at *
      generalize (s j).i = a4 at *
      generalize (s j).v = a5 at *
      by_cases hk1 : a0 ≤ 2
      · go_wp2_with fail
        refine hpl.mono ?_
        rintro e w3 ⟨rfl, S3, hG3⟩
        clear hpl
        go_wp2_with fail
        go_roundw
        case rel => exact ⟨j + 1, S3, by omega, by go_num, rfl, HG.out.trans hG3⟩
        case measure => simp [intOf]; omega
      by_cases hk2 : lo ≤ a0
      · by_cases hk3 : a0 ≤ hi
        · go_wp2_with fail
          refine hpl.mono ?_
          rintro e w3 ⟨rfl, S3, hG3⟩
          clear hpl
          go_wp2_with fail
          go_roundw
          case rel => exact ⟨j + 1, S3, by omega, by go_num, rfl, HG.out.trans hG3⟩
          case measure => simp [intOf]; omega
        · clear hpl
          go_wp2_with fail
          go_roundw
          case rel => exact ⟨j + 1, S', by omega, by go_num, rfl, HG.out.more (Nat.le_succ _)⟩
          case measure => simp [intOf]; omega
      · clear hpl
        go_wp2_with fail
        go_roundw
        case rel => exact ⟨j + 1, S', by omega, by go_num, rfl, HG.out.more (Nat.le_succ _)⟩
        case measure => simp [intOf]; omega
    · go_wp2_with fail
      go_ret
      exact ⟨rfl, HB.out.trans ((HG.out.below HP.out hb2.size).mono hsz)⟩

theorem makes_any (w : World) (ao : Option Addr) (len cap : Nat) (hcap : cap ≤ 9223372036854775807) (hlc : len ≤ cap) (s : Nat → O) (hs : 0 < len → ∃ b off, ao = some ⟨b, off, none⟩ ∧ Scr w b off len s) :
    Calls Try.prog 3 #[.slice ao len cap] w fun e w' => e = .returned (.bool true) ∧ Below w.heap.size w w' := by
  have hh : Calls Try.prog 8 #[.slice ao len cap, .int .i64 3, .int .i64 3] w fun e w' => e = .returned (.bool true) ∧ Below w.heap.size w w' := by
    by_cases h : len ≤ 5000
    · exact holds_any w ao len cap 3 3 h hcap hlc s hs
    · exact holds_long ao len cap 3 3 (by omega) (by omega) w
  clear hs
  go_enter Try.func3, Try.ntmps3
  go_wp2_with fail
  refine hh.mono ?_
  rintro e w1 ⟨rfl, hb⟩
  go_wp2_with fail
  go_ret
  exact ⟨rfl, hb⟩
theorem words2_any (w : World) (ao : Option Addr) (len cap : Nat) (hcap : cap ≤ 9223372036854775807) (hlc : len ≤ cap) (s : Nat → O) (hs : 0 < len → ∃ b off, ao = some ⟨b, off, none⟩ ∧ Scr w b off len s) :
    Calls Try.prog 4 #[.slice ao len cap] w fun e w' => e = .returned (.bool true) ∧ Below w.heap.size w w' := by
  have hh : Calls Try.prog 8 #[.slice ao len cap, .int .i64 4, .int .i64 4] w fun e w' => e = .returned (.bool true) ∧ Below w.heap.size w w' := by
    by_cases h : len ≤ 5000
    · exact holds_any w ao len cap 4 4 h hcap hlc s hs
    · exact holds_long ao len cap 4 4 (by omega) (by omega) w
  clear hs
  go_enter Try.func4, Try.ntmps4
  go_wp2_with fail
  refine hh.mono ?_
  rintro e w1 ⟨rfl, hb⟩
  go_wp2_with fail
  go_ret
  exact ⟨rfl, hb⟩
end Go.Proofs.Ytddcpbidlbiamaa
