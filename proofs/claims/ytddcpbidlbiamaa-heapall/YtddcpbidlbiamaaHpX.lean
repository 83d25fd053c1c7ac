import Derived.Test.YtddcpbidlbiamaaHpV
set_option linter.unusedVariables false
set_option linter.unusedSimpArgs false
namespace Go.Proofs.Ytddcpbidlbiamaa
open Go.ChangeShapes Go.WideShapes Go.ChangeAt Go.RowKit

/-- Two pairs side by side. -/
structure Two (w wr : World) (B : Nat) (P Q : SP) (p q c : Nat) : Prop where
  a : PS wr B P c
  b : PS wr B Q c
  p : P.p = p
  q : Q.p = q
  d : ∀ k, Foot P k → ¬ Foot Q k
  bel : Below B w wr
theorem Two.left {w wr w' B P P' Q p q c} (h : Two w wr B P Q p q c) (hB : B ≤ wr.heap.size) (g : Goes wr w' B P P' (c + 1)) : Two w w' B P' Q p q (c + 1) := by
  refine ⟨g.ps, (h.b.move fun k hk => g.o.block k (h.b.lt k hk).2 (fun hp => h.d k hp hk)).mono (Nat.le_succ _), g.p.trans h.p, h.q, fun k hk hq => ?_, h.bel.trans (g.below h.a hB)⟩
  rcases g.f k hk with h1 | h1
  · exact h.d k h1 hq
  · have := (h.b.lt k hq).2; omega
theorem Two.right {w wr w' B P Q Q' p q c} (h : Two w wr B P Q p q c) (hB : B ≤ wr.heap.size) (g : Goes wr w' B Q Q' (c + 1)) : Two w w' B P Q' p q (c + 1) := by
  refine ⟨(h.a.move fun k hk => g.o.block k (h.a.lt k hk).2 (fun hp => h.d k hk hp)).mono (Nat.le_succ _), g.ps, h.p, g.p.trans h.q, fun k hk hq => ?_, h.bel.trans (g.below h.b hB)⟩
  rcases g.f k hq with h1 | h1
  · exact h.d k hk h1
  · have := (h.a.lt k hk).2; omega

theorem all_long (a : Option Addr) (len cap : Nat) (h : 5000 < len) (hl : len ≤ 9223372036854775807) (w : World) : Calls Try.prog 5 #[.slice a len cap] w fun e w' => e = .returned (.bool true) ∧ Below w.heap.size w w' := by
  have hf := fits_any a len cap hl w
  rw [show decide ((len : Int) ≤ 5000) = false by simp; omega] at hf
  go_enter Try.func5, Try.ntmps5
  go_wp2_with fail
  refine hf.mono ?_
  rintro e w1 ⟨rfl, rfl⟩
  go_wp2_with fail
  go_ret
  exact ⟨rfl, Below.refl _ _⟩

set_option maxHeartbeats 4000000 in
set_option maxRecDepth 100000 in
theorem all_short (w : World) (ao : Option Addr) (len cap : Nat) (hl : len ≤ 5000) (hcap : cap ≤ 9223372036854775807) (hlc : len ≤ cap) (s : Nat → O) (hs : 0 < len → ∃ b off, ao = some ⟨b, off, none⟩ ∧ Scr w b off len s) :
    Calls Try.prog 5 #[.slice ao len cap] w fun e w' => e = .returned (.bool true) ∧ Below w.heap.size w w' := by
  have hf := fits_any ao len cap (by omega) w
  rw [show decide ((len : Int) ≤ 5000) = true by simp; omega] at hf
  have HS := show Hid (0 < len → ∃ b off, ao = some ⟨b, off, none⟩ ∧ Scr w b off len s) from hs
  clear hs
  go_enter Try.func5, Try.ntmps5
  go_wp2_with fail
  refine hf.mono ?_
  rintro e w0 ⟨rfl, rfl⟩
  clear hf
  go_wp2_with fail
  refine (alive_any _).mono ?_
  rintro e w1 ⟨rfl, hb1⟩
  go_wp2_with fail
  refine (made_any _).mono ?_
  rintro e w2 ⟨rfl, hP, hb2, hs2⟩
  obtain ⟨p, hp⟩ : ∃ p, p = w1.heap.size + 1 + 1 + 1 + 1 := ⟨_, rfl⟩
  rw [← hp]
  have HPP := show Hid (p = w1.heap.size + 1 + 1 + 1 + 1) from hp
  clear hp
  go_wp2_with fail
  refine (made_any _).mono ?_
  rintro e w3 ⟨rfl, hQ, hb3, hs3⟩
  obtain ⟨q, hq⟩ : ∃ q, q = w2.heap.size + 1 + 1 + 1 + 1 := ⟨_, rfl⟩
  rw [← hq]
  have h2 := hP w1.heap.size (Nat.le_refl _)
  have HT : Hid (Two w1 w3 w1.heap.size (SP.new w1.heap.size) (SP.new w2.heap.size) p q 0) := ⟨h2.keep hb3, hQ _ hb2.size, by rw [HPP.out]; rfl, by rw [hq]; rfl, fun k hk hk2 => by
    have x1 := (h2.lt k hk).2
    have x2 := ((hQ w2.heap.size (Nat.le_refl _)).lt k hk2).1
    omega, hb2.trans (hb3.mono hb2.size)⟩
  have hsz := hb1.size
  have HB := show Hid (Below w0.heap.size w0 w1) from hb1
  clear hP hQ hq h2 hb3 hs3
  go_wp2_with fail
  go_loopw [5, 8] (fun ok jv wr => ∃ (j : Nat) (P Q : SP), j ≤ len ∧ jv = .int .i64 j ∧ ok = .bool true ∧ Two w1 wr w1.heap.size P Q p q j) (fun _ jv _ => len - (intOf jv).toNat)
  case atStart => exact ⟨0, _, _, by omega, rfl, rfl, HT.out⟩
  case round =>
    obtain ⟨j, P, Q, hj, rfl, rfl, hT⟩ := hrel
    have hBr : w1.heap.size ≤ wr.heap.size := hT.bel.size
    have HG := show Hid _ from hT
    clear hT
    by_cases hlt : j < len
    · obtain ⟨b, off, rfl, hsc⟩ := HS.out (by omega)
      have hlb := hsc.lt
      have hS1 : Scr w1 b off len s := hsc.block (HB.out.block b hlb)
      have hS := hS1.block (HG.out.bel.block b hS1.lt)
      obtain ⟨q0, q1, q2, q3, q4, q5⟩ := hS.c j hlt
      have hpl := plays_any wr HG.out.a hBr (by omega) (s j).k (s j).who (s j).near (s j).a (s j).i (s j).v (hS.ok j hlt)
      have hql := plays_any wr HG.out.b hBr (by omega) (s j).k (s j).who (s j).near (s j).a (s j).i (s j).v (hS.ok j hlt)
      rw [HG.out.p] at hpl
      rw [HG.out.q] at hql
      clear hS hS1 hsc
      generalize (s j).k = a0 at *
      generalize (s j).who = a1 at *
      generalize (s j).near = a2 at *
      generalize (s j).a = a3 at *
      generalize (s j).i = a4 at *
      generalize (s j).v = a5 at *
      by_cases hk1 : a1.tmod 2 = 0
      · clear hql
        go_wp2_with fail
        refine hpl.mono ?_
        rintro e w4 ⟨rfl, S4, hG4⟩
        clear hpl
        go_wp2_with fail
        go_roundw
        case rel => exact ⟨j + 1, S4, Q, by omega, by go_num, rfl, HG.out.left hBr hG4⟩
        case measure => simp [intOf]; omega
      · clear hpl
        go_wp2_with fail
        refine hql.mono ?_
        rintro e w4 ⟨rfl, S4, hG4⟩
        clear hql
        go_wp2_with fail
        go_roundw
        case rel => exact ⟨j + 1, P, S4, by omega, by go_num, rfl, HG.out.right hBr hG4⟩
        case measure => simp [intOf]; omega
    · go_wp2_with fail
      go_ret
      exact ⟨rfl, HB.out.trans (HG.out.bel.mono hsz)⟩
theorem all_any (w : World) (ao : Option Addr) (len cap : Nat) (hcap : cap ≤ 9223372036854775807) (hlc : len ≤ cap) (s : Nat → O) (hs : 0 < len → ∃ b off, ao = some ⟨b, off, none⟩ ∧ Scr w b off len s) :
    Calls Try.prog 5 #[.slice ao len cap] w fun e w' => e = .returned (.bool true) ∧ Below w.heap.size w w' := by
  by_cases h : len ≤ 5000
  · exact all_short w ao len cap h hcap hlc s hs
  · exact all_long ao len cap (by omega) (by omega) w
end Go.Proofs.Ytddcpbidlbiamaa
