import Derived.Test.YtdoiblknbpbhaaaMwE
set_option linter.unusedVariables false
set_option linter.unusedSimpArgs false
namespace Go.Proofs.Ytdoiblknbpbhaaa
open Go.ChangeShapes Go.WideShapes Go.ChangeAt Go.RowKit Go.Maps

set_option maxHeartbeats 1000000 in
/-- A list is the same as itself; nothing is written. -/
theorem sameM_self (w : World) (a1 a2 : Option Addr) (c1 c2 n : Nat) (L : List Mv) (hn : n = L.length) (h1 : Mvs w a1 c1 L) (h2 : Mvs w a2 c2 L) :
    Calls Try.prog 13 #[.slice a1 n c1, .slice a2 n c2] w fun e w' => e = .returned (.bool true) ∧ ∃ m, w' = w.drewN m := by
  have b1 : n ≤ 9223372036854775807 := by have := h1.le; have := h1.mx; omega
  have HN : Hid (n = L.length) := hn
  have H1 : Hid (Mvs w a1 c1 L) := h1
  have H2 : Hid (Mvs w a2 c2 L) := h2
  clear hn h1 h2
  go_enter Try.func13, Try.ntmps13
  go_wp2_with fail
  go_loopg [5] n (fun q v wr => ∃ j : Nat, j ≤ n ∧ q = n - j ∧ v = .int .i64 j ∧ Hid (∃ m, wr = w.drewN m))
  case atStart => exact ⟨0, by omega, by omega, rfl, 0, rfl⟩
  case round =>
    obtain ⟨j, hj, rfl, rfl, HB⟩ := hrel
    by_cases hlt : j < n
    · have hj1 : j < L.length := by have := HN.out; omega
      have hb : Below w.heap.size w wr := by obtain ⟨m, e⟩ := HB.out; rw [e]; exact below_drewN (Below.refl _ _) m
      obtain ⟨g1, o1, rfl, _, c0, c1, c2, c3⟩ := (H1.out.below hb (Nat.le_refl _)).at hj1
      obtain ⟨g2, o2, rfl, _, d0, d1, d2, d3⟩ := (H2.out.below hb (Nat.le_refl _)).at hj1
      generalize L[j] = m at c0 c1 c2 c3 d0 d1 d2 d3
      obtain ⟨⟨m1, m2⟩, ⟨m3, m4⟩⟩ := m
      simp only at c0 c1 c2 c3 d0 d1 d2 d3
      have HNX : Hid (∀ q, ∃ m, wr.drewN q = w.drewN m) := fun q => by
        obtain ⟨m, e⟩ := HB.out
        exact ⟨m + q, by rw [e]; simp⟩
      clear hb
      go_wp2_with fail
      go_quiet (fail)
      go_wp2_with fail
      go_roundg (n - (j + 1))
      case rel => exact ⟨j + 1, by omega, rfl, by go_num, HNX.out _⟩
      case measure => omega
    · go_wp2_with fail
      go_ret
      exact ⟨rfl, HB.out⟩
/-- Lists that wait: each in a row of its own. -/
structure PL (w : World) (B : Nat) (vs : List Value) (Ts : List (List Mv)) : Prop where
  len : vs.length = Ts.length
  own : ∀ i, i < vs.length → OwnM w B (vs.getD i vn0) (Ts.getD i []).length (Ts.getD i [])
  ne : ∀ i j, i < vs.length → j < vs.length → i ≠ j → ∀ g, (vs.getD i vn0).ownBlock = some g → (vs.getD j vn0).ownBlock ≠ some g
theorem PL.move {w w' : World} {B vs Ts} (h : PL w B vs Ts) (hk : ∀ i, i < vs.length → ∀ g, (vs.getD i vn0).ownBlock = some g → w'.heap[g]? = w.heap[g]?) : PL w' B vs Ts :=
  ⟨h.len, fun i hi => (h.own i hi).move (hk i hi), h.ne⟩
theorem PL.nil (w : World) (B : Nat) : PL w B [] [] := ⟨rfl, fun i hi => by simp at hi, fun i j hi => by simp at hi⟩
/-- The late keep, in memory. -/
structure KW (w : World) (B kb : Nat) (lv wv : Value) (vs us : List Value) (Ts : List (List Mv)) : Prop where
  box : w.heap[kb]? = some (.cells #[.bool true, lv, wv, .slice none 0 0] 48 (0, 0))
  lo : B ≤ kb
  l : OwnV w B lv vs
  wl : OwnV w B wv us
  p : PL w B vs Ts
  lu : us.length = Ts.length
  u : ∀ i, i < us.length → OwnM w B (us.getD i vn0) (Ts.getD i []).length (Ts.getD i [])
  lw : ∀ g, lv.ownBlock = some g → wv.ownBlock ≠ some g
theorem KW.keep {w w' : World} {B kb lv wv vs us Ts} (h : KW w B kb lv wv vs us Ts) (hb : Below w.heap.size w w') : KW w' B kb lv wv vs us Ts :=
  ⟨(hb.block kb (Array.getElem?_eq_some_iff.1 h.box).1).trans h.box, h.lo, h.l.move fun g hg => hb.block g (own_block h.l.out hg).2, h.wl.move fun g hg => hb.block g (own_block h.wl.out hg).2, h.p.move fun i hi g hg => hb.block g (own_block (h.p.own i hi).out hg).2, h.lu, fun i hi => (h.u i hi).keep hb, h.lw⟩
end Go.Proofs.Ytdoiblknbpbhaaa
