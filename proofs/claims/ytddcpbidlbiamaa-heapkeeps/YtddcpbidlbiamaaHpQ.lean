import Derived.Test.YtddcpbidlbiamaaHpO
set_option linter.unusedVariables false
set_option linter.unusedSimpArgs false
namespace Go.Proofs.Ytddcpbidlbiamaa
open Go.ChangeShapes Go.WideShapes Go.ChangeAt Go.RowKit

set_option maxHeartbeats 4000000 in
set_option maxRecDepth 100000 in
theorem len_case (w : World) {B S c} (H : PS w B S c) (hB : B ≤ w.heap.size) (hc : c < 1000000000) (who near oa i v : Int) (ho : O.Ok ⟨3, who, near, oa, i, v⟩) :
    Calls Try.prog 12 #[.pointer (some ⟨S.p, 0, none⟩), .agg #[.int .i64 3, .int .i64 who, .int .i64 near, .int .i64 oa, .int .i64 i, .int .i64 v]] w fun e w' => e = .returned (.bool true) ∧ ∃ S', Goes w w' B S S' (c + 1) := by
  have HP := show Hid (PS w B S c) from H
  have ad := show Hid (∀ w', PS w' B S c → Calls Try.prog 21 #[.pointer (some ⟨S.p, 0, none⟩), .agg #[.int .i64 3, .int .i64 who, .int .i64 near, .int .i64 oa, .int .i64 i, .int .i64 v]] w' fun e w'' => ∃ a, e = .returned (.int .i64 a) ∧ Fits a ∧ Below w'.heap.size w' w'') from fun w' h => address_any w' h (by omega) ⟨3, who, near, oa, i, v⟩ ho
  have fst := show Hid (∀ w1, Below (w.alloc (.cells #[.int .i64 3, .int .i64 who, .int .i64 near, .int .i64 oa, .int .i64 i, .int .i64 v] 30)).heap.size (w.alloc (.cells #[.int .i64 3, .int .i64 who, .int .i64 near, .int .i64 oa, .int .i64 i, .int .i64 v] 30)) w1 → PS w1 B S c ∧ Bx w1 S.p S.h S.r w.heap.size S.ad ⟨3, who, near, oa, i, v⟩ ∧ Below w.heap.size w w1) from fun w1 hb => Bx.first (o := ⟨3, who, near, oa, i, v⟩) (w1 := w1) H hb
  obtain ⟨foa, fi, fv, _⟩ := ho
  have foa := show Hid (Fits oa) from foa
  have fi := show Hid (Fits i) from fi
  have fv := show Hid (Fits v) from fv
  clear H
  go_enter Try.func12, Try.ntmps12
  go_wp2_with fail
  refine (ad.out (w.alloc (.cells #[.int .i64 3, .int .i64 who, .int .i64 near, .int .i64 oa, .int .i64 i, .int .i64 v] 30)) (HP.out.keep ((Below.refl _ _).alloc (Nat.le_refl _) _))).mono ?_
  rintro e w1 ⟨a, rfl, fa, hb⟩
  have fa := show Hid (Fits a) from fa
  obtain ⟨H1, hB1, hb1⟩ := fst.out w1 hb
  obtain ⟨p0, p1, p2, o0, o3, o4, o5⟩ := hB1.cells
  simp only at o0 o3 o4 o5
  clear fst ad hb
  have HB := show Hid (B ≤ w1.heap.size) from Nat.le_trans hB hb1.size
  have hbo : w.heap.size < w1.heap.size := (Array.getElem?_eq_some_iff.1 hB1.ob).1
  by_cases h0 : a = 0
  · subst h0
    have hw := len_zero w1 S.h
    have hrw := rlen_zero w1 S.r
    clear H1 hB1
    go_wp2_with (first | (go_at_call 17; refine hw.mono ?_; rintro e w' ⟨rfl, rfl⟩) | (go_at_call 24; refine hrw.mono ?_; rintro e w' ⟨rfl, rfl⟩))
    go_ret
    exact ⟨by simp, S, HP.out.same hb1⟩
  · have hw := len_any w1 H1.ch a fa.out h0
    have hrw := rlen_any w1 H1.rh H1.wd.lay (by omega) a h0
    clear H1 hB1
    generalize (lnOf S.L a).getD 0 = x at hw hrw
    generalize (lnOf S.L a).isSome = y at hw hrw
    go_wp2_with (first | (go_at_call 17; refine hw.mono ?_; rintro e w' ⟨rfl, rfl⟩) | (go_at_call 24; refine hrw.mono ?_; rintro e w' ⟨rfl, rfl⟩))
    all_goals
      go_ret
      exact ⟨by simp, S, HP.out.same hb1⟩
end Go.Proofs.Ytddcpbidlbiamaa
