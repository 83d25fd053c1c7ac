import Derived.Test.YtddcpbidlbiamaaHpO
set_option linter.unusedVariables false
set_option linter.unusedSimpArgs false
namespace Go.Proofs.Ytddcpbidlbiamaa
open Go.ChangeShapes Go.WideShapes Go.ChangeAt Go.RowKit

set_option maxHeartbeats 4000000 in
set_option maxRecDepth 100000 in
theorem words_case (w : World) {B S c} (H : PS w B S c) (hB : B ≤ w.heap.size) (hc : c < 1000000000) (who near oa i v : Int) (ho : O.Ok ⟨5, who, near, oa, i, v⟩) :
    Calls Try.prog 12 #[.pointer (some ⟨S.p, 0, none⟩), .agg #[.int .i64 5, .int .i64 who, .int .i64 near, .int .i64 oa, .int .i64 i, .int .i64 v]] w fun e w' => e = .returned (.bool true) ∧ ∃ S', Goes w w' B S S' (c + 1) := by
  have HP := show Hid (PS w B S c) from H
  have ad := show Hid (∀ w', PS w' B S c → Calls Try.prog 21 #[.pointer (some ⟨S.p, 0, none⟩), .agg #[.int .i64 5, .int .i64 who, .int .i64 near, .int .i64 oa, .int .i64 i, .int .i64 v]] w' fun e w'' => ∃ a, e = .returned (.int .i64 a) ∧ Fits a ∧ Below w'.heap.size w' w'') from fun w' h => address_any w' h (by omega) ⟨5, who, near, oa, i, v⟩ ho
  have fst := show Hid (∀ w1, Below (w.alloc (.cells #[.int .i64 5, .int .i64 who, .int .i64 near, .int .i64 oa, .int .i64 i, .int .i64 v] 30)).heap.size (w.alloc (.cells #[.int .i64 5, .int .i64 who, .int .i64 near, .int .i64 oa, .int .i64 i, .int .i64 v] 30)) w1 → PS w1 B S c ∧ Bx w1 S.p S.h S.r w.heap.size S.ad ⟨5, who, near, oa, i, v⟩ ∧ Below w.heap.size w w1) from fun w1 hb => Bx.first (o := ⟨5, who, near, oa, i, v⟩) (w1 := w1) H hb
  obtain ⟨foa, fi, fv, _⟩ := ho
  have foa := show Hid (Fits oa) from foa
  have fi := show Hid (Fits i) from fi
  have fv := show Hid (Fits v) from fv
  clear H
  go_enter Try.func12, Try.ntmps12
  go_wp2_with fail
  refine (ad.out (w.alloc (.cells #[.int .i64 5, .int .i64 who, .int .i64 near, .int .i64 oa, .int .i64 i, .int .i64 v] 30)) (HP.out.keep ((Below.refl _ _).alloc (Nat.le_refl _) _))).mono ?_
  rintro e w1 ⟨a, rfl, fa, hb⟩
  have fa := show Hid (Fits a) from fa
  obtain ⟨H1, hB1, hb1⟩ := fst.out w1 hb
  obtain ⟨p0, p1, p2, o0, o3, o4, o5⟩ := hB1.cells
  simp only at o0 o3 o4 o5
  clear fst ad hb
  have HB := show Hid (B ≤ w1.heap.size) from Nat.le_trans hB hb1.size
  have hbo : w.heap.size < w1.heap.size := (Array.getElem?_eq_some_iff.1 hB1.ob).1
  have hw := words_any w1.drew (H1.ch.move (fun _ _ => rfl))
  have hrw := rwords_any w1.drew (H1.rh.move (fun _ _ => rfl))
  clear H1 hB1
  go_wp2_with fail
  go_region_held (fun w' => w'.cell? ⟨S.p, 0, none⟩ = some (.pointer (some ⟨S.h, 0, none⟩)) ∧ w'.cell? ⟨S.p, 1, none⟩ = some (.pointer (some ⟨S.r, 0, none⟩))) (refine ⟨?_, ?_⟩ <;> repeat (first | with_reducible exact p0 | with_reducible exact p1 | with_reducible refine cellD ?_))
    (first | (go_at_call 19; refine hw.mono ?_; rintro e w' ⟨rfl, rfl⟩) | (go_at_call 26; refine hrw.mono ?_; rintro e w' ⟨rfl, rfl⟩))
  all_goals
    go_wp2_with fail
    go_ret
    exact ⟨by simp, S, HP.out.same hb1.drew⟩

set_option maxHeartbeats 4000000 in
set_option maxRecDepth 100000 in
theorem other_case (w : World) {B S c} (H : PS w B S c) (hB : B ≤ w.heap.size) (hc : c < 1000000000) (k : Int) (who near oa i v : Int) (ho : O.Ok ⟨k, who, near, oa, i, v⟩) (h1 : ¬ k = 1) (h2 : ¬ k = 2) (h3 : ¬ k = 3) (h4 : ¬ k = 4) (h5 : ¬ k = 5) :
    Calls Try.prog 12 #[.pointer (some ⟨S.p, 0, none⟩), .agg #[.int .i64 k, .int .i64 who, .int .i64 near, .int .i64 oa, .int .i64 i, .int .i64 v]] w fun e w' => e = .returned (.bool true) ∧ ∃ S', Goes w w' B S S' (c + 1) := by
  have HP := show Hid (PS w B S c) from H
  have ad := show Hid (∀ w', PS w' B S c → Calls Try.prog 21 #[.pointer (some ⟨S.p, 0, none⟩), .agg #[.int .i64 k, .int .i64 who, .int .i64 near, .int .i64 oa, .int .i64 i, .int .i64 v]] w' fun e w'' => ∃ a, e = .returned (.int .i64 a) ∧ Fits a ∧ Below w'.heap.size w' w'') from fun w' h => address_any w' h (by omega) ⟨k, who, near, oa, i, v⟩ ho
  have fst := show Hid (∀ w1, Below (w.alloc (.cells #[.int .i64 k, .int .i64 who, .int .i64 near, .int .i64 oa, .int .i64 i, .int .i64 v] 30)).heap.size (w.alloc (.cells #[.int .i64 k, .int .i64 who, .int .i64 near, .int .i64 oa, .int .i64 i, .int .i64 v] 30)) w1 → PS w1 B S c ∧ Bx w1 S.p S.h S.r w.heap.size S.ad ⟨k, who, near, oa, i, v⟩ ∧ Below w.heap.size w w1) from fun w1 hb => Bx.first (o := ⟨k, who, near, oa, i, v⟩) (w1 := w1) H hb
  obtain ⟨foa, fi, fv, _⟩ := ho
  have foa := show Hid (Fits oa) from foa
  have fi := show Hid (Fits i) from fi
  have fv := show Hid (Fits v) from fv
  clear H
  go_enter Try.func12, Try.ntmps12
  go_wp2_with fail
  refine (ad.out (w.alloc (.cells #[.int .i64 k, .int .i64 who, .int .i64 near, .int .i64 oa, .int .i64 i, .int .i64 v] 30)) (HP.out.keep ((Below.refl _ _).alloc (Nat.le_refl _) _))).mono ?_
  rintro e w1 ⟨a, rfl, fa, hb⟩
  have fa := show Hid (Fits a) from fa
  obtain ⟨H1, hB1, hb1⟩ := fst.out w1 hb
  obtain ⟨p0, p1, p2, o0, o3, o4, o5⟩ := hB1.cells
  simp only at o0 o3 o4 o5
  clear fst ad hb
  have HB := show Hid (B ≤ w1.heap.size) from Nat.le_trans hB hb1.size
  have hbo : w.heap.size < w1.heap.size := (Array.getElem?_eq_some_iff.1 hB1.ob).1
  have g1 : (k == 1) = false := by simpa using h1
  have g2 : (k == 2) = false := by simpa using h2
  have g3 : (k == 3) = false := by simpa using h3
  have g4 : (k == 4) = false := by simpa using h4
  have g5 : (k == 5) = false := by simpa using h5
  clear H1 hB1
  go_wp2_with fail
  go_ret
  exact ⟨rfl, S, HP.out.same hb1⟩
end Go.Proofs.Ytddcpbidlbiamaa
