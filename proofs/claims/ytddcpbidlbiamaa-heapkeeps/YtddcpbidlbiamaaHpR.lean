import Derived.Test.YtddcpbidlbiamaaHpO
set_option linter.unusedVariables false
set_option linter.unusedSimpArgs false
namespace Go.Proofs.Ytddcpbidlbiamaa
open Go.ChangeShapes Go.WideShapes Go.ChangeAt Go.RowKit

set_option maxHeartbeats 4000000 in
set_option maxRecDepth 100000 in
theorem get_case (w : World) {B S c} (H : PS w B S c) (hB : B ≤ w.heap.size) (hc : c < 1000000000) (who near oa i v : Int) (ho : O.Ok ⟨4, who, near, oa, i, v⟩) :
    Calls Try.prog 12 #[.pointer (some ⟨S.p, 0, none⟩), .agg #[.int .i64 4, .int .i64 who, .int .i64 near, .int .i64 oa, .int .i64 i, .int .i64 v]] w fun e w' => e = .returned (.bool true) ∧ ∃ S', Goes w w' B S S' (c + 1) := by
  have HP := show Hid (PS w B S c) from H
  have ad := show Hid (∀ w', PS w' B S c → Calls Try.prog 21 #[.pointer (some ⟨S.p, 0, none⟩), .agg #[.int .i64 4, .int .i64 who, .int .i64 near, .int .i64 oa, .int .i64 i, .int .i64 v]] w' fun e w'' => ∃ a, e = .returned (.int .i64 a) ∧ Fits a ∧ Below w'.heap.size w' w'') from fun w' h => address_any w' h (by omega) ⟨4, who, near, oa, i, v⟩ ho
  have fst := show Hid (∀ w1, Below (w.alloc (.cells #[.int .i64 4, .int .i64 who, .int .i64 near, .int .i64 oa, .int .i64 i, .int .i64 v] 30)).heap.size (w.alloc (.cells #[.int .i64 4, .int .i64 who, .int .i64 near, .int .i64 oa, .int .i64 i, .int .i64 v] 30)) w1 → PS w1 B S c ∧ Bx w1 S.p S.h S.r w.heap.size S.ad ⟨4, who, near, oa, i, v⟩ ∧ Below w.heap.size w w1) from fun w1 hb => Bx.first (o := ⟨4, who, near, oa, i, v⟩) (w1 := w1) H hb
  obtain ⟨foa, fi, fv, _⟩ := ho
  have foa := show Hid (Fits oa) from foa
  have fi := show Hid (Fits i) from fi
  have fv := show Hid (Fits v) from fv
  clear H
  go_enter Try.func12, Try.ntmps12
  go_wp2_with fail
  refine (ad.out (w.alloc (.cells #[.int .i64 4, .int .i64 who, .int .i64 near, .int .i64 oa, .int .i64 i, .int .i64 v] 30)) (HP.out.keep ((Below.refl _ _).alloc (Nat.le_refl _) _))).mono ?_
  rintro e w1 ⟨a, rfl, fa, hb⟩
  have fa := show Hid (Fits a) from fa
  obtain ⟨H1, hB1, hb1⟩ := fst.out w1 hb
  obtain ⟨p0, p1, p2, o0, o3, o4, o5⟩ := hB1.cells
  simp only at o0 o3 o4 o5
  clear fst ad hb
  have HB := show Hid (B ≤ w1.heap.size) from Nat.le_trans hB hb1.size
  have hbo : w.heap.size < w1.heap.size := (Array.getElem?_eq_some_iff.1 hB1.ob).1
  have hgo : ∃ (x : Int) (y : Bool), (Calls Try.prog 18 #[.pointer (some ⟨S.h, 0, none⟩), .int .i64 a, .int .i64 i] w1.drew fun e w' => e = .returned (.tuple #[.int .i64 x, .bool y]) ∧ w' = w1.drew) ∧ (Calls Try.prog 25 #[.pointer (some ⟨S.r, 0, none⟩), .int .i64 a, .int .i64 i] w1.drew.drew fun e w' => e = .returned (.tuple #[.int .i64 x, .bool y]) ∧ w' = w1.drew.drew) := by
    have Hc := H1.ch.move (w' := w1.drew) (fun _ _ => rfl)
    have Hr := H1.rh.move (w' := w1.drew.drew) (fun _ _ => rfl)
    by_cases hin : inB (lnOf S.L) a i
    · rcases at_or S.L a with ⟨k, hk, ha⟩ | hno
      · subst ha
        have h2 := (inB_some H1.wd.lay hk i).1 hin
        refine ⟨_, true, get_yes _ Hc _ i fa.out fi.out hin, ?_⟩
        rw [← H1.wd.wd _ (List.getElem_mem hk) i h2.1 h2.2]
        exact rget_yes _ Hr H1.wd.lay (by omega) k hk (H1.wd.e _ (List.getElem_mem hk)) i h2.1 h2.2
      · exact absurd hin (inB_none hno i)
    · exact ⟨0, false, get_no _ Hc a i fa.out fi.out hin, rget_no _ Hr H1.wd.lay (by omega) a i hin⟩
  obtain ⟨x, y, g1, g2⟩ := hgo
  clear H1 hB1
  go_wp2_with fail
  go_region_held (fun w' => w'.cell? ⟨S.p, 0, none⟩ = some (.pointer (some ⟨S.h, 0, none⟩)) ∧ w'.cell? ⟨w.heap.size, 4, none⟩ = some (.int .i64 i)) (refine ⟨?_, ?_⟩ <;> repeat (first | with_reducible exact p0 | with_reducible exact p1 | with_reducible exact o3 | with_reducible exact o4 | with_reducible exact o5 | with_reducible refine cellD ?_))
      (first | (go_at_call 18; refine g1.mono ?_; rintro e w2 ⟨rfl, rfl⟩))
  go_wp2_with fail
  go_region_held (fun w' => w'.cell? ⟨S.p, 1, none⟩ = some (.pointer (some ⟨S.r, 0, none⟩)) ∧ w'.cell? ⟨w.heap.size, 4, none⟩ = some (.int .i64 i)) (refine ⟨?_, ?_⟩ <;> repeat (first | with_reducible exact p0 | with_reducible exact p1 | with_reducible exact o3 | with_reducible exact o4 | with_reducible exact o5 | with_reducible refine cellD ?_))
      (first | (go_at_call 25; refine g2.mono ?_; rintro e w2 ⟨rfl, rfl⟩))
  go_wp2_with fail
  all_goals
    go_ret
    exact ⟨by simp, S, HP.out.same (hb1.drew.drew)⟩
end Go.Proofs.Ytddcpbidlbiamaa
