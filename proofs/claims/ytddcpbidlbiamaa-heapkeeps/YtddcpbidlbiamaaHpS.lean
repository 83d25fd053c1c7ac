import Derived.Test.YtddcpbidlbiamaaHpO
set_option linter.unusedVariables false
set_option linter.unusedSimpArgs false
namespace Go.Proofs.Ytddcpbidlbiamaa
open Go.ChangeShapes Go.WideShapes Go.ChangeAt Go.RowKit

set_option maxHeartbeats 4000000 in
set_option maxRecDepth 100000 in
theorem set_case (w : World) {B S c} (H : PS w B S c) (hB : B ≤ w.heap.size) (hc : c < 1000000000) (who near oa i v : Int) (ho : O.Ok ⟨2, who, near, oa, i, v⟩) :
    Calls Try.prog 12 #[.pointer (some ⟨S.p, 0, none⟩), .agg #[.int .i64 2, .int .i64 who, .int .i64 near, .int .i64 oa, .int .i64 i, .int .i64 v]] w fun e w' => e = .returned (.bool true) ∧ ∃ S', Goes w w' B S S' (c + 1) := by
  have HP := show Hid (PS w B S c) from H
  have ad := show Hid (∀ w', PS w' B S c → Calls Try.prog 21 #[.pointer (some ⟨S.p, 0, none⟩), .agg #[.int .i64 2, .int .i64 who, .int .i64 near, .int .i64 oa, .int .i64 i, .int .i64 v]] w' fun e w'' => ∃ a, e = .returned (.int .i64 a) ∧ Fits a ∧ Below w'.heap.size w' w'') from fun w' h => address_any w' h (by omega) ⟨2, who, near, oa, i, v⟩ ho
  have fst := show Hid (∀ w1, Below (w.alloc (.cells #[.int .i64 2, .int .i64 who, .int .i64 near, .int .i64 oa, .int .i64 i, .int .i64 v] 30)).heap.size (w.alloc (.cells #[.int .i64 2, .int .i64 who, .int .i64 near, .int .i64 oa, .int .i64 i, .int .i64 v] 30)) w1 → PS w1 B S c ∧ Bx w1 S.p S.h S.r w.heap.size S.ad ⟨2, who, near, oa, i, v⟩ ∧ Below w.heap.size w w1) from fun w1 hb => Bx.first (o := ⟨2, who, near, oa, i, v⟩) (w1 := w1) H hb
  obtain ⟨foa, fi, fv, _⟩ := ho
  have foa := show Hid (Fits oa) from foa
  have fi := show Hid (Fits i) from fi
  have fv := show Hid (Fits v) from fv
  clear H
  go_enter Try.func12, Try.ntmps12
  go_wp2_with fail
  refine (ad.out (w.alloc (.cells #[.int .i64 2, .int .i64 who, .int .i64 near, .int .i64 oa, .int .i64 i, .int .i64 v] 30)) (HP.out.keep ((Below.refl _ _).alloc (Nat.le_refl _) _))).mono ?_
  rintro e w1 ⟨a, rfl, fa, hb⟩
  have fa := show Hid (Fits a) from fa
  obtain ⟨H1, hB1, hb1⟩ := fst.out w1 hb
  obtain ⟨p0, p1, p2, o0, o3, o4, o5⟩ := hB1.cells
  simp only at o0 o3 o4 o5
  clear fst ad hb
  have HB := show Hid (B ≤ w1.heap.size) from Nat.le_trans hB hb1.size
  have hbo : w.heap.size < w1.heap.size := (Array.getElem?_eq_some_iff.1 hB1.ob).1
  by_cases hin : inB (lnOf S.L) a i
  · obtain ⟨k, hk, ha⟩ : ∃ k, ∃ hk : k < S.L.length, (S.L[k]).a = a := (at_or S.L a).elim id (fun hno => absurd hin (inB_none hno i))
    have h2 : 0 ≤ i ∧ i < (S.L[k]).n := by
      rw [← ha] at hin
      exact (inB_some H1.wd.lay hk i).1 hin
    have g1 := set_yes w1.drew (H1.ch.move (fun _ _ => rfl)) hc a i v fa.out fi.out fv.out hin
    have HH1 := show Hid (PS w1.drew B S c) from H1.move (fun _ _ => rfl)
    have HB1 := show Hid (Bx w1.drew S.p S.h S.r w.heap.size S.ad ⟨2, who, near, oa, i, v⟩) from ⟨hB1.pb, hB1.ob⟩
    have G2 := show Hid (∀ w2, Only (CF S.h S.m S.n) w1.drew w2 → Bx w2 S.p S.h S.r w.heap.size S.ad ⟨2, who, near, oa, i, v⟩ ∧ Calls Try.prog 23 #[.pointer (some ⟨S.r, 0, none⟩), .int .i64 a, .int .i64 i, .int .i64 v] w2.drew fun e w' => e = .returned (.bool true) ∧ ∃ x, Sets w2.drew w' B S.r S.tk S.v S.L c k S.L[k] i v x) from fun w2 hO => by
      obtain ⟨b1, r1, a1⟩ := HH1.out.s1 hO
      refine ⟨⟨b1, (hO.block _ (by simpa using hbo) (fun h => ?_)).trans HB1.out.ob⟩, rset_yes w2.drew (r1.move (fun _ _ => rfl)) H1.wd.lay (Nat.le_trans HB.out hO.size) (by omega) k hk (H1.wd.e _ (List.getElem_mem hk)) a i v ha h2.1 h2.2⟩
      have := (HP.out.lt _ (.inr (.inl h))).2
      omega
    have G3 := show Hid (∀ w2 w3 x, CH w2 S.h S.m S.n S.tk (lnOf S.L) (upd S.f (a + 1 + i) v) (c + 1) → Only (CF S.h S.m S.n) w1.drew w2 → Sets w2.drew w3 B S.r S.tk S.v S.L c k S.L[k] i v x → Bx w3 S.p S.h S.r w.heap.size S.ad ⟨2, who, near, oa, i, v⟩ ∧ ∃ S', Goes w w3 B S S' (c + 1)) from fun w2 w3 x hC hO hS => by
      obtain ⟨B2, _⟩ := G2.out w2 hO
      obtain ⟨b1, r1, a1⟩ := HH1.out.s1 hO
      have hg := PS.set (w1 := w2.drew) (w2 := w3) HH1.out hk i v h2.1 h2.2 (by rw [ha]; exact hC.move (w' := w2.drew) (fun _ _ => rfl)) ⟨hO.os, hO.tape, hO.output, hO.size, hO.block⟩ hS
      refine ⟨⟨hg.ps.box, (hS.o.block _ (Array.getElem?_eq_some_iff.1 B2.ob).1 (fun h => ?_)).trans B2.ob⟩, _, hg.pre (w0 := w) hb1.drew (fun q hq => (HP.out.lt q hq).2)⟩
      have := (HP.out.lt _ (.inr (.inr (.inl h)))).2
      omega
    clear H1 hB1 HH1 HB1 hin ha h2
    go_wp2_with fail
    go_region_held (fun w' => w'.cell? ⟨S.p, 0, none⟩ = some (.pointer (some ⟨S.h, 0, none⟩)) ∧ w'.cell? ⟨w.heap.size, 4, none⟩ = some (.int .i64 i) ∧ w'.cell? ⟨w.heap.size, 5, none⟩ = some (.int .i64 v)) (refine ⟨?_, ?_, ?_⟩ <;> repeat (first | with_reducible exact p0 | with_reducible exact p1 | with_reducible exact o4 | with_reducible exact o5 | with_reducible exact q0 | with_reducible exact q1 | with_reducible exact r4 | with_reducible exact r5 | with_reducible exact s1 | with_reducible exact t4 | with_reducible exact t5 | with_reducible refine cellD ?_))
      (first | (go_at_call 16; refine g1.mono ?_; rintro e w2 ⟨rfl, hC, hO⟩
                obtain ⟨B2, g2⟩ := G2.out w2 hO
                obtain ⟨q0, q1, _, _, _, r4, r5⟩ := B2.cells))
    go_wp2_with fail
    go_region_held (fun w' => w'.cell? ⟨S.p, 1, none⟩ = some (.pointer (some ⟨S.r, 0, none⟩)) ∧ w'.cell? ⟨w.heap.size, 4, none⟩ = some (.int .i64 i) ∧ w'.cell? ⟨w.heap.size, 5, none⟩ = some (.int .i64 v)) (refine ⟨?_, ?_, ?_⟩ <;> repeat (first | with_reducible exact p0 | with_reducible exact p1 | with_reducible exact o4 | with_reducible exact o5 | with_reducible exact q0 | with_reducible exact q1 | with_reducible exact r4 | with_reducible exact r5 | with_reducible exact s1 | with_reducible exact t4 | with_reducible exact t5 | with_reducible refine cellD ?_))
      (first | (go_at_call 23; refine g2.mono ?_; rintro e w3 ⟨rfl, x, hS⟩
                obtain ⟨B3, hG⟩ := G3.out w2 w3 x hC hO hS
                obtain ⟨_, s1, _, _, _, t4, t5⟩ := B3.cells))
    all_goals
      go_wp2_with fail
      go_ret
      exact ⟨by simp, hG⟩
  · have g1 := set_no w1.drew (H1.ch.move (fun _ _ => rfl)) a i v fa.out fi.out hin
    have g2 := rset_no w1.drew.drew (H1.rh.move (fun _ _ => rfl)) H1.wd.lay (by omega) a i v hin
    clear H1 hB1 hin
    go_wp2_with fail
    go_region_held (fun w' => w'.cell? ⟨S.p, 0, none⟩ = some (.pointer (some ⟨S.h, 0, none⟩)) ∧ w'.cell? ⟨w.heap.size, 4, none⟩ = some (.int .i64 i) ∧ w'.cell? ⟨w.heap.size, 5, none⟩ = some (.int .i64 v)) (refine ⟨?_, ?_, ?_⟩ <;> repeat (first | with_reducible exact p0 | with_reducible exact p1 | with_reducible exact o3 | with_reducible exact o4 | with_reducible exact o5 | with_reducible refine cellD ?_))
      (first | (go_at_call 16; refine g1.mono ?_; rintro e w2 ⟨rfl, rfl⟩))
    go_wp2_with fail
    go_region_held (fun w' => w'.cell? ⟨S.p, 1, none⟩ = some (.pointer (some ⟨S.r, 0, none⟩)) ∧ w'.cell? ⟨w.heap.size, 4, none⟩ = some (.int .i64 i) ∧ w'.cell? ⟨w.heap.size, 5, none⟩ = some (.int .i64 v)) (refine ⟨?_, ?_, ?_⟩ <;> repeat (first | with_reducible exact p0 | with_reducible exact p1 | with_reducible exact o3 | with_reducible exact o4 | with_reducible exact o5 | with_reducible refine cellD ?_))
      (first | (go_at_call 23; refine g2.mono ?_; rintro e w2 ⟨rfl, rfl⟩))
    all_goals
      go_wp2_with fail
      go_ret
      exact ⟨by simp, S, HP.out.same (hb1.drew.drew)⟩
end Go.Proofs.Ytddcpbidlbiamaa
