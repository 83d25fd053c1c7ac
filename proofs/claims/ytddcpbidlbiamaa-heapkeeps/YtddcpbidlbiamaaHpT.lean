import Derived.Test.YtddcpbidlbiamaaHpO
set_option linter.unusedVariables false
set_option linter.unusedSimpArgs false
namespace Go.Proofs.Ytddcpbidlbiamaa
open Go.ChangeShapes Go.WideShapes Go.ChangeAt Go.RowKit

set_option maxHeartbeats 4000000 in
set_option maxRecDepth 100000 in
theorem make_case (w : World) {B S c} (H : PS w B S c) (hB : B ≤ w.heap.size) (hc : c < 1000000000) (who near oa i v : Int) (ho : O.Ok ⟨1, who, near, oa, i, v⟩) :
    Calls Try.prog 12 #[.pointer (some ⟨S.p, 0, none⟩), .agg #[.int .i64 1, .int .i64 who, .int .i64 near, .int .i64 oa, .int .i64 i, .int .i64 v]] w fun e w' => e = .returned (.bool true) ∧ ∃ S', Goes w w' B S S' (c + 1) := by
  have HP := show Hid (PS w B S c) from H
  have ad := show Hid (∀ w', PS w' B S c → Calls Try.prog 21 #[.pointer (some ⟨S.p, 0, none⟩), .agg #[.int .i64 1, .int .i64 who, .int .i64 near, .int .i64 oa, .int .i64 i, .int .i64 v]] w' fun e w'' => ∃ a, e = .returned (.int .i64 a) ∧ Fits a ∧ Below w'.heap.size w' w'') from fun w' h => address_any w' h (by omega) ⟨1, who, near, oa, i, v⟩ ho
  have fst := show Hid (∀ w1, Below (w.alloc (.cells #[.int .i64 1, .int .i64 who, .int .i64 near, .int .i64 oa, .int .i64 i, .int .i64 v] 30)).heap.size (w.alloc (.cells #[.int .i64 1, .int .i64 who, .int .i64 near, .int .i64 oa, .int .i64 i, .int .i64 v] 30)) w1 → PS w1 B S c ∧ Bx w1 S.p S.h S.r w.heap.size S.ad ⟨1, who, near, oa, i, v⟩ ∧ Below w.heap.size w w1) from fun w1 hb => Bx.first (o := ⟨1, who, near, oa, i, v⟩) (w1 := w1) H hb
  obtain ⟨foa, fi, fv, _⟩ := ho
  have foa := show Hid (Fits oa) from foa
  have fi := show Hid (Fits i) from fi
  have fv := show Hid (Fits v) from fv
  clear H
  go_enter Try.func12, Try.ntmps12
  go_wp2_with fail
  refine (ad.out (w.alloc (.cells #[.int .i64 1, .int .i64 who, .int .i64 near, .int .i64 oa, .int .i64 i, .int .i64 v] 30)) (HP.out.keep ((Below.refl _ _).alloc (Nat.le_refl _) _))).mono ?_
  rintro e w1 ⟨a, rfl, fa, hb⟩
  have fa := show Hid (Fits a) from fa
  obtain ⟨H1, hB1, hb1⟩ := fst.out w1 hb
  obtain ⟨p0, p1, p2, o0, o3, o4, o5⟩ := hB1.cells
  simp only at o0 o3 o4 o5
  clear fst ad hb
  have HB := show Hid (B ≤ w1.heap.size) from Nat.le_trans hB hb1.size
  have hbo : w.heap.size < w1.heap.size := (Array.getElem?_eq_some_iff.1 hB1.ob).1
  by_cases hok : 0 ≤ oa ∧ S.tk + oa < 4611686018427387904
  · obtain ⟨h0, h1⟩ := hok
    have g1 := make_yes w1.drew (H1.ch.move (fun _ _ => rfl)) hc oa h0 h1
    have HH1 := show Hid (PS w1.drew B S c) from H1.move (fun _ _ => rfl)
    have HB1 := show Hid (Bx w1.drew S.p S.h S.r w.heap.size S.ad ⟨1, who, near, oa, i, v⟩) from ⟨hB1.pb, hB1.ob⟩
    have l0 := H1.ch.lim.1
    have hlen := H1.rh.len
    obtain ⟨ao, cp, hadv, n1, n2⟩ := own_slice H1.own.out
    have HAD := show Hid (S.ad = .slice ao S.L.length cp) from hadv
    have G2 := show Hid (∀ w2, Only (CF S.h S.m S.n) w1.drew w2 → Bx w2 S.p S.h S.r w.heap.size S.ad ⟨1, who, near, oa, i, v⟩ ∧ Calls Try.prog 22 #[.pointer (some ⟨S.r, 0, none⟩), .int .i64 oa] w2.drew fun e w' => e = .returned (.tuple #[.int .i64 (S.tk + 1), .bool true]) ∧ ∃ u, RH w' B S.r (S.tk + oa + 1) u (S.L ++ [RB.new (S.tk + 1) oa]) (c + 1) ∧ Only (RF S.r S.v S.L) w2.drew w' ∧ ∀ q, RF S.r u (S.L ++ [RB.new (S.tk + 1) oa]) q → RF S.r S.v S.L q ∨ w2.drew.heap.size ≤ q) from fun w2 hO => by
      obtain ⟨b1, r1, a1⟩ := HH1.out.s1 hO
      refine ⟨⟨b1, (hO.block _ (by simpa using hbo) (fun h => ?_)).trans HB1.out.ob⟩, rmake_yes w2.drew (r1.move (fun _ _ => rfl)) (Nat.le_trans HB.out hO.size) (by omega) l0 oa h0 h1⟩
      have := (HP.out.lt _ (.inr (.inl h))).2
      omega
    have G3 := show Hid (∀ w2 w3, CH w2 S.h S.m S.n (S.tk + oa + 1) (upd (lnOf S.L) (S.tk + 1) (some oa)) S.f (c + 1) → Only (CF S.h S.m S.n) w1.drew w2 → Only (RF S.r S.v S.L) w2.drew w3 → Bx w3 S.p S.h S.r w.heap.size S.ad ⟨1, who, near, oa, i, v⟩ ∧ OwnI w3 B S.ad S.L.length (S.L.map RB.a) ∧ B ≤ w3.heap.size) from fun w2 w3 hC hO hO2 => by
      obtain ⟨B2, _⟩ := G2.out w2 hO
      obtain ⟨b1, r1, a1⟩ := HH1.out.s1 hO
      obtain ⟨b2, c2, a2⟩ := ps_s2 (w1 := w2.drew) (w2 := w3) b1 (hC.move (fun _ _ => rfl)) (r1.move (fun _ _ => rfl)) (a1.move (fun _ _ => rfl)) HH1.out.apt hO2
      refine ⟨⟨b2, (hO2.block _ (Array.getElem?_eq_some_iff.1 B2.ob).1 (fun h => ?_)).trans B2.ob⟩, a2, Nat.le_trans HB.out (Nat.le_trans hO.size hO2.size)⟩
      have := (HP.out.lt _ (.inr (.inr (.inl h)))).2
      omega
    have G4 := show Hid (∀ w2 w3 w4 u ad', CH w2 S.h S.m S.n (S.tk + oa + 1) (upd (lnOf S.L) (S.tk + 1) (some oa)) S.f (c + 1) → Only (CF S.h S.m S.n) w1.drew w2 → RH w3 B S.r (S.tk + oa + 1) u (S.L ++ [RB.new (S.tk + 1) oa]) (c + 1) → Only (RF S.r S.v S.L) w2.drew w3 → (∀ q, RF S.r u (S.L ++ [RB.new (S.tk + 1) oa]) q → RF S.r S.v S.L q ∨ w2.drew.heap.size ≤ q) → OwnI w4 B ad' (S.L.length + 1) (S.L.map RB.a ++ [S.tk + 1]) → GI B w3 w4 S.ad ad' → w4.cell? ⟨S.p, 2, none⟩ = some S.ad ∧ w4.frozen? ⟨S.p, 2, none⟩ = false ∧ ∃ S', Goes w (w4.setCell ⟨S.p, 2, none⟩ ad') B S S' (c + 1)) from fun w2 w3 w4 u ad' hC hO hR hO2 hf hA hG => by
      obtain ⟨x1, x2, x3⟩ := PS.make (w1 := w2.drew) HH1.out oa h0 (hC.move (fun _ _ => rfl)) ⟨hO.os, hO.tape, hO.output, hO.size, hO.block⟩ hR hO2 hf hA hG
      exact ⟨x1, x2, _, x3.pre (w0 := w) hb1.drew (fun q hq => (HP.out.lt q hq).2)⟩
    rw [hadv] at p2
    clear H1 hB1 HH1 HB1 hadv
    go_wp2_with fail
    go_region_held (fun w' => w'.cell? ⟨S.p, 0, none⟩ = some (.pointer (some ⟨S.h, 0, none⟩)) ∧ w'.cell? ⟨w.heap.size, 3, none⟩ = some (.int .i64 oa)) (refine ⟨?_, ?_⟩ <;> repeat (first | with_reducible exact p0 | with_reducible exact p1 | with_reducible exact o4 | with_reducible exact o5 | with_reducible exact q0 | with_reducible exact q1 | with_reducible exact r4 | with_reducible exact r5 | with_reducible exact s1 | with_reducible exact t4 | with_reducible exact t5 | with_reducible exact o3 | with_reducible exact r3 | with_reducible exact t3 | with_reducible refine cellD ?_))
      (first | (go_at_call 15; refine g1.mono ?_; rintro e w2 ⟨rfl, hC, hO⟩
                obtain ⟨B2, g2⟩ := G2.out w2 hO
                obtain ⟨q0, q1, q2, _, r3, _, _⟩ := B2.cells))
    go_wp2_with fail
    go_region_held (fun w' => w'.cell? ⟨S.p, 1, none⟩ = some (.pointer (some ⟨S.r, 0, none⟩)) ∧ w'.cell? ⟨w.heap.size, 3, none⟩ = some (.int .i64 oa)) (refine ⟨?_, ?_⟩ <;> repeat (first | with_reducible exact p0 | with_reducible exact p1 | with_reducible exact o4 | with_reducible exact o5 | with_reducible exact q0 | with_reducible exact q1 | with_reducible exact r4 | with_reducible exact r5 | with_reducible exact s1 | with_reducible exact t4 | with_reducible exact t5 | with_reducible exact o3 | with_reducible exact r3 | with_reducible exact t3 | with_reducible refine cellD ?_))
      (first | (go_at_call 22; refine g2.mono ?_; rintro e w3 ⟨rfl, u, hR, hO2, hf⟩
                obtain ⟨B3, hA3, hB3⟩ := G3.out w2 w3 hC hO hO2
                obtain ⟨_, s1, s2, _, t3, _, _⟩ := B3.cells))
    rw [HAD.out] at s2
    have HA3 := show Hid (OwnI w3 B (.slice ao S.L.length cp) S.L.length (S.L.map RB.a)) from by rw [← HAD.out]; exact hA3
    clear hA3
    go_wp2_with (first
      | (at_builtin; refine wpList_append_intG rfl _ _ rfl B _ S.L.length _ (S.tk + 1) ?_ HA3.out ?_ (by omega) hB3 ?_; (next => rfl); (next => rfl); intro ad4 w4 hA4 hG4
         obtain ⟨z1, z2, z3⟩ := G4.out w2 w3 w4 u ad4 hC hO hR hO2 hf hA4 (by rw [HAD.out]; exact hG4)
         have Z3 := show Hid _ from z3
         obtain ⟨a4, c4, rfl, _, _⟩ := own_slice hA4.out
         clear z3 hG4)
      | go_in)
    all_goals
      go_ret
      exact ⟨by simp, Z3.out⟩
  · have hno : oa < 0 ∨ 4611686018427387904 ≤ S.tk + oa := by omega
    have g1 := make_no w1.drew (H1.ch.move (fun _ _ => rfl)) oa foa.out hno
    have g2 := rmake_no w1.drew.drew (H1.rh.move (fun _ _ => rfl)) H1.ch.lim.1 H1.ch.lim.2 oa foa.out hno
    clear H1 hB1 hok hno
    go_wp2_with fail
    go_region_held (fun w' => w'.cell? ⟨S.p, 0, none⟩ = some (.pointer (some ⟨S.h, 0, none⟩)) ∧ w'.cell? ⟨w.heap.size, 3, none⟩ = some (.int .i64 oa)) (refine ⟨?_, ?_⟩ <;> repeat (first | with_reducible exact p0 | with_reducible exact p1 | with_reducible exact o3 | with_reducible exact o4 | with_reducible exact o5 | with_reducible refine cellD ?_))
      (first | (go_at_call 15; refine g1.mono ?_; rintro e w2 ⟨rfl, rfl⟩))
    go_wp2_with fail
    go_region_held (fun w' => w'.cell? ⟨S.p, 1, none⟩ = some (.pointer (some ⟨S.r, 0, none⟩)) ∧ w'.cell? ⟨w.heap.size, 3, none⟩ = some (.int .i64 oa)) (refine ⟨?_, ?_⟩ <;> repeat (first | with_reducible exact p0 | with_reducible exact p1 | with_reducible exact o3 | with_reducible exact o4 | with_reducible exact o5 | with_reducible refine cellD ?_))
      (first | (go_at_call 22; refine g2.mono ?_; rintro e w2 ⟨rfl, rfl⟩))
    all_goals
      go_wp2_with fail
      go_ret
      exact ⟨by simp, S, HP.out.same (hb1.drew.drew)⟩
end Go.Proofs.Ytddcpbidlbiamaa
