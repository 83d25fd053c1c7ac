import Derived.Test.YtmddjfofedpggaaDoorLxK
set_option linter.unusedVariables false
namespace Go.Proofs.YtmddjfofedpggaaDoor
open Go.ChangeShapes Go.WideShapes Go.ChangeAt Go.RowKit

theorem Own.keep {w w' B v ts} (h : Own w B v ts) (hb : Below w.heap.size w w') : Own w' B v ts := ⟨own_keep h.out hb.block⟩
theorem Own.set {w B v ts} (h : Own w B v ts) {p : Addr} (hp : p.block < B) (u : Value) : Own (w.setCell p u) B v ts := by
  refine ⟨h.out.1, h.out.2.imp id ?_⟩
  rintro ⟨g, cap, cur, e1, e2, e3, e4⟩
  exact ⟨g, cap, cur, e1, e2, (Below.heap_setCell w p u g (by omega)).trans e3, e4⟩
theorem OwnB.view {w B v n M} (h : OwnB w B v n M) : ∃ ao cap, v = .slice ao n cap ∧ (ao = none → cap = 0) ∧ Txt w ao cap M := by
  have hn := h.len
  subst hn
  rcases h.out.2 with ⟨rfl, hn⟩ | ⟨g, cap, cur, rfl, e2, e3, e4, e5, e6, e7⟩
  · have : M = [] := List.length_eq_zero_iff.1 hn
    subst this
    exact ⟨none, 0, rfl, fun _ => rfl, by simp, by omega, fun h => absurd rfl h⟩
  · refine ⟨_, cap, rfl, (fun h => by cases h), e4, e5, fun _ => ⟨g, 0, rfl, (Array.getElem?_eq_some_iff.1 e3).1, fun i hi => ?_⟩⟩
    have h1 := bvs_at M i hi
    rw [← e7, List.getElem?_take, if_pos (by omega)] at h1
    exact cell_arr e3 (by rw [Nat.zero_add, ← h1]; simp)
theorem Lent.byte {w B g cap L} (h : Lent w B g cap L) {i : Nat} (hi : i < L.length) : w.cell? ⟨g, i, none⟩ = some (.int .u8 (L[i].toNat : Int)) ∧ w.frozen? ⟨g, i, none⟩ = false := by
  obtain ⟨f, hr, hf, _⟩ := h.row
  refine ⟨?_, hr.frozen i⟩
  have := hr.cell (i := i) (by have := h.room; omega)
  rw [this, hf i hi]
theorem Lent.set {w B g cap L} (h : Lent w B g cap L) {i : Nat} (hi : i < L.length) (x : UInt8) : Lent (w.setCell ⟨g, i, none⟩ (.int .u8 (x.toNat : Int))) B g cap (L.set i x) := by
  obtain ⟨f, hr, hf, hm⟩ := h.row
  refine ⟨h.base, by rw [List.length_set]; exact h.room, h.most, _, hr.set i _, fun k hk => ?_, fun k hk hc => ?_⟩
  · by_cases e : k = i
    · subst e; simp
    · rw [if_neg e, hf k (by simpa using hk), List.getElem_set_ne (Ne.symm e)]
  · rw [List.length_set] at hk
    rw [if_neg (by omega), hm k hk hc]

set_option maxRecDepth 10000 in
set_option maxHeartbeats 4000000 in
theorem told_any (w : World) (hTab : Tab w) (ao : Option Addr) (cap n : Nat) (L : List UInt8) (hn : n = L.length) (hT : Txt w ao cap L) (hnil : ao = none → cap = 0) (hl : n ≤ 1048576) :
    Calls Tryd.prog 10 #[.slice ao n cap] w fun e w' => e = .returned (.bool true) ∧ Below w.heap.size w w' := by
  have HN : Hid (n = L.length) := hn
  clear hn
  go_enter Tryd.func10, Tryd.ntmps10
  go_wp2_with fail
  refine (lend_any _ ao cap n L HN.out hT hnil (by omega)).mono ?_
  rintro e w1 ⟨⟨g, c, rfl, hLt⟩, hb1⟩
  have hroom : n + 40 ≤ c := by have := hLt.room; have := HN.out; omega
  have hmost := hLt.most
  have hgw := hLt.lt
  have hgb := hLt.base
  have hs1 := hb1.size
  go_wp2_with fail
  refine (tokens_at _ (hTab.below hb1 hTab.1) _ c n L HN.out (Txt.of_at hLt.at (by have := HN.out; omega) hmost) (by omega)).mono ?_
  rintro e w2 ⟨ts, p, er, v1, hL1, rfl, hown1, hb2⟩
  have hb2w : Below w.heap.size w w2 := hb1.trans (hb2.mono hs1)
  have hs2 := hb2.size
  go_wp2_with fail
  refine (refTokens_at _ ao cap n L HN.out (hT.below hb2w (Nat.le_refl _)) (by omega)).mono ?_
  rintro e w3 ⟨ts', p', er', v2, hL2, rfl, hown2, hb3⟩
  obtain ⟨rfl, rfl, rfl⟩ := hL1.one hL2
  have hb3w : Below w.heap.size w w3 := hb2w.trans (hb3.mono (by omega))
  have hs3 := hb3.size
  have hown1' := hown1.keep hb3
  obtain ⟨a1, c1, rfl, q1, q2, hv1⟩ := hown1'.view
  obtain ⟨a2, c2, rfl, q3, q4, hv2⟩ := hown2.view
  go_wp2_with fail
  refine (num_any _ _).mono ?_
  rintro e w' ⟨rfl, rfl⟩
  go_wp2_with fail
  refine (same_any _ a1 a2 c1 c2 _ ts rfl (by omega) hv1 hv2).mono ?_
  rintro e w4 ⟨rfl, hb4⟩
  have hs4 := hb4.size
  have hb4w : Below w.heap.size w w4 := hb3w.trans (hb4.mono (by omega))
  have hLt4 : Lent w4 w.heap.size g c L := ((hLt.below hb2 hgw).below hb3 (by omega)).below hb4 (by omega)
  go_wp2_with fail
  refine (kept_any _ _ g c ao cap n L HN.out hLt4 (hT.below hb4w (Nat.le_refl _)) (by omega)).mono ?_
  rintro e w5 ⟨rfl, hb5⟩
  have hs5 := hb5.size
  have hb5w : Below w.heap.size w w5 := hb4w.trans (hb5.mono (by omega))
  have hLt5 : Lent w5 w.heap.size g c L := hLt4.below hb5 (by omega)
  have o1 := (hown1'.keep hb4).keep hb5
  have o2 := (hown2.keep hb4).keep hb5
  clear hLt4 hLt hT hv1 hv2 hown1 hown1' hown2 hL1 hL2
  go_wp2_with fail
  go_loopw [11] (fun v wr => ∃ (i : Nat) (M : List UInt8), i ≤ n ∧ v = .int .i64 i ∧ M.length = n ∧ Lent wr w.heap.size g c M ∧ Own wr w1.heap.size (.slice a1 ts.length c1) ts ∧ Own wr w2.heap.size (.slice a2 ts.length c2) ts ∧ Below w.heap.size w wr ∧ w5.heap.size ≤ wr.heap.size) (fun v _ => n - (intOf v).toNat)
  case atStart => exact ⟨0, L, by omega, rfl, HN.out.symm, hLt5, o1, o2, hb5w, Nat.le_refl _⟩
  case round =>
    obtain ⟨i, M, hi, rfl, hM, hLM, p1, p2, hbr, hsr⟩ := hrel
    by_cases hlt : i < n
    · have hMi : i < M.length := by omega
      obtain ⟨hce, hfr⟩ := hLM.byte hMi
      obtain ⟨x, hx⟩ : ∃ x, x = M[i]'hMi := ⟨_, rfl⟩
      rw [← hx] at hce
      clear hx
      have HM : Hid (M.length = n) := hM
      clear hM
      go_wp2_with fail
      refine (turned_any x i (by omega) _).mono ?_
      rintro e w' ⟨⟨y, rfl⟩, rfl⟩
      go_wp2_with fail
      go_roundw
      case rel => exact ⟨i + 1, M.set i y, by omega, by go_num, by rw [List.length_set]; exact HM.out, hLM.set hMi y, p1.set (p := ⟨g, i, none⟩) hgw _, p2.set (p := ⟨g, i, none⟩) (by show g < _; omega) _, hbr.setCell (p := ⟨g, i, none⟩) hgb _, by simp; omega⟩
      case measure => simp [intOf]; omega
    · have HM : Hid (M.length = n) := hM
      clear hM
      have hsz := hbr.size
      go_wp2_with (first | (at_builtin; refine wpList_append_bytes rfl _ _ rfl wr.heap.size _ 0 [] rfl (OwnB.nil _ _) (some ⟨g, 0, none⟩) n c M rfl HM.out.symm (Txt.of_at hLM.at (by have := HM.out; omega) hmost) (fun h => by cases h) (by omega) (Nat.le_refl _) ?_; intro v3 w6 hown3 hb6 _) | fail)
      have hs6 := hb6.size
      have hb6w : Below w.heap.size w w6 := hbr.trans (hb6.mono hsz)
      have hL6 := hLM.below hb6 (by omega)
      simp only [Nat.zero_add, List.nil_append] at hown3
      refine (tokens_at _ (hTab.below hb6w hTab.1) _ c n M HM.out.symm (Txt.of_at hL6.at (by have := HM.out; omega) hmost) (by omega)).mono ?_
      rintro e w7 ⟨ts2, pp, ee, v4, hL3, rfl, hown4, hb7⟩
      have hs7 := hb7.size
      have hb7w : Below w.heap.size w w7 := hb6w.trans (hb7.mono (by omega))
      obtain ⟨a3, c3, rfl, hn3, hT3⟩ := (hown3.keep hb7).view
      go_wp2_with fail
      refine (refTokens_at _ a3 c3 n M HM.out.symm hT3 (by omega)).mono ?_
      rintro e w8 ⟨ts2', pp', ee', v5, hL4, rfl, hown5, hb8⟩
      obtain ⟨rfl, rfl, rfl⟩ := hL3.one hL4
      have hs8 := hb8.size
      have hb8w : Below w.heap.size w w8 := hb7w.trans (hb8.mono (by omega))
      have hown4' := hown4.keep hb8
      obtain ⟨a4, c4, rfl, r1, r2, hv4⟩ := hown4'.view
      obtain ⟨a5, c5, rfl, r3, r4, hv5⟩ := hown5.view
      have P1 := (((p1.keep hb6).keep hb7).keep hb8)
      have P2 := (((p2.keep hb6).keep hb7).keep hb8)
      go_wp2_with fail
      refine (num_any _ _).mono ?_
      rintro e w' ⟨rfl, rfl⟩
      go_wp2_with fail
      refine (same_any _ a4 a5 c4 c5 _ ts2 rfl (by omega) hv4 hv5).mono ?_
      rintro e w9 ⟨rfl, hb9⟩
      have hs9 := hb9.size
      obtain ⟨a6, c6, E1, s1, s2, hv6⟩ := (P1.keep hb9).view
      obtain ⟨a7, c7, E2, s3, s4, hv7⟩ := (P2.keep hb9).view
      cases E1
      cases E2
      go_wp2_with fail
      refine (same_any _ a1 a2 c1 c2 _ ts rfl (by omega) hv6 hv7).mono ?_
      rintro e w10 ⟨rfl, hb10⟩
      go_wp2_with fail
      go_ret
      exact ⟨rfl, (hb8w.trans (hb9.mono (by omega))).trans (hb10.mono (by omega))⟩
end Go.Proofs.YtmddjfofedpggaaDoor
