import Derived.Test.YtdoiblknbpbhaaaMwA
set_option linter.unusedVariables false
set_option linter.unusedSimpArgs false
namespace Go.Proofs.Ytdoiblknbpbhaaa
open Go.ChangeShapes Go.WideShapes Go.ChangeAt Go.RowKit Go.Maps

theorem mcs_set : ∀ (L : List Mv) (i : Nat) (m : Mv), i < L.length → ((((mcs L).set (i * 4) (.int .i64 m.1.1)).set (i * 4 + 1) (.int .i64 m.1.2)).set (i * 4 + 2) (.int .i64 m.2.1)).set (i * 4 + 3) (.int .i64 m.2.2) = mcs (L.set i m)
  | x :: L, 0, m, _ => rfl
  | x :: L, i + 1, m, h => by
    have := mcs_set L i m (by simpa using h)
    have e : ∀ y : Mv, ∀ M : List Mv, mcs (y :: M) = .int .i64 y.1.1 :: .int .i64 y.1.2 :: .int .i64 y.2.1 :: .int .i64 y.2.2 :: mcs M := fun _ _ => rfl
    rw [List.set_cons_succ, e, e, ← this, show (i + 1) * 4 = i * 4 + 4 by omega]
    rfl
theorem OwnM.set4 {w : World} {B g c n : Nat} {L : List Mv} (h : OwnM w B (.slice (some ⟨g, 0, none⟩) n c) n L) {i : Nat} (hi : i < n) (m1 m2 m3 m4 : Int) (hm : FitM ((m1, m2), (m3, m4))) :
    OwnM ((((w.setCell ⟨g, i * 4, none⟩ (.int .i64 m1)).setCell ⟨g, i * 4 + 1, none⟩ (.int .i64 m2)).setCell ⟨g, i * 4 + 2, none⟩ (.int .i64 m3)).setCell ⟨g, i * 4 + 3, none⟩ (.int .i64 m4)) B (.slice (some ⟨g, 0, none⟩) n c) n (L.set i ((m1, m2), (m3, m4))) := by
  have hn := h.len
  have h1 := own_set h.out (i * 4) (by omega) (.int .i64 m1)
  have h2 := own_set h1 (i * 4 + 1) (by omega) (.int .i64 m2)
  have h3 := own_set h2 (i * 4 + 2) (by omega) (.int .i64 m3)
  have h4 := own_set h3 (i * 4 + 3) (by omega) (.int .i64 m4)
  have e := mcs_set L i ((m1, m2), (m3, m4)) (by omega)
  simp only at e
  rw [e] at h4
  refine ⟨by simpa using hn, fun y hy => ?_, h4⟩
  rcases List.mem_or_eq_of_mem_set hy with q | q
  · exact h.fit y q
  · rw [q]; exact hm
theorem fill_set {L : List Mv} {y : Mv} {k : Nat} (hk : k < L.length) : (List.replicate k y ++ L.drop k).set k y = List.replicate (k + 1) y ++ L.drop (k + 1) := by
  refine List.ext_getElem (by simp; omega) fun i h1 h2 => ?_
  rw [List.getElem_set]
  by_cases e : k = i
  · subst e; simp [List.getElem_append]
  · rw [if_neg e]
    simp only [List.getElem_append, List.length_replicate]
    by_cases hi : i < k
    · rw [dif_pos hi, dif_pos (by omega)]; simp
    · rw [dif_neg hi, dif_neg (by omega)]
      simp only [List.getElem_drop]
      congr 1; omega
set_option maxRecDepth 100000 in
set_option maxHeartbeats 4000000 in
theorem fill_any (w : World) {B : Nat} {v : Value} {n : Nat} {L : List Mv} (h : OwnM w B v n L) (hn : n ≤ 1000000000) (m : Nat) (hm : m ≤ 1000000) :
    Calls Try.prog 29 #[v, .int .i64 m] w fun e w' => e = .returned (.tuple #[]) ∧ OwnM w' B v n (List.replicate n (mkM m)) ∧ Only (fun k => v.ownBlock = some k) w w' := by
  obtain ⟨a, c, rfl, hc, hc2⟩ := own_slice h.out
  have HL : Hid (n = L.length) := h.len
  have HFM : Hid (FitM (mkM m)) := fitM_mk (by omega)
  have H0 : Hid (OwnM w B (.slice a n c) n (List.replicate 0 (mkM m) ++ L.drop 0) ∧ Only (fun k => (Value.slice a n c).ownBlock = some k) w w) := ⟨by simpa using h, Only.refl _ _⟩
  clear h
  go_enter Try.func29, Try.ntmps29
  go_wp2_with fail
  go_loopw [4] (fun iv wr => ∃ k : Nat, k ≤ n ∧ iv = .int .i64 k ∧ Hid (OwnM wr B (.slice a n c) n (List.replicate k (mkM m) ++ L.drop k) ∧ Only (fun k => (Value.slice a n c).ownBlock = some k) w wr)) (fun v _ => n - (intOf v).toNat)
  case atStart => exact ⟨0, by omega, rfl, H0.out⟩
  case round =>
    clear H0
    obtain ⟨k, hk, rfl, HH⟩ := hrel
    by_cases hlt : k < n
    · obtain ⟨g, c', e, _, _, hB, hg⟩ := own_some HH.out.1.out (by omega)
      cases e
      have hrk := HH.out.1.rowK
      obtain ⟨v0, q0, z0⟩ := hrk.cell (i := k * 4) (by omega)
      obtain ⟨v1, q1, z1⟩ := hrk.cell (i := k * 4 + 1) (by omega)
      obtain ⟨v2, q2, z2⟩ := hrk.cell (i := k * 4 + 2) (by omega)
      obtain ⟨v3, q3, z3⟩ := hrk.cell (i := k * 4 + 3) (by omega)
      have HNX : Hid (OwnM ((((wr.setCell ⟨g, k * 4, none⟩ (.int .i64 (-9))).setCell ⟨g, k * 4 + 1, none⟩ (.int .i64 m)).setCell ⟨g, k * 4 + 2, none⟩ (.int .i64 0)).setCell ⟨g, k * 4 + 3, none⟩ (.int .i64 0)) B (.slice (some ⟨g, 0, none⟩) n c) n (List.replicate (k + 1) (mkM m) ++ L.drop (k + 1)) ∧ Only (fun k => (Value.slice (some ⟨g, 0, none⟩) n c).ownBlock = some k) w ((((wr.setCell ⟨g, k * 4, none⟩ (.int .i64 (-9))).setCell ⟨g, k * 4 + 1, none⟩ (.int .i64 m)).setCell ⟨g, k * 4 + 2, none⟩ (.int .i64 0)).setCell ⟨g, k * 4 + 3, none⟩ (.int .i64 0))) := by
        refine ⟨?_, only_set (only_set (only_set (only_set HH.out.2 g _ _ rfl) g _ _ rfl) g _ _ rfl) g _ _ rfl⟩
        rw [← fill_set (by have := HL.out; omega)]
        have h5 := HH.out.1.set4 (i := k) (by omega) (-9) (m : Int) 0 0 HFM.out
        exact h5
      clear hrk
      go_wp2_with fail
      go_roundw
      case rel => exact ⟨k + 1, by omega, by go_num, HNX.out⟩
      case measure => simp [intOf]; omega
    · have hkn : k = n := by omega
      have HF : Hid (OwnM wr B (.slice a n c) n (List.replicate n (mkM m))) := by
        have := HH.out.1
        rw [hkn, List.drop_of_length_le (by have := HL.out; omega), List.append_nil] at this
        exact this
      clear hkn
      go_wp2_with fail
      refine bodyPost_end (v := .tuple #[]) (by simp [results, Try.results29, go_sem]) rfl ⟨rfl, HF.out, HH.out.2⟩
end Go.Proofs.Ytdoiblknbpbhaaa
