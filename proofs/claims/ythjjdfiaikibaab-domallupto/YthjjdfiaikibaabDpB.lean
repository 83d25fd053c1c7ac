import Derived.Test.YthjjdfiaikibaabDpA
set_option linter.unusedVariables false
set_option linter.unusedSimpArgs false
namespace Go.Proofs.Ythjjdfiaikibaab
open Go.ChangeShapes Go.WideShapes Go.ChangeAt Go.RowKit Go.Maps

theorem fill_set {L : List Int} {y : Int} {k : Nat} (hk : k < L.length) : (List.replicate k y ++ L.drop k).set k y = List.replicate (k + 1) y ++ L.drop (k + 1) := by
  refine List.ext_getElem (by simp; omega) fun i h1 h2 => ?_
  rw [List.getElem_set]
  by_cases e : k = i
  · subst e; simp [List.getElem_append]
  · rw [if_neg e]
    simp only [List.getElem_append, List.length_replicate]
    by_cases hi : i < k
    · rw [dif_pos hi, dif_pos (by omega)]; simp
    · rw [dif_neg hi, dif_neg (by omega)]
      simp only [List.getElem_drop]
      congr 1; omega
set_option maxRecDepth 100000 in
set_option maxHeartbeats 4000000 in
theorem fill_any (w : World) {B : Nat} {v : Value} {n : Nat} {L : List Int} (h : OwnI w B v n L) (hn : n ≤ 1000000000) (m : Nat) (hm : m ≤ 1000000000) :
    Calls Try.prog 25 #[v, .int .i64 m] w fun e w' => e = .returned (.tuple #[]) ∧ OwnI w' B v n (List.replicate n (-9 - (m : Int))) ∧ Only (fun k => v.ownBlock = some k) w w' := by
  obtain ⟨a, c, rfl, hc, hc2⟩ := own_slice h.out
  have HL : Hid (n = L.length) := h.len
  have H0 : Hid (OwnI w B (.slice a n c) n (List.replicate 0 (-9 - (m : Int)) ++ L.drop 0) ∧ Only (fun k => (Value.slice a n c).ownBlock = some k) w w) := ⟨by simpa using h, Only.refl _ _⟩
  clear h
  go_enter Try.func25, Try.ntmps25
  go_wp2_with fail
  go_loopg [4] n (fun q iv wr => ∃ k : Nat, k ≤ n ∧ q = n - k ∧ iv = .int .i64 k ∧ Hid (OwnI wr B (.slice a n c) n (List.replicate k (-9 - (m : Int)) ++ L.drop k) ∧ Only (fun k => (Value.slice a n c).ownBlock = some k) w wr))
  case atStart => exact ⟨0, by omega, by omega, rfl, H0.out⟩
  case round =>
    clear H0
    obtain ⟨k, hk, rfl, rfl, HH⟩ := hrel
    by_cases hlt : k < n
    · obtain ⟨g, c', e, _, _, hB, hg⟩ := own_some HH.out.1.out (by omega)
      cases e
      have kc := own_cell HH.out.1.out k (by omega)
      obtain ⟨z, kz⟩ : ∃ z, wr.cell? ⟨g, k, none⟩ = some z := by
        have hl : k < (ivs (List.replicate k (-9 - (m : Int)) ++ L.drop k)).length := by have := HL.out; simp [ivs]; omega
        exact ⟨_, by rw [kc, List.getElem?_eq_getElem hl]⟩
      have fz : wr.frozen? ⟨g, k, none⟩ = false := by
        rcases HH.out.1.out.2 with ⟨q, _⟩ | ⟨g2, cap, cur, q, _, q3, _⟩
        · cases q
        · cases q; exact fz_of q3
      have HNX : Hid (OwnI (wr.setCell ⟨g, k, none⟩ (.int .i64 (-9 - (m : Int)))) B (.slice (some ⟨g, 0, none⟩) n c) n (List.replicate (k + 1) (-9 - (m : Int)) ++ L.drop (k + 1)) ∧ Only (fun k => (Value.slice (some ⟨g, 0, none⟩) n c).ownBlock = some k) w (wr.setCell ⟨g, k, none⟩ (.int .i64 (-9 - (m : Int))))) := by
        refine ⟨⟨by have := HL.out; simp; omega, ?_⟩, only_set HH.out.2 g k _ rfl⟩
        have := own_set HH.out.1.out k (by omega) (.int .i64 (-9 - (m : Int)))
        rw [← fill_set (by have := HL.out; omega)]
        simpa [ivs, List.map_set] using this
      clear kc
      go_wp2_with fail
      go_roundg (n - (k + 1))
      case rel => exact ⟨k + 1, by omega, rfl, by go_num, HNX.out⟩
      case measure => omega
    · have hkn : k = n := by omega
      have HF : Hid (OwnI wr B (.slice a n c) n (List.replicate n (-9 - (m : Int)))) := by
        have := HH.out.1
        rw [hkn, List.drop_of_length_le (by have := HL.out; omega), List.append_nil] at this
        exact this
      clear hkn
      go_wp2_with fail
      refine bodyPost_end (v := .tuple #[]) (by simp [results, Try.results25, go_sem]) rfl ⟨rfl, HF.out, HH.out.2⟩
end Go.Proofs.Ythjjdfiaikibaab
