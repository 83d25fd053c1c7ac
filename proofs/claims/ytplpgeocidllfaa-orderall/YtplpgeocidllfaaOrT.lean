import Derived.Test.YtplpgeocidllfaaOrS
import Derived.Test.YtplpgeocidllfaaOrR
set_option linter.unusedVariables false
set_option linter.unusedSimpArgs false
namespace Go.Proofs.Ytplpgeocidllfaa
open Go.ChangeShapes Go.WideShapes Go.ChangeAt Go.RowKit Go.Maps

set_option maxRecDepth 100000 in
set_option maxHeartbeats 4000000 in
theorem shifted_any (w : World) (ao : Option Addr) (m c : Nat) (L : List Int) (hm : m = L.length) (hI : Ints w ao c L) (hml : m ≤ 1000000) (by' : Int) (hb : 0 ≤ by' ∧ by' ≤ 1000000) (hr : ∀ x ∈ L, 0 ≤ x ∧ x ≤ 1000000) :
    Calls Try.prog 18 #[.slice ao m c, .int .i64 by'] w fun e w' => ∃ v, e = .returned v ∧ OwnI w' w.heap.size v m (sh by' L) ∧ Below w.heap.size w w' := by
  have hmc : m ≤ c := by have := hI.le; omega
  have hcm : c ≤ 9223372036854775807 := hI.mx
  have HM : Hid (m = L.length) := hm
  have HI : Hid (Ints w ao c L) := hI
  have HR : Hid (∀ x ∈ L, 0 ≤ x ∧ x ≤ 1000000) := hr
  obtain ⟨hb0, hb1⟩ := hb
  clear hm hI hr
  go_enter Try.func18, Try.ntmps18
  go_wp2_with fail
  go_loopg [5, 6] m (fun q ov iv wr => ∃ (k : Nat) (a5 : Option Addr) (c5 : Nat), k ≤ m ∧ q = m - k ∧ ov = .slice a5 k c5 ∧ iv = .int .i64 (k : Int) ∧ Hid (OwnI wr w.heap.size (.slice a5 k c5) k (sh by' (L.take k)) ∧ Below w.heap.size w wr))
  case atStart => exact ⟨0, none, 0, by omega, by omega, rfl, rfl, OwnI.nil _ _, Below.refl _ _⟩
  case round =>
    obtain ⟨k, a5, c5, hk, rfl, rfl, rfl, HH⟩ := hrel
    by_cases hlt : k < m
    · have hkL : k < L.length := by have := HM.out; omega
      obtain ⟨xb, xo, rfl, kx0⟩ := HI.out.at hkL
      have kx : wr.cell? ⟨xb, xo + k, none⟩ = some (.int .i64 L[k]) := (HH.out.2.cell (p := ⟨xb, xo + k, none⟩) (block_lt_of_cell kx0)).trans kx0
      have hxr := HR.out _ (List.getElem_mem hkL)
      have hB : w.heap.size ≤ wr.heap.size := HH.out.2.size
      obtain ⟨x, hx⟩ : ∃ x, x = L[k] := ⟨_, rfl⟩
      rw [← hx] at kx hxr
      obtain ⟨x0, x1⟩ := hxr
      have FIN : Hid (∀ v' w', OwnI w' w.heap.size v' (k + 1) (sh by' (L.take k) ++ [x + by']) → GI w.heap.size wr w' (.slice a5 k c5) v' → OwnI w' w.heap.size v' (k + 1) (sh by' (L.take (k + 1))) ∧ Below w.heap.size w w') := fun v' w' h1 h2 => by
        refine ⟨?_, HH.out.2.trans h2.bel⟩
        rw [← List.take_append_getElem hkL, sh, List.map_append, ← hx]
        exact h1
      have HO : Hid _ := HH.out.1
      clear HH kx0 hx
      go_wp2_with (first
        | (at_builtin; refine wpList_append_intG (w0 := wr) rfl _ _ rfl w.heap.size (.slice a5 k c5) k (sh by' (L.take k)) (x + by') rfl HO.out rfl (by omega) hB ?_; intro v6 w6 o6 g6
           have P6 := FIN.out v6 w6 o6 g6
           have HP6 : Hid _ := P6
           obtain ⟨a6, c6, e6, _, _⟩ := own_slice o6.out
           subst e6
           clear o6 g6 P6 FIN)
        | go_in)
      go_roundg (m - (k + 1))
      case rel => exact ⟨k + 1, a6, c6, by omega, rfl, rfl, by go_num, HP6.out⟩
      case measure => omega
    · obtain rfl : k = m := by omega
      have HF : Hid (OwnI wr w.heap.size (.slice a5 k c5) k (sh by' L) ∧ Below w.heap.size w wr) := by
        have := HH.out
        rw [List.take_of_length_le (by have := HM.out; omega)] at this
        exact this
      go_wp2_with fail
      try rw [Exit.noGoto_ret]
      go_ret
      exact ⟨_, rfl, HF.out⟩
/-- Lists in a row, each in memory of its own. -/
structure Rws (w : World) (B : Nat) (v : Value) (Rs : List (List Int)) : Prop where
  out : ∃ vs, vs.length = Rs.length ∧ OwnV w B v vs ∧ ∀ i (h : i < Rs.length), ∃ u, vs[i]? = some u ∧ OwnI w B u (Rs[i]).length Rs[i]
theorem Rws.more {w w2 w3 : World} {B : Nat} {v v' u : Value} {Rs : List (List Int)} {vs : List Value} {L : List Int} (hl : vs.length = Rs.length) (hv : OwnV w B v vs) (hr : ∀ i (h : i < Rs.length), ∃ u, vs[i]? = some u ∧ OwnI w B u (Rs[i]).length Rs[i]) (hB : B ≤ w.heap.size)
    (h1 : Below w.heap.size w w2) (h2 : OwnI w2 w.heap.size u L.length L) (h3 : OwnV w3 B v' (vs ++ [u])) (h4 : GI B w2 w3 v v') : Rws w3 B v' (Rs ++ [L]) := by
  have hvk := hv.keep h1
  refine ⟨vs ++ [u], by simp [hl], h3, fun i hi => ?_⟩
  by_cases e : i < Rs.length
  · obtain ⟨u', e1, e2⟩ := hr i e
    have e3 := e2.keep h1
    refine ⟨u', by rw [List.getElem?_append_left (by omega)]; exact e1, ?_⟩
    rw [List.getElem_append_left e]
    exact e3.gi h4 (e3.apV hvk)
  · simp at hi
    obtain rfl : i = Rs.length := by omega
    refine ⟨u, by rw [List.getElem?_append_right (by omega), hl]; simp, ?_⟩
    simp only [List.getElem_append_right (Nat.le_refl _), Nat.sub_self, List.getElem_cons_zero]
    exact (h2.mono hB).gi h4 (h2.apV hvk)
theorem Rws.irow {w : World} {B n c : Nat} {a : Option Addr} {Rs : List (List Int)} (h : Rws w B (.slice a n c) Rs) (hn : n = Rs.length) : IRow w a c Rs := by
  obtain ⟨vs, hl, hv, hr⟩ := h.out
  have h2 := hv.out
  rw [hl, ← hn] at h2
  rcases h2.2 with ⟨e, e2⟩ | ⟨g, cap, cur, e, e2, e3, e4, e5, e6, e7⟩
  · cases e
    have e0 : Rs = [] := List.eq_nil_of_length_eq_zero hn.symm
    subst e0
    exact ⟨by simp, by omega, fun h => absurd rfl h⟩
  · cases e
    refine ⟨by omega, by unfold maxLen at e5; omega, fun _ => ⟨g, 0, rfl, (Array.getElem?_eq_some_iff.1 e3).1, fun i hi => ?_⟩⟩
    obtain ⟨u, e8, ho⟩ := hr i hi
    obtain ⟨a', c', rfl, hI⟩ := ho.ints
    exact ⟨a', c', by rw [Nat.zero_add, own_cell h2 i (by omega)]; exact e8, hI⟩
end Go.Proofs.Ytplpgeocidllfaa
