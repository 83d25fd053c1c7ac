import Derived.Test.YtegoemeefmjnoaaGreatDoorAtR
import Derived.Test.YtegoemeefmjnoaaGreatDoorAtS
import Derived.SizedLaws
import Derived.Deep.Slices
import Derived.OpenShut
import Derived.ChangeOld
import Derived.ChangeSlices
import Derived.Lib.SmallJoins
set_option linter.unusedVariables false
set_option linter.unusedSimpArgs false
namespace Go.Proofs.YtegoemeefmjnoaaGreatDoor
open Go.ChangeShapes Go.WideShapes Go.ChangeAt Go.RowKit Go.Maps

theorem wf_fitB {a : Int} (h : (Lit.int .i64 a).wf = true) : fitsB a = true := by
  have := bounds_i64 h
  unfold fitsB
  simp
  omega
/-- Entries in a row, one by one. -/
theorem pts_of {W : World} {b o c : Nat} {l : List Pt} (hc : l.length ≤ c) (hm : c ≤ 9223372036854775807) (hb : b < W.heap.size) (h : ∀ i (hi : i < l.length) r u, (ptc l[i])[r]? = some u → W.cell? ⟨b, o + (i * 4 + r), none⟩ = some u) : Pts W (some ⟨b, o, none⟩) c l := by
  have hz : ∀ x ∈ l.map ptc, x.length = 4 := fun x hx => by
    obtain ⟨p, _, rfl⟩ := List.mem_map.1 hx
    rfl
  refine ⟨by simpa using hc, hm, hz, fun u hu => ?_, fun _ => ⟨b, o, rfl, hb, fun j u hu => ?_⟩⟩
  · obtain ⟨x, hx, hu'⟩ := List.mem_flatten.1 hu
    obtain ⟨p, _, rfl⟩ := List.mem_map.1 hx
    simp only [ptc, List.mem_cons, List.not_mem_nil, or_false] at hu'
    rcases hu' with rfl | rfl | rfl | rfl <;> rfl
  · have hj := (List.getElem?_eq_some_iff.1 hu).1
    rw [flat_len _ hz, List.length_map] at hj
    have hi : j / 4 < l.length := by omega
    have e := flat_at (l.map ptc) hz (j / 4) (by simpa using hi) (j % 4) (by omega)
    rw [show j / 4 * 4 + j % 4 = j by omega, hu, List.getElem_map] at e
    have z := h (j / 4) hi (j % 4) u e.symm
    rw [show j / 4 * 4 + j % 4 = j by omega] at z
    exact z
set_option maxRecDepth 20000 in
set_option maxHeartbeats 1000000 in
/-- A slice of Puts that came in. -/
theorem pts_view {H : Type} {enc : TypeId × Value → H} {W : World} {fuel : Nat} {cs : List Value} {x : DataW H × List MemPlace} (h : DataW.trod enc Tryz.prog W 0 (fun _ => true) true fuel 54 cs = some x) :
    ∃ (ao : Option Addr) (cap : Nat) (N : List Pt), cs = [.slice ao N.length cap] ∧ Pts W ao cap N ∧ ∀ p ∈ N, fitsB p.num = true := by
  rcases Deep.open_slice Tryz.underlying54 h with ⟨h0, _⟩ | ⟨a, len, cap, m, n, D, Pl, rfl, _, hl, hm, hmm, rfl, hx⟩
  · exact ⟨none, 0, [], h0, StsG.nil W (by decide), fun p hp => by simp at hp⟩
  · have ce : Tryz.prog.cellsOf 89 = 4 := by kernel_rfl
    have c3 : Tryz.prog.cellsOf 3 = 1 := by kernel_rfl
    have c4 : Tryz.prog.cellsOf 4 = 1 := by kernel_rfl
    rw [ce] at hx
    have hml : len ≤ m := by rw [hmm]; simp; exact hl
    have each : ∀ i, i < len → ∃ q : Pt, (∀ r u, (ptc q)[r]? = some u → W.cell? (a.add (i * 4 + r)) = some u) ∧ fitsB q.num = true := by
      intro i hi
      obtain ⟨cs', h1, h2⟩ := hx i (by omega)
      obtain ⟨_, hlen, hcell⟩ := World.cells?_some h1
      obtain ⟨xs, k, hk, hxy, _, hxl, hf⟩ := DataW.trod_struct Tryz.underlying89 h2
      match cs', hlen with
      | [v0, v1, v2, v3], _ =>
        have g0 := hf 0 _ rfl
        have g1 := hf 1 _ rfl
        have g2 := hf 2 _ rfl
        have g3 := hf 3 _ rfl
        simp [c3, c4] at g0 g1 g2 g3
        match xs, hxl with
        | [y0, y1, y2, y3], _ =>
          obtain ⟨n0, e0, _, w0⟩ := DataW.trod_int Tryz.underlying3 (show DataW.trod enc Tryz.prog W 0 _ true k 3 _ = some y0 from g0)
          obtain ⟨n1, e1, _, w1⟩ := DataW.trod_int Tryz.underlying3 (show DataW.trod enc Tryz.prog W 0 _ true k 3 _ = some y1 from g1)
          obtain ⟨n2, e2, _, w2⟩ := DataW.trod_int Tryz.underlying3 (show DataW.trod enc Tryz.prog W 0 _ true k 3 _ = some y2 from g2)
          obtain ⟨n3, e3, _⟩ := DataW.trod_bool Tryz.underlying4 (show DataW.trod enc Tryz.prog W 0 _ true k 4 _ = some y3 from g3)
          simp at e0 e1 e2 e3
          subst e0 e1 e2 e3
          refine ⟨⟨n0, n1, n2, n3⟩, fun r u hu => ?_, wf_fitB w2⟩
          have hr : r < 4 := (List.getElem?_eq_some_iff.1 hu).1
          have z := hcell r (by omega)
          rw [Deep.add_add] at z
          rw [z]
          exact hu
    haveI : Inhabited Pt := ⟨⟨0, 0, 0, false⟩⟩
    obtain ⟨q, hq⟩ := Deep.choose_lt each
    rcases Nat.eq_zero_or_pos len with h0 | h0
    · subst h0
      exact ⟨some a, cap, [], by simp, StsG.nil W (by unfold maxLen at hm; omega), fun p hp => by simp at hp⟩
    obtain ⟨b, off, spot⟩ := a
    have c00 := (hq 0 h0).1 0 _ rfl
    have hspot : spot = none := by simpa [Addr.add] using World.cell?_spot c00
    subst hspot
    refine ⟨some ⟨b, off, none⟩, cap, (List.range len).map q, by simp, pts_of (by simpa using hl) (by unfold maxLen at hm; omega) (by have := block_lt_of_cell c00; simpa [Addr.add] using this) fun i hi r u hu => ?_, fun p hp => ?_⟩
    · have hi' : i < len := by simpa using hi
      have e : ((List.range len).map q)[i] = q i := by simp
      rw [e] at hu
      have z := (hq i hi').1 r u hu
      rw [add_noneR] at z
      exact z
    · obtain ⟨i, hi, rfl⟩ := List.mem_map.1 hp
      exact (hq i (by simpa using hi)).2
set_option maxRecDepth 100000 in
set_option maxHeartbeats 4000000 in
theorem alirPlaces_any (w : World) (hTab : Tab w) {pa1 pa2 : Option Addr} {pc1 pc2 : Nat} {l1 l2 : List Pt} (hP1 : Pts w pa1 pc1 l1) (hP2 : Pts w pa2 pc2 l2) (f1 : ∀ p ∈ l1, fitsB p.num = true) (f2 : ∀ p ∈ l2, fitsB p.num = true) (sv : Int) (cl : Bool) : Calls Tryz.prog 4 #[.slice pa1 l1.length pc1, .slice pa2 l2.length pc2, .int .i64 sv, .bool cl] w fun e w' => e = .returned (.bool true) ∧ Below w.heap.size w w' := by
  obtain ⟨n1, h1⟩ : ∃ n, n = l1.length := ⟨_, rfl⟩
  obtain ⟨n2, h2⟩ : ∃ n, n = l2.length := ⟨_, rfl⟩
  rw [← h1, ← h2]
  by_cases g1 : n1 ≤ 300
  · by_cases g2 : n2 ≤ 300
    · cases cl with
      | false => exact places_no w hTab hP1 h1 hP2 h2 g1 g2 f1 f2 sv
      | true => exact places_yes w hTab hP1 h1 hP2 h2 g1 g2 f1 f2 sv
    · have HAL : Hid _ := alive19_any w hTab
      have q1 : decide (300 < (n1 : Int)) = false := by simp; omega
      have q2 : decide (300 < (n2 : Int)) = true := by simp; omega
      clear hTab hP1 hP2 f1 f2 h1 h2 g1 g2
      go_enter Tryz.func4, Tryz.ntmps4
      go_upto_region 2 with (go_at_call 8; refine Calls.mono HAL.out ?_; rintro e wL ⟨rfl, bL⟩)
      go_wp2_with fail
      go_ret
      exact ⟨rfl, bL⟩
  · have HAL : Hid _ := alive19_any w hTab
    have q1 : decide (300 < (n1 : Int)) = true := by simp; omega
    clear hTab hP1 hP2 f1 f2 h1 h2 g1
    go_enter Tryz.func4, Tryz.ntmps4
    go_upto_region 2 with (go_at_call 8; refine Calls.mono HAL.out ?_; rintro e wL ⟨rfl, bL⟩)
    go_wp2_with fail
    go_ret
    exact ⟨rfl, bL⟩
end Go.Proofs.YtegoemeefmjnoaaGreatDoor
