import Derived.Test.YtfofmmkihhnfmaaGreatDoorVdI
set_option linter.unusedVariables false
set_option linter.unusedSimpArgs false
namespace Go.Proofs.YtfofmmkihhnfmaaGreatDoor
open Go.ChangeShapes Go.WideShapes Go.ChangeAt Go.RowKit Go.Maps

/-- What fits answers. -/
structure FitV (cn n fn : Nat) (e : Ending) : Prop where
  out : ∃ T : Bool, e = .returned (.bool T) ∧ (T = true → cn ≤ 20000 ∧ n ≤ 20000 ∧ fn ≤ 1000)
theorem FitV.no {cn n fn : Nat} {e : Ending} (h : e = .returned (.bool false)) : FitV cn n fn e := ⟨false, h, fun q => by cases q⟩
theorem FitV.is {cn n fn : Nat} {e : Ending} {T : Bool} (h : e = .returned (.bool T)) (k : T = true → cn ≤ 20000 ∧ n ≤ 20000 ∧ fn ≤ 1000) : FitV cn n fn e := ⟨T, h, k⟩
set_option maxRecDepth 100000 in
set_option maxHeartbeats 4000000 in
/-- fits of quernlaw21. -/
theorem fitsV_any (w : World) (ca : Option Addr) (cn cc : Nat) (fa : Option Addr) (fn fc : Nat) (m : Int) (ia : Option Addr) (n ic : Nat) (FS : List Rf) (hfn : fn = FS.length) (hF : StsG w fa fc 5 (FS.map rfv)) (hr : ∀ f ∈ FS, f.name.size ≤ 140737488351232) (hc : cn ≤ 140737488351232) (hf : fn ≤ 140737488351232) (hn : n ≤ 140737488351232) :
    Calls Tryz.prog 7 #[.agg #[.slice ca cn cc, .slice fa fn fc, .int .i64 m], .slice ia n ic] w fun e w' => FitV cn n fn e ∧ Below w.heap.size w w' := by
  obtain ⟨w1, hw1⟩ : ∃ W, W = w.alloc (.cells #[.slice ca cn cc, .slice fa fn fc, .int .i64 m] 25) := ⟨_, rfl⟩
  obtain ⟨p, hp⟩ : ∃ p, p = w.heap.size := ⟨_, rfl⟩
  have k1 : w1.heap[p]? = some (.cells #[.slice ca cn cc, .slice fa fn fc, .int .i64 m] 25 (0, 0)) := by rw [hw1, hp]; exact heap_alloc_new _ _
  have b1 : Below w.heap.size w w1 := by rw [hw1]; exact below_newR w _
  have HB1 : Hid _ := b1
  have HF : Hid (StsG w1 fa fc 5 (FS.map rfv) ∧ fn = FS.length ∧ ∀ f ∈ FS, f.name.size ≤ 140737488351232) := ⟨hF.below b1 (Nat.le_refl _), hfn, hr⟩
  have x0 : w1.cell? ⟨p, 0, none⟩ = some (.slice ca cn cc) := cell_arr k1 rfl
  have x1 : w1.cell? ⟨p, 1, none⟩ = some (.slice fa fn fc) := cell_arr k1 rfl
  have l1 := (Array.getElem?_eq_some_iff.1 k1).1
  have u1 : IntKind.i64.wrap ((cn : Int) + (n : Int)) = (cn : Int) + (n : Int) := by rw [IntKind.wrap_i64]; omega
  have HBD : Hid (cn ≤ 140737488351232 ∧ fn ≤ 140737488351232 ∧ n ≤ 140737488351232) := ⟨hc, hf, hn⟩
  clear hfn hF hr hc hf hn k1 b1
  go_enter Tryz.func7, Tryz.ntmps7
  go_upto_region 1 with fail
  rw [← hw1, ← hp]
  clear hw1 hp
  go_wp2_with fail
  go_loopw [5, 6] (fun v5 v6 wr => ∃ (N : Int) (i : Nat), i ≤ fn ∧ v5 = .int .i64 N ∧ v6 = .int .i64 (i : Int) ∧ Hid ((cn : Int) + (n : Int) ≤ N ∧ N ≤ 1125899906842624) ∧ wr = w1) (fun v5 v6 _ => fn - (intOf v6).toNat)
  case atStart => exact ⟨(cn : Int) + (n : Int), 0, by omega, rfl, rfl, by have := HBD.out; show _ ∧ _; omega, rfl⟩
  case round =>
    obtain ⟨N, i, hi, rfl, rfl, HN, rfl⟩ := hrel
    by_cases hlt : i < fn
    · have t1 : decide ((i : Int) < (fn : Int)) = true := decide_eq_true (by omega)
      by_cases hN : N ≤ 20000
      · have t2 : decide (N ≤ 20000) = true := decide_eq_true hN
        obtain ⟨L, hL⟩ : ∃ L, L = FS[i]'(by rw [← HF.out.2.1]; exact hlt) := ⟨_, rfl⟩
        obtain ⟨fb, fo, e0, hb0, ca0, hcf⟩ : ∃ fb fo, fa = some ⟨fb, fo, none⟩ ∧ fb < wr.heap.size ∧ wr.cell? ⟨fb, fo + i * 5, none⟩ = some (.string L.name) ∧ (L.name.size : Int) ≤ 140737488351232 := by
          have hi' : i < FS.length := by rw [← HF.out.2.1]; exact hlt
          obtain ⟨fb, fo, e, hb, hc⟩ := HF.out.1.at (j := i) (by simpa using hi')
          refine ⟨fb, fo, e, hb, ?_, ?_⟩
          · refine hc 0 _ ?_
            have e1 : (FS.map rfv).getD i [] = rfv L := by rw [hL]; simp [List.getD, hi']
            rw [e1]
            rfl
          · have := HF.out.2.2 L (by rw [hL]; exact List.getElem_mem _)
            omega
        have HF2 : Hid _ := HF
        have HL : Hid _ := hL
        subst e0
        clear hL
        have hN0 := HN.out
        go_wp2_with fail
        have hb := HBD.out
        have ew : wrap64 ((i : Int) + 1) = ((i + 1 : Nat) : Int) := by unfold wrap64; omega
        rw [ew]
        refine ⟨⟨N + 1 + (L.name.size : Int) / 64, i + 1, hlt, rfl, rfl, ?_, trivial⟩, ?_⟩
        · show _ ∧ _
          have : (0 : Int) ≤ (L.name.size : Int) / 64 := Int.ediv_nonneg (by omega) (by decide)
          have : (L.name.size : Int) / 64 ≤ 140737488351232 := by omega
          omega
        · clear hN0 hcf hb ew
          have q1 : (intOf (.int .i64 ((i + 1 : Nat) : Int))).toNat = i + 1 := rfl
          have q2 : (intOf (.int .i64 (i : Int))).toNat = i := rfl
          rw [q1, q2]
          exact Nat.sub_lt_sub_left hlt (Nat.lt_succ_self i)
      · have t2 : decide (N ≤ 20000) = false := decide_eq_false hN
        go_wp2_with fail
        go_ret
        exact ⟨FitV.no rfl, HB1.out⟩
    · have t1 : decide ((i : Int) < (fn : Int)) = false := decide_eq_false (by omega)
      by_cases hN : N ≤ 20000
      · have t2 : decide (N ≤ 20000) = true := decide_eq_true hN
        obtain ⟨T, hT⟩ : ∃ T, decide ((fn : Int) ≤ 1000) = T := ⟨_, rfl⟩
        have HT : Hid _ := hT
        go_wp2_with fail
        go_ret
        refine ⟨FitV.is (T := T) rfl fun q => ?_, HB1.out⟩
        rw [q] at HT
        have := of_decide_eq_true HT.out
        have := HN.out
        omega
      · have t2 : decide (N ≤ 20000) = false := decide_eq_false hN
        go_wp2_with fail
        go_ret
        exact ⟨FitV.no rfl, HB1.out⟩
end Go.Proofs.YtfofmmkihhnfmaaGreatDoor
