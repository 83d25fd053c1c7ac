import Derived.Test.YteplldbhfjfbpaaGreatDoorVcR
import Derived.Test.YteplldbhfjfbpaaGreatDoorVcL
import Derived.Test.YteplldbhfjfbpaaGreatDoorVcO
set_option linter.unusedVariables false
set_option linter.unusedSimpArgs false
namespace Go.Proofs.YteplldbhfjfbpaaGreatDoor
open Go.ChangeShapes Go.WideShapes Go.ChangeAt Go.RowKit Go.Maps

theorem numF_of {n : Nat} {f : Rf} {x : Ri} (h : loN x.op f.fi ≤ x.n ∧ x.n ≤ hiN x.op f.fr f.fi f.ct (n : Int)) : numF n f x = true := by
  rw [numF_eq]
  exact decide_eq_true h
theorem dp_form (n fr : Int) (hn : 0 ≤ n ∧ n ≤ 4095) (hfr : 3 ≤ fr ∧ fr ≤ 300) : formR (dpC n fr) (dpF fr) 0 = true := by
  have e1 : cutF (dpC n fr).length 0 (dpF fr) = true := rfl
  have e2 : namesP (dpF fr) = true := by
    have : ∀ q : Int, namesP [dpM, ⟨⟨#[102]⟩, q, 5, 7, 1⟩] = true := fun q => by kernel_rfl
    exact this fr
  have e3 : mainF (dpF fr) 0 = true := rfl
  have hF : Fits n := by unfold Fits; omega
  have hG : Fits 1 := by unfold Fits; omega
  have e4 : funF (dpC n fr) 2 dpM = true := by
    show (true && (true && ((List.all [⟨1, 5, 0, 0, 1⟩, ⟨1, 0, 0, 0, n⟩, ⟨26, 0, 0, 0, 1⟩, ⟨37, 0, 0, 0, 0⟩, ⟨27, 0, 0, 0, 0⟩] fun x => regsF x && numF 2 dpM x) && true))) = true
    have a1 : numF 2 dpM ⟨1, 0, 0, 0, n⟩ = true := fits_numF rfl hF
    have a2 : regsF ⟨1, 0, 0, 0, n⟩ = true := rfl
    simp only [List.all_cons, List.all_nil, a1, a2, show regsF ⟨1, 5, 0, 0, 1⟩ = true from rfl, show numF 2 dpM ⟨1, 5, 0, 0, 1⟩ = true from rfl, show regsF ⟨26, 0, 0, 0, 1⟩ = true from rfl, show numF 2 dpM ⟨26, 0, 0, 0, 1⟩ = true from rfl, show regsF ⟨37, 0, 0, 0, 0⟩ = true from rfl, show numF 2 dpM ⟨37, 0, 0, 0, 0⟩ = true from rfl, show regsF ⟨27, 0, 0, 0, 0⟩ = true from rfl, show numF 2 dpM ⟨27, 0, 0, 0, 0⟩ = true from rfl, Bool.and_true]
  have e5 : funF (dpC n fr) 2 (dpf fr) = true := by
    unfold funF
    rw [decide_eq_true (show 2 ≤ (dpf fr).fr ∧ (dpf fr).fr ≤ 1099511627776 by show 2 ≤ fr ∧ fr ≤ _; omega)]
    show (true && (true && ((List.all [⟨25, 0, 0, 0, fr - 1⟩, ⟨22, 0, 0, 0, 11⟩, ⟨4, 0, 0, 5, 0⟩, ⟨26, 0, 0, 0, 1⟩, ⟨24, 1, 0, 0, fr - 1⟩, ⟨3, 0, 0, 1, 0⟩, ⟨27, 0, 0, 0, 0⟩] fun x => regsF x && numF 2 (dpf fr) x) && true))) = true
    have a1 : numF 2 (dpf fr) ⟨25, 0, 0, 0, fr - 1⟩ = true := numF_of (by show (2 : Int) ≤ fr - 1 ∧ fr - 1 ≤ fr - 1; omega)
    have a2 : numF 2 (dpf fr) ⟨24, 1, 0, 0, fr - 1⟩ = true := numF_of (by show (2 : Int) ≤ fr - 1 ∧ fr - 1 ≤ fr - 1; omega)
    simp only [List.all_cons, List.all_nil, a1, a2, show regsF ⟨25, 0, 0, 0, fr - 1⟩ = true from rfl, show regsF ⟨24, 1, 0, 0, fr - 1⟩ = true from rfl, show regsF ⟨22, 0, 0, 0, 11⟩ = true from rfl, show numF 2 (dpf fr) ⟨22, 0, 0, 0, 11⟩ = true from rfl, show regsF ⟨4, 0, 0, 5, 0⟩ = true from rfl, show numF 2 (dpf fr) ⟨4, 0, 0, 5, 0⟩ = true from rfl, show regsF ⟨26, 0, 0, 0, 1⟩ = true from rfl, show numF 2 (dpf fr) ⟨26, 0, 0, 0, 1⟩ = true from rfl, show regsF ⟨3, 0, 0, 1, 0⟩ = true from rfl, show numF 2 (dpf fr) ⟨3, 0, 0, 1, 0⟩ = true from rfl, show regsF ⟨27, 0, 0, 0, 0⟩ = true from rfl, show numF 2 (dpf fr) ⟨27, 0, 0, 0, 0⟩ = true from rfl, Bool.and_true]
  unfold formR
  rw [e1, e2, e3]
  show (true && (true && (true && ([dpM, dpf fr].all (funF (dpC n fr) 2))))) = true
  simp only [List.all_cons, List.all_nil, e4, e5, Bool.and_true]
theorem dp_err (n fr S : Int) (hn : 0 ≤ n ∧ n ≤ 4095) (hfr : 3 ≤ fr ∧ fr ≤ 300) (hS : 0 ≤ S ∧ S ≤ 1099511627776) : newErr (dpC n fr) (dpF fr) 0 0 S 0 = 0 := by
  unfold newErr
  rw [if_neg (by rw [dp_form n fr hn hfr]; simp), if_neg (by omega), if_neg (by rw [decide_eq_true hS]; simp)]
theorem dp_nums (n fr : Int) (hn : 0 ≤ n ∧ n ≤ 4095) (hfr : 3 ≤ fr ∧ fr ≤ 300) : ∀ x ∈ dpC n fr, Fits x.n := by
  intro x hx
  unfold dpC at hx
  simp only [List.mem_cons, List.not_mem_nil, or_false] at hx
  rcases hx with rfl | rfl | rfl | rfl | rfl | rfl | rfl | rfl | rfl | rfl | rfl | rfl <;> (unfold Fits; simp only; omega)
/-- New of it, and Run. -/
theorem dp_new (W : World) (hTab : Tab W) {ca fa : Option Addr} {cc fc : Nat} (m : Nat) (fr S : Int) (hm : m ≤ 4095) (hfr : 3 ≤ fr ∧ fr ≤ 300) (hS : 0 ≤ S ∧ S ≤ 1099511627776) (hC : StsG W ca cc 5 ((dpC m fr).map riv)) (hF : StsG W fa fc 5 ((dpF fr).map rfv)) {E : List (Int × Int)} {x1 x2 x3 x4 x5 x6 : Int} {RF : Rv} (hRF : smG (dpC m fr) (dpF fr) S 0 (20 * (m + 2)) (dp0 S) = RF) :
    Calls Tryz.prog 9 #[.agg #[.slice ca 12 cc, .slice fa 2 fc, .int .i64 0], .slice none 0 0, .agg #[.int .i64 S, .int .i64 0]] W fun e w' => ∃ mb, e = .returned (.tuple #[.pointer (some ⟨mb, 0, none⟩), .int .i64 0]) ∧ Below W.heap.size W w' ∧ ∀ W2, Below w'.heap.size w' W2 → Calls Tryz.prog 12 #[.pointer (some ⟨mb, 0, none⟩), .int .i64 ((20 * (m + 2) : Nat) : Int)] W2 fun e w3 => ∃ ao c, e = .returned (.tuple #[.agg #[.slice ao RF.ev.length c, .int .i64 RF.fin, .int .i64 RF.kd, .int .i64 RF.vl, .int .i64 RF.steps, .int .i64 RF.words, .int .i64 RF.deep], .int .i64 0]) ∧ Evs w3 ao c RF.ev ∧ Below W.heap.size W2 w3 := by
  have hI : Ints W none 0 [] := ⟨Nat.le_refl _, by decide, fun h => absurd rfl h⟩
  refine (newR_go W hTab ca 12 cc fa 2 fc 0 (dpC m fr) (dpF fr) rfl rfl hC hF (by decide) (by decide) (dp_nums _ _ (by omega) hfr) none 0 0 [] rfl hI (by intro x hx; simp at hx) S 0 (dp_err _ _ _ (by omega) hfr hS)).mono ?_
  rintro e w' ⟨s, d, W9, k, f, rfl, ⟨hk, hf2⟩, ⟨e1, e2, e3, e4⟩, hP, hR, b9, hSt, hft, hst⟩
  have hk0 : k = 0 := by omega
  subst hk0
  have ef : f = dpM := by
    have : (dpF fr)[0]? = some f := hf2
    simpa [dpF] using this.symm
  subst ef
  obtain ⟨d1, _, _, f1⟩ := hSt.out
  have sz := b9.size
  have sz1 := f1.only.size
  refine ⟨s.mb, rfl, b9.trans (f1.only.below b9.size hft), fun W2 b2 => ?_⟩
  have sz2 := b2.size
  obtain ⟨d3, hb3, hft3⟩ := (hSt.below b2).base
  refine (mRunR_st hb3 hP hR (K := 20 * (m + 2)) (fuel := 20 * (m + 2)) (by omega) (by omega) (Or.inl rfl) (RF := RF) (by rw [e1, e2, e3, e4]; exact hRF)).mono ?_
  rintro e w3 ⟨ao, c, B, rfl, hs2, _, _, hRow⟩
  obtain ⟨ao', c', ee, hE⟩ := evs_of hRow
  cases ee
  obtain ⟨d2, _, _, f2⟩ := hs2.out
  refine ⟨ao, c, rfl, hE, f2.only.below (by omega) fun k hk => ?_⟩
  rcases hft3 k hk with q | q
  · exact hft k q
  · omega
end Go.Proofs.YteplldbhfjfbpaaGreatDoor
