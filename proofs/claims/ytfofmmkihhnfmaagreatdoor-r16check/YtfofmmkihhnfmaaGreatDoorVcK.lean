import Derived.Test.YtfofmmkihhnfmaaGreatDoorJbb
import Derived.Test.YtfofmmkihhnfmaaGreatDoorVcH
set_option linter.unusedVariables false
set_option linter.unusedSimpArgs false
namespace Go.Proofs.YtfofmmkihhnfmaaGreatDoor
open Go.ChangeShapes Go.WideShapes Go.ChangeAt Go.RowKit Go.Maps

theorem fits_numF {n : Nat} {f : Rf} {x : Ri} (ho : x.op = 1) (hx : Fits x.n) : numF n f x = true := by
  unfold numF
  rw [if_pos ho]
  unfold Fits at hx
  simp
  omega
theorem zero_numF {n : Nat} {f : Rf} {x : Ri} (ho : ¬ x.op = 1 ∧ x.op ≤ 20 ∨ 27 ≤ x.op ∧ x.op ≤ 31 ∨ 36 ≤ x.op) (hx : x.n = 0) : numF n f x = true := by
  unfold numF
  rw [if_neg (by omega), if_neg (by omega), if_neg (by omega), if_neg (by omega), if_neg (by omega), if_neg (by omega), hx]
  rfl
/-- Code of one function, main, whose instructions have their form. -/
theorem form_one {C : List Ri} {fr : Int} (hn : 0 < C.length) (hf : 2 ≤ fr ∧ fr ≤ 1099511627776) (hi : ∀ x ∈ C, regsF x = true ∧ numF 1 ⟨⟨#[109, 97, 105, 110]⟩, fr, 0, C.length, 0⟩ x = true) (hl : lastF (C.getD (C.length - 1) riZ).op = true) : formR C (oneF C fr) 0 = true := by
  have e1 : cutF C.length 0 (oneF C fr) = true := by
    unfold oneF cutF cutF
    simp
    omega
  have e2 : namesP (oneF C fr) = true := by
    have : ∀ q : Int, namesP [⟨⟨#[109, 97, 105, 110]⟩, fr, 0, q, 0⟩] = true := fun q => by kernel_rfl
    exact this _
  have e3 : mainF (oneF C fr) 0 = true := rfl
  have e4 : (oneF C fr).all (funF C (oneF C fr).length) = true := by
    show (funF C 1 _ && true) = true
    rw [Bool.and_true]
    unfold funF
    simp only
    rw [decide_eq_true hf]
    have e5 : ((C.drop (0 : Int).toNat).take (C.length : Int).toNat) = C := by simp
    rw [e5]
    have e6 : (C.all fun x => regsF x && numF 1 ⟨⟨#[109, 97, 105, 110]⟩, fr, 0, C.length, 0⟩ x) = true := by
      rw [List.all_eq_true]
      intro x hx
      obtain ⟨a, b⟩ := hi x hx
      rw [a, b]; rfl
    rw [e6, show ((0 : Int) + (C.length : Int) - 1).toNat = C.length - 1 by omega, hl]
    rfl
  unfold formR
  rw [e1, e2, e3, e4]
  rfl
theorem newErr_one {C : List Ri} {fr S r : Int} (h : formR C (oneF C fr) 0 = true) (hS : 0 ≤ S ∧ S ≤ 1099511627776) (hr : 0 ≤ r ∧ r ≤ 1099511627776) : newErr C (oneF C fr) 0 0 S r = 0 := by
  unfold newErr
  rw [if_neg (by rw [h]; simp), if_neg (by omega), if_neg (by rw [decide_eq_true hS, decide_eq_true hr]; simp)]
theorem wd_form (op a b to : Int) (ho : (3 ≤ op ∧ op ≤ 17) ∨ op = 20) (ht : 0 ≤ to ∧ to ≤ 15) (ha : Fits a) (hb : Fits b) : formR (wdC op a b to) (oneF (wdC op a b to) 2) 0 = true := by
  refine form_one (by show 0 < 5; omega) (by omega) ?_ rfl
  intro x hx
  unfold wdC at hx
  simp only [List.mem_cons, List.not_mem_nil, or_false] at hx
  have hk : ∀ cnt i r : Int, 0 ≤ r ∧ r ≤ 15 → i < cnt → okR cnt i r = true := fun cnt i r h h2 => by
    unfold okR
    rw [if_pos h2]
    exact decide_eq_true h
  rcases hx with rfl | rfl | rfl | rfl | rfl
  · exact ⟨rfl, fits_numF rfl ha⟩
  · exact ⟨rfl, fits_numF rfl hb⟩
  · refine ⟨?_, zero_numF (by show ¬ op = 1 ∧ op ≤ 20 ∨ _; omega) rfl⟩
    unfold regsF
    simp only
    rcases ho with h | h
    · have e : rcnt op = 3 := by
        unfold rcnt
        rw [if_neg (by omega), if_neg (by omega), if_neg (by omega), if_pos (by omega)]
      rw [e, hk 3 0 to ht (by omega), hk 3 1 3 (by omega) (by omega), if_neg (by omega), hk 3 2 4 (by omega) (by omega)]
      rfl
    · subst h
      have e : rcnt 20 = 2 := rfl
      rw [e, hk 2 0 to ht (by omega), hk 2 1 3 (by omega) (by omega)]
      rfl
  · refine ⟨?_, zero_numF (Or.inr (Or.inr (by show (36 : Int) ≤ 37; omega))) rfl⟩
    unfold regsF
    simp only
    have e : rcnt 37 = 1 := rfl
    rw [e, hk 1 0 to ht (by omega)]
    rfl
  · exact ⟨rfl, rfl⟩
end Go.Proofs.YtfofmmkihhnfmaaGreatDoor
