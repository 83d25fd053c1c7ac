import Derived.Test.YtfofmmkihhnfmaaGreatDoorVeC
import Derived.Test.YtfofmmkihhnfmaaGreatDoorVeI
set_option linter.unusedVariables false
set_option linter.unusedSimpArgs false
namespace Go.Proofs.YtfofmmkihhnfmaaGreatDoor
open Go.ChangeShapes Go.WideShapes Go.ChangeAt Go.RowKit Go.Maps

/-- The document's check, so many functions behind it. -/
structure CkI (C : List Ri) (FS : List Rf) (i next : Nat) : Prop where
  cut : cutF (C.length : Nat) 0 FS = cutF (C.length : Nat) (next : Int) (FS.drop i)
  le : next ≤ C.length
  nm : ∀ j (h : j < FS.length), j < i → nmOk (nml FS[j].name) = true
  nd : ((FS.map fun f : Rf => nml f.name).take i).Nodup
  fn : ∀ j (h : j < FS.length), j < i → funF C FS.length FS[j] = true
theorem CkI.start (C : List Ri) (FS : List Rf) : CkI C FS 0 0 := ⟨rfl, Nat.zero_le _, fun j h q => by omega, by simp, fun j h q => by omega⟩
theorem cutF_cons (len next : Int) (f : Rf) (FS : List Rf) : cutF len next (f :: FS) = (decide (f.fi = next ∧ 1 ≤ f.ct ∧ f.ct ≤ len - next) && cutF len (next + f.ct) FS) := rfl
theorem form_cut {C FS m} (h : cutF (C.length : Nat) 0 FS = false) : formR C FS m = false := by
  unfold formR
  rw [h]
  rfl
theorem form_names {C FS m} (h : namesP FS = false) : formR C FS m = false := by
  unfold formR
  rw [h]
  simp
theorem form_fun {C FS m} {i : Nat} (hi : i < FS.length) (h : funF C FS.length FS[i] = false) : formR C FS m = false := by
  unfold formR
  have : FS.all (funF C FS.length) = false := by
    rw [← Bool.not_eq_true, List.all_eq_true]
    intro q
    have := q FS[i] (List.getElem_mem _)
    rw [h] at this
    cases this
  rw [this]
  simp
theorem CkI.bad1 {C FS i next m} (h : CkI C FS i next) (hi : i < FS.length) (hb : ¬ (FS[i].fi = (next : Int) ∧ 1 ≤ FS[i].ct ∧ FS[i].ct ≤ (C.length : Int) - (next : Int))) : formR C FS m = false := by
  refine form_cut ?_
  rw [h.cut, List.drop_eq_getElem_cons hi, cutF_cons, decide_eq_false hb]
  rfl
theorem funF_bad2 {C n} {f : Rf} (h : ¬ ((2 ≤ f.fr ∧ f.fr ≤ 1099511627776) ∧ 0 ≤ f.pa ∧ f.pa ≤ 8)) : funF C n f = false := by
  unfold funF
  by_cases h1 : 2 ≤ f.fr ∧ f.fr ≤ 1099511627776
  · rw [decide_eq_false (show ¬ (0 ≤ f.pa ∧ f.pa ≤ 8) from fun q => h ⟨h1, q⟩)]
    simp
  · rw [decide_eq_false h1]
    rfl
theorem names_bad {FS : List Rf} {i : Nat} (hi : i < FS.length) (h : nmOk (nml FS[i].name) = false) : namesP FS = false := by
  unfold namesP
  have : (FS.all fun f : Rf => nmOk (nml f.name)) = false := by
    rw [← Bool.not_eq_true, List.all_eq_true]
    intro q
    have := q FS[i] (List.getElem_mem _)
    rw [h] at this
    cases this
  rw [this]
  rfl
theorem names_dup {FS : List Rf} {i j : Nat} (hi : i < FS.length) (hj : j < i) (h : (FS[j]'(by omega)).name = FS[i].name) : namesP FS = false := by
  unfold namesP
  have : ¬ (FS.map fun f : Rf => nml f.name).Nodup := fun q => by
    have := (List.getElem_inj (i := j) (j := i) (h₀ := by simp; omega) (h₁ := by simp; exact hi) q).1 (by simp [h])
    omega
  rw [decide_eq_false this]
  simp
theorem funF_ins {C n} {f : Rf} {t : Nat} (h0 : 0 ≤ f.fi) (h1 : f.fi ≤ (t : Int)) (h2 : (t : Int) < f.fi + f.ct) (ht : t < C.length) (h : (regsF C[t] && numF n f C[t]) = false) : funF C n f = false := by
  unfold funF
  have : (((C.drop f.fi.toNat).take f.ct.toNat).all fun x => regsF x && numF n f x) = false := by
    rw [← Bool.not_eq_true, List.all_eq_true]
    intro q
    have := q C[t] (by
      rw [List.mem_iff_getElem?]
      refine ⟨t - f.fi.toNat, ?_⟩
      rw [List.getElem?_take_of_lt (by omega), List.getElem?_drop, show f.fi.toNat + (t - f.fi.toNat) = t by omega]
      simp [ht])
    rw [h] at this
    cases this
  rw [this]
  simp
theorem funF_last {C n} {f : Rf} {t : Nat} (h0 : (t : Int) = f.fi + f.ct - 1) (ht : t < C.length) (h : lastF C[t].op = false) : funF C n f = false := by
  unfold funF
  have e : C.getD (f.fi + f.ct - 1).toNat riZ = C[t] := by
    rw [← h0, Int.toNat_natCast]
    simp [List.getD, ht]
  rw [e, h]
  simp
theorem funF_all {C n} {f : Rf} {p c : Nat} (hp : f.fi = (p : Int)) (hc : f.ct = ((c + 1 : Nat) : Int)) (hl : p + (c + 1) ≤ C.length) (h1 : (2 ≤ f.fr ∧ f.fr ≤ 1099511627776) ∧ 0 ≤ f.pa ∧ f.pa ≤ 8) (h2 : ∀ t (h : t < C.length), p ≤ t → t < p + (c + 1) → (regsF C[t] && numF n f C[t]) = true) (h3 : lastF (C[p + c]'(by omega)).op = true) : funF C n f = true := by
  unfold funF
  rw [decide_eq_true h1.1, decide_eq_true h1.2]
  have e : C.getD (f.fi + f.ct - 1).toNat riZ = C[p + c] := by
    rw [hp, hc, show ((p : Int) + ((c + 1 : Nat) : Int) - 1) = ((p + c : Nat) : Int) by omega, Int.toNat_natCast]
    have : p + c < C.length := by omega
    simp [List.getD, this]
  rw [e, h3]
  simp only [Bool.true_and, Bool.and_true]
  rw [List.all_eq_true]
  intro x hx
  rw [List.mem_iff_getElem?] at hx
  obtain ⟨q, hq⟩ := hx
  rw [hp, hc, Int.toNat_natCast, Int.toNat_natCast] at hq
  have hqc : q < c + 1 := by
    have := (List.getElem?_eq_some_iff.1 hq).1
    rw [List.length_take] at this
    omega
  rw [List.getElem?_take_of_lt hqc, List.getElem?_drop] at hq
  obtain ⟨hq1, hq2⟩ := List.getElem?_eq_some_iff.1 hq
  rw [← hq2]
  exact h2 (p + q) hq1 (by omega) (by omega)
theorem CkI.more {C FS i next c} (h : CkI C FS i next) (hi : i < FS.length) (hp : FS[i].fi = (next : Int)) (hc : FS[i].ct = ((c + 1 : Nat) : Int)) (hl : next + (c + 1) ≤ C.length) (hn : nmOk (nml FS[i].name) = true) (hd : ∀ j (hj : j < i), ¬ (FS[j]'(by omega)).name = FS[i].name) (hf : funF C FS.length FS[i] = true) : CkI C FS (i + 1) (next + (c + 1)) := by
  refine ⟨?_, hl, fun j q1 q2 => ?_, ?_, fun j q1 q2 => ?_⟩
  · rw [h.cut, List.drop_eq_getElem_cons hi, cutF_cons, decide_eq_true (show FS[i].fi = (next : Int) ∧ 1 ≤ FS[i].ct ∧ FS[i].ct ≤ (C.length : Int) - (next : Int) by omega), hc, Bool.true_and]
    rfl
  · rcases Nat.lt_succ_iff_lt_or_eq.1 q2 with q | rfl
    · exact h.nm j q1 q
    · exact hn
  · have hl2 : i < (FS.map fun f : Rf => nml f.name).length := by simpa using hi
    rw [← List.take_append_getElem hl2, List.nodup_append]
    refine ⟨h.nd, by simp, fun a ha b hb e => ?_⟩
    simp at hb
    subst hb
    rw [e] at ha
    rw [List.mem_iff_getElem] at ha
    obtain ⟨j, hj, ej⟩ := ha
    rw [List.length_take] at hj
    have hji : j < i := by omega
    rw [List.getElem_take, List.getElem_map] at ej
    exact hd j hji (nml_inj ej)
  · rcases Nat.lt_succ_iff_lt_or_eq.1 q2 with q | rfl
    · exact h.fn j q1 q
    · exact hf
theorem CkI.fin {C FS next m} (h : CkI C FS FS.length next) : formR C FS m = (decide ((next : Int) = (C.length : Int)) && mainF FS m) := by
  unfold formR
  have e1 : cutF (C.length : Nat) 0 FS = decide ((next : Int) = (C.length : Int)) := by
    rw [h.cut, List.drop_length]
    rfl
  have e2 : namesP FS = true := by
    unfold namesP
    have a : (FS.all fun f : Rf => nmOk (nml f.name)) = true := by
      rw [List.all_eq_true]
      intro f hf
      obtain ⟨j, hj, rfl⟩ := List.mem_iff_getElem.1 hf
      exact h.nm j hj hj
    have b := h.nd
    rw [List.take_of_length_le (by simp)] at b
    rw [a, decide_eq_true b]
    rfl
  have e3 : FS.all (funF C FS.length) = true := by
    rw [List.all_eq_true]
    intro f hf
    obtain ⟨j, hj, rfl⟩ := List.mem_iff_getElem.1 hf
    exact h.fn j hj hj
  rw [e1, e2, e3]
  simp
/-- The document's error. -/
def ckE (T : Bool) : Int := if T = true then 0 else 210
end Go.Proofs.YtfofmmkihhnfmaaGreatDoor
