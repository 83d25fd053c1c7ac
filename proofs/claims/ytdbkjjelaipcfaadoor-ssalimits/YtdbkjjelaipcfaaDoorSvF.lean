import Derived.Test.YtdbkjjelaipcfaaDoorSuU
set_option linter.unusedVariables false
set_option linter.unusedSimpArgs false
namespace Go.Proofs.YtdbkjjelaipcfaaDoor
open Go.ChangeShapes Go.WideShapes Go.ChangeAt Go.RowKit Go.Maps

/-- Functions of one block. -/
def lmM : Fu := ⟨⟨#[109, 97, 105, 110]⟩, [], 0, [], [⟨[], [], 3, -1, [], []⟩]⟩
def lmF (nm : ByteArray) (ps : List Int) (r : Int) (vs : List Vl) (bo : List Int) (vl : Int) : Fu := ⟨nm, ps, r, vs, [⟨[], bo, 3, vl, [], []⟩]⟩
def nmF : ByteArray := ⟨#[102]⟩
theorem lm_ways (nm ps r vs bo vl) : waysP (lmF nm ps r vs bo vl) = [[]] := rfl
theorem lm_preds (nm ps r vs bo vl) : predsP (lmF nm ps r vs bo vl) = true := by
  simp only [predsP, frP, lm_ways]
  rfl
theorem lm_reach (nm ps r vs bo vl) : reachedP (lmF nm ps r vs bo vl) = true := by
  unfold reachedP
  rw [lm_ways]
  decide +kernel
theorem lm_tree (nm ps r vs bo vl) : regP (treeF (lmF nm ps r vs bo vl)) = [(0, 1)] := by
  unfold treeF
  rw [lm_ways]
  decide +kernel
theorem lm_main : formP [lmM, lmM] lmM = true ∧ faultP [lmM, lmM] lmM = 0 := by decide +kernel
theorem formM (f : Fu) : formP [lmM, f] lmM = true := by
  have : formP [lmM, f] lmM = formP [lmM, lmM] lmM := rfl
  rw [this]; exact lm_main.1
theorem faultM (f : Fu) : faultP [lmM, f] lmM = 0 := by
  have : faultP [lmM, f] lmM = faultP [lmM, lmM] lmM := rfl
  rw [this]; exact lm_main.2
theorem mainM (f : Fu) : mainP [lmM, f] 0 = true := rfl
/-- What Check tells of main and one other function. -/
theorem lm_check {f : Fu} (hn : namesP [lmM, f] = true) (hf : formP [lmM, f] f = true) (h0 : faultP [lmM, f] f = 0) : checkP [lmM, f] 0 = 0 := by
  have : formedP [lmM, f] 0 = true := by simp only [formedP, hn, mainM, List.all_cons, List.all_nil, formM, hf, Bool.and_true]
  unfold checkP
  rw [if_neg (by rw [this]; simp)]
  simp [firstP, faultM, h0]
theorem lm_not {f : Fu} (h : namesP [lmM, f] = false ∨ formP [lmM, f] f = false) : checkP [lmM, f] 0 = 90 := by
  have : formedP [lmM, f] 0 = false := by
    rcases h with h | h
    · simp [formedP, h]
    · simp [formedP, h]
  unfold checkP
  rw [if_pos this]
theorem lm_names (ps r vs bo vl) : namesP [lmM, lmF nmF ps r vs bo vl] = true := by
  have : namesP [lmM, lmF nmF ps r vs bo vl] = namesP [lmM, lmF nmF [] 0 [] [] 0] := rfl
  rw [this]; decide +kernel
theorem lm_fault {nm ps r vs bo vl} (FS : List Fu) (h1 : phisP (lmF nm ps r vs bo vl) = true) (h2 : onceP (lmF nm ps r vs bo vl) = true) (h3 : typesP FS (lmF nm ps r vs bo vl) = true) (h4 : usesP (lmF nm ps r vs bo vl) = true) : faultP FS (lmF nm ps r vs bo vl) = 0 := by
  simp [faultP, lm_preds, lm_reach, h1, h2, h3, h4]
/-- Kind 3: a result. -/
def lm3 (r : Int) : Fu := if r = 0 then lmF nmF [] 0 [] [] (-1) else lmF nmF [] r [⟨1, r, 0, []⟩] [0] 0
theorem lm3_check (r : Int) : checkP [lmM, lm3 r] 0 = if 0 ≤ r ∧ r ≤ 3 then 0 else 90 := by
  by_cases h : 0 ≤ r ∧ r ≤ 3
  · rw [if_pos h]
    have : r = 0 ∨ r = 1 ∨ r = 2 ∨ r = 3 := by omega
    rcases this with rfl | rfl | rfl | rfl <;> decide +kernel
  · rw [if_neg h]
    refine lm_not (.inr ?_)
    have h0 : ¬ r = 0 := by omega
    have hr : isTn r = false := by simp [isTn]; omega
    unfold lm3
    rw [if_neg h0]
    simp only [formP, lmF, hr, Bool.false_and, Bool.and_false]
/-- The numbers below n. -/
def rng (n : Nat) : List Int := (List.range n).map Int.ofNat
theorem rng_len (n : Nat) : (rng n).length = n := by simp [rng]
theorem rng_mem {n : Nat} {x : Int} (h : x ∈ rng n) : 0 ≤ x ∧ x < n := by
  obtain ⟨i, hi, rfl⟩ := List.mem_map.1 h
  rw [List.mem_range] at hi
  simp; omega
theorem rng_at {n i : Nat} (h : i < (rng n).length) : (rng n)[i] = i := by simp [rng]
theorem rng_succ (n : Nat) : rng (n + 1) = rng n ++ [(n : Int)] := by simp [rng, List.range_succ]
theorem cnt_rng (n : Nat) : ∀ k, k ≤ n → cntL (List.replicate n 0) (rng k) = List.replicate k 1 ++ List.replicate (n - k) 0
  | 0, _ => by simp [rng, cntL]
  | k + 1, hk => by
    have ih := cnt_rng n k (by omega)
    have hl : k < (rng (k + 1)).length := by rw [rng_len]; omega
    have e := cntL_take (List.replicate n 0) (rng (k + 1)) hl
    have t1 : (rng (k + 1)).take (k + 1) = rng (k + 1) := List.take_of_length_le (by rw [rng_len]; omega)
    have t2 : (rng (k + 1)).take k = rng k := by rw [rng_succ, List.take_append_of_le_length (by rw [rng_len]; omega), List.take_of_length_le (by rw [rng_len]; omega)]
    rw [t1, t2, rng_at hl, ih, Int.toNat_natCast] at e
    rw [e]
    obtain ⟨d, hd⟩ : ∃ d, n - k = d + 1 := ⟨n - k - 1, by omega⟩
    rw [hd, show n - (k + 1) = d by omega]
    have hg : (List.replicate k (1 : Int) ++ List.replicate (d + 1) 0).getD k 0 = 0 := by
      simp [List.getD]
    rw [hg]
    rw [List.set_append_right _ _ (by simp)]
    rw [List.length_replicate, Nat.sub_self]
    rw [show List.replicate (d + 1) (0 : Int) = 0 :: List.replicate d 0 from rfl, List.set_cons_zero, List.replicate_succ', List.append_assoc]
    rfl
theorem cnt_all (n : Nat) : (cntL (List.replicate n 0) (rng n)).all (fun x => decide (x = 1)) = true := by
  rw [cnt_rng n n (Nat.le_refl _)]
  simp
/-- Kind 0: so many values. -/
def lm0 (n : Nat) : Fu := lmF nmF [] 0 ((List.range n).map fun i : Nat => ⟨1, 1, (i : Int), []⟩) (rng n) (-1)
theorem gv0 (n : Nat) {x : Int} (h : x ∈ rng n) : gv (lm0 n) x = ⟨1, 1, x, []⟩ := by
  have hx := rng_mem h
  obtain ⟨i, rfl⟩ : ∃ i : Nat, x = i := ⟨x.toNat, by omega⟩
  rw [gv_at _ i (by simp [lm0, lmF]; omega)]
  simp [lm0, lmF]
theorem lm0_check (n : Nat) : checkP [lmM, lm0 n] 0 = if n ≤ 262143 then 0 else 90 := by
  have hv : (lm0 n).vals.length = n := by simp [lm0, lmF]
  by_cases h : n ≤ 262143
  · rw [if_pos h]
    have hform : formP [lmM, lm0 n] (lm0 n) = true := by
      simp only [formP, Bool.and_eq_true, decide_eq_true_eq, hv, List.all_eq_true]
      refine ⟨by simp [lm0, lmF], by omega, by simp [lm0, lmF], rfl, rfl, fun v hv2 => ?_, fun b hb => ?_⟩
      · obtain ⟨i, hi, rfl⟩ := List.mem_map.1 hv2
        simp [valueP, isOpn, immP, countP, shp, isTn]
      · simp only [lm0, lmF, List.mem_singleton] at hb
        subst hb
        simp only [blockP, Bool.and_eq_true, List.all_eq_true]
        refine ⟨by simp, fun x hx => ?_, by simp, by simp [termP, tcount, tuses, lm0, lmF]⟩
        have hx2 := rng_mem hx
        have e := gv0 n hx
        have e2 : gv (lmF nmF [] 0 ((List.range n).map fun i : Nat => ⟨1, 1, (i : Int), []⟩) (rng n) (-1)) x = ⟨1, 1, x, []⟩ := e
        simp only [mayP, e, Bool.and_eq_true]
        exact ⟨by simp [wi, hv]; omega, by decide⟩
    refine lm_check (lm_names _ _ _ _ _) hform (lm_fault _ ?_ ?_ ?_ ?_)
    · simp only [phisP, Bool.and_eq_true, List.all_eq_true]
      refine ⟨by simp [lmF], fun b hb => ?_⟩
      simp only [lmF, List.mem_singleton] at hb
      subst hb
      simp only [phiB, Bool.and_eq_true, List.all_eq_true]
      refine ⟨by simp, fun x hx => ?_⟩
      have e : gv (lmF nmF [] 0 ((List.range n).map fun i : Nat => ⟨1, 1, (i : Int), []⟩) (rng n) (-1)) x = ⟨1, 1, x, []⟩ := gv0 n hx
      simp only [isPh, e]; decide
    · have : cntAll (lm0 n) = cntL (List.replicate n 0) (rng n) := by
        show cntL (cntL (cntL (List.replicate (lm0 n).vals.length 0) []) []) (rng n) = _
        rw [hv]; rfl
      show (cntAll (lm0 n)).all _ = true
      rw [this]; exact cnt_all n
    · simp only [typesP, Bool.and_eq_true, List.all_eq_true]
      refine ⟨fun v hv2 => ?_, fun b hb => ?_⟩
      · obtain ⟨i, hi, rfl⟩ := List.mem_map.1 hv2
        simp [typeP, constP]
      · simp only [lmF, List.mem_singleton] at hb
        subst hb
        simp [termTy]
    · unfold usesP
      rw [evr_iff]
      intro i hi
      have hi0 : i = 0 := by simp [lmF] at hi; omega
      subst hi0
      have e : (lmF nmF [] 0 ((List.range n).map fun i : Nat => ⟨1, 1, (i : Int), []⟩) (rng n) (-1)).blks[0] = ⟨[], rng n, 3, -1, [], []⟩ := rfl
      rw [e]
      simp only [useB, List.all_nil, Bool.true_and, decide_true, Bool.true_or, Bool.and_true]
      rw [evr_iff]
      intro j hj
      have hx : (rng n)[j] ∈ rng n := List.getElem_mem hj
      have e2 : gv (lmF nmF [] 0 ((List.range n).map fun i : Nat => ⟨1, 1, (i : Int), []⟩) (rng n) (-1)) (rng n)[j] = ⟨1, 1, (rng n)[j], []⟩ := gv0 n hx
      simp only [useV, e2, List.all_nil]
  · rw [if_neg h]
    refine lm_not (.inr ?_)
    have : decide ((lm0 n).vals.length < 262144) = false := by rw [hv]; simp; omega
    simp only [formP, this, Bool.false_and, Bool.and_false]
/-- Kind 1: so many parameters. -/
def lm1 (n : Nat) : Fu := lmF nmF (rng n) 0 ((List.range n).map fun i : Nat => ⟨33, 1 + (i : Int) % 3, (i : Int), []⟩) [] (-1)
theorem gv1 (n : Nat) {i : Nat} (h : i < n) : gv (lm1 n) (i : Int) = ⟨33, 1 + (i : Int) % 3, (i : Int), []⟩ := by
  rw [gv_at _ i (by simp [lm1, lmF]; omega)]
  simp [lm1, lmF]
theorem lm1_check (n : Nat) : checkP [lmM, lm1 n] 0 = if n ≤ 8 then 0 else 90 := by
  by_cases h : n ≤ 8
  · rw [if_pos h]
    have : n = 0 ∨ n = 1 ∨ n = 2 ∨ n = 3 ∨ n = 4 ∨ n = 5 ∨ n = 6 ∨ n = 7 ∨ n = 8 := by omega
    rcases this with rfl | rfl | rfl | rfl | rfl | rfl | rfl | rfl | rfl <;> decide +kernel
  · rw [if_neg h]
    refine lm_not (.inr ?_)
    have : decide ((lm1 n).params.length ≤ 8) = false := by simp [lm1, lmF, rng_len]; omega
    simp only [formP, this, Bool.false_and]
/-- Kind 2: a name of so many letters. -/
def let5 (i : Nat) : UInt8 := if i % 5 = 0 then 120 else if i % 5 = 1 then 89 else if i % 5 = 2 then 95 else if i % 5 = 3 then 122 else 57
def nm2 (n : Nat) : List UInt8 := (List.range n).map let5
def lm2 (n : Nat) : Fu := lmF (bs (nm2 n)) [] 0 [] [] (-1)
theorem nml_bs (l : List UInt8) : nml (bs l) = l := by simp [nml, bs]
theorem let5_nm (i : Nat) : isNm (let5 i) = true := by
  have : i % 5 = 0 ∨ i % 5 = 1 ∨ i % 5 = 2 ∨ i % 5 = 3 ∨ i % 5 = 4 := by omega
  unfold let5
  rcases this with e | e | e | e | e <;> simp [e] <;> decide
theorem nm2_ok (n : Nat) : nmOk (nm2 n) = decide (1 ≤ n ∧ n ≤ 64) := by
  rw [Bool.eq_iff_iff, decide_eq_true_iff]
  constructor
  · intro h
    simp only [nmOk, Bool.and_eq_true, decide_eq_true_eq] at h
    obtain ⟨⟨⟨h1, h2⟩, _⟩, _⟩ := h
    have hl : (nm2 n).length = n := by simp [nm2]
    refine ⟨?_, by omega⟩
    apply Classical.byContradiction
    intro q
    have : n = 0 := by omega
    subst this
    simp [nm2] at h2
  · rintro ⟨h1, h2⟩
    have hl : (nm2 n).length = n := by simp [nm2]
    obtain ⟨m, rfl⟩ : ∃ m, n = m + 1 := ⟨n - 1, by omega⟩
    have e : nm2 (m + 1) = 120 :: ((List.range m).map fun i => let5 (i + 1)) := by
      simp only [nm2, List.range_succ_eq_map, List.map_cons, List.map_map]
      rfl
    simp only [nmOk, Bool.and_eq_true, decide_eq_true_eq, Bool.not_eq_true']
    refine ⟨⟨⟨by omega, by rw [e]; show some (cl 120) = some 6; decide⟩, ?_⟩, ?_⟩
    · rw [List.all_eq_true]
      intro x hx
      obtain ⟨i, _, rfl⟩ := List.mem_map.1 hx
      exact let5_nm i
    · rw [← Bool.not_eq_true, List.contains_iff_mem]
      intro hm
      have hh : ∀ s ∈ WORDS, s.head? ≠ some 120 := by decide
      exact hh _ hm (by rw [e]; rfl)
theorem lm2_names (n : Nat) : namesP [lmM, lm2 n] = decide (1 ≤ n ∧ n ≤ 64) := by
  have e : namesP [lmM, lm2 n] = (nmOk [109, 97, 105, 110] && (nmOk (nm2 n) && true) && decide ([[109, 97, 105, 110], nm2 n].Nodup)) := by
    have q : nml (lm2 n).name = nm2 n := nml_bs _
    simp only [namesP, List.all_cons, List.all_nil, List.map_cons, List.map_nil, q]
    rfl
  rw [e, nm2_ok]
  have h1 : nmOk [109, 97, 105, 110] = true := by decide +kernel
  rw [h1]
  have h2 : [[109, 97, 105, 110], nm2 n].Nodup := by
    simp only [List.nodup_cons, List.mem_singleton, List.not_mem_nil, not_false_eq_true, List.nodup_nil, and_true]
    intro q
    have hl := congrArg List.length q
    simp [nm2] at hl
    rw [← hl] at q
    revert q
    decide
  rw [decide_eq_true h2]
  simp
theorem lm2_check (n : Nat) : checkP [lmM, lm2 n] 0 = if 1 ≤ n ∧ n ≤ 64 then 0 else 90 := by
  by_cases h : 1 ≤ n ∧ n ≤ 64
  · rw [if_pos h]
    refine lm_check (by rw [lm2_names, decide_eq_true h]) ?_ ?_
    · have : formP [lmM, lm2 n] (lm2 n) = formP [lmM, lm2 0] (lm2 0) := rfl
      rw [this]; decide +kernel
    · have : faultP [lmM, lm2 n] (lm2 n) = faultP [lmM, lm2 0] (lm2 0) := rfl
      rw [this]; decide +kernel
  · rw [if_neg h]
    exact lm_not (.inl (by rw [lm2_names, decide_eq_false h]))
end Go.Proofs.YtdbkjjelaipcfaaDoor
