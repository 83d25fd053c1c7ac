import Derived.Test.YtdbkjjelaipcfaaDoorSuU
set_option linter.unusedVariables false
set_option linter.unusedSimpArgs false
namespace Go.Proofs.YtdbkjjelaipcfaaDoor
open Go.ChangeShapes Go.WideShapes Go.ChangeAt Go.RowKit Go.Maps

/-- A chain of blocks. -/
def cnB (n : Nat) (a z : List Int) (i : Nat) : Bk := ⟨[], if i + 1 = n then z else if i = 0 then a else [], if i + 1 = n then 3 else 1, -1, if i + 1 = n then [] else [(i : Int) + 1], if i = 0 then [] else [(i : Int) - 1]⟩
def cnF (n : Nat) (a z : List Int) : Fu := ⟨⟨#[109, 97, 105, 110]⟩, [], 0, [⟨1, 1, 7, []⟩, ⟨26, 0, 0, [0]⟩], (List.range n).map (cnB n a z)⟩
theorem cn_len (n : Nat) (a z : List Int) : (cnF n a z).blks.length = n := by simp [cnF]
theorem cn_at (n : Nat) (a z : List Int) (i : Nat) (h : i < (cnF n a z).blks.length) : (cnF n a z).blks[i] = cnB n a z i := by simp [cnF]
theorem cn_get (n : Nat) (a z : List Int) {i : Nat} (h : i < n) : (cnF n a z).blks.getD i noB = cnB n a z i := by
  have h2 : i < (cnF n a z).blks.length := by rw [cn_len]; exact h
  rw [List.getD, List.getElem?_eq_getElem h2, cn_at]; rfl
theorem cn_mem {n : Nat} {a z : List Int} {b : Bk} (h : b ∈ (cnF n a z).blks) : ∃ i, i < n ∧ b = cnB n a z i := by
  obtain ⟨i, hi, e⟩ := List.mem_map.1 h
  exact ⟨i, List.mem_range.1 hi, e.symm⟩
/-- Where the two values stand. -/
structure Abz (a z : List Int) : Prop where
  out : (a = [0] ∧ z = [1]) ∨ (a = [] ∧ z = [0, 1]) ∨ (a = [] ∧ z = [1, 0])
theorem Abz.mem {a z : List Int} (h : Abz a z) : (∀ x ∈ a, x = 0 ∨ x = 1) ∧ (∀ x ∈ z, x = 0 ∨ x = 1) := by
  rcases h.out with ⟨rfl, rfl⟩ | ⟨rfl, rfl⟩ | ⟨rfl, rfl⟩ <;> simp
theorem Abz.body {n : Nat} {a z : List Int} (h : Abz a z) (i : Nat) : ∀ x ∈ (cnB n a z i).body, x = 0 ∨ x = 1 := by
  intro x hx
  simp only [cnB] at hx
  split at hx
  · exact h.mem.2 x hx
  · split at hx
    · exact h.mem.1 x hx
    · simp at hx
theorem cn_gv (n : Nat) (a z : List Int) : gv (cnF n a z) 0 = ⟨1, 1, 7, []⟩ ∧ gv (cnF n a z) 1 = ⟨26, 0, 0, [0]⟩ := ⟨rfl, rfl⟩
theorem cn_form {n : Nat} {a z : List Int} (hn : 2 ≤ n) (h : Abz a z) (FS : List Fu) (hF : 0 < FS.length) : formP FS (cnF n a z) = true := by
  obtain ⟨g0, g1⟩ := cn_gv n a z
  have hv : (cnF n a z).vals.all (valueP (cnF n a z) FS) = true := by
    simp only [cnF, List.all_cons, List.all_nil, Bool.and_true, Bool.and_eq_true]
    constructor
    · simp [valueP, isOpn, immP, countP, shp, isTn]
    · simp [valueP, isOpn, immP, countP, shp, isTn, wi]
  have hb : (cnF n a z).blks.all (blockP (cnF n a z)) = true := by
    rw [List.all_eq_true]
    intro b hb
    obtain ⟨i, hi, rfl⟩ := cn_mem hb
    have hbody := h.body (n := n) i
    simp only [blockP, Bool.and_eq_true, List.all_eq_true]
    refine ⟨fun x hx => by simp [cnB] at hx, fun x hx => ?_, fun x hx => ?_, ?_⟩
    · rcases hbody x hx with rfl | rfl
      · simp only [mayP, g0, Bool.and_eq_true]; exact ⟨by simp [wi, cnF], by decide⟩
      · simp only [mayP, g1, Bool.and_eq_true]; exact ⟨by simp [wi, cnF], by decide⟩
    · rw [cn_len]
      simp only [cnB] at hx
      split at hx
      · simp at hx
      · simp at hx; simp [wi]; omega
    · simp only [termP, cnB, cn_len]
      by_cases e : i + 1 = n
      · simp [e, tcount, tuses, cnF]
      · simp [e, tcount, tuses, wi]; omega
  have e1 : (cnF n a z).params = [] := rfl
  have e2 : (cnF n a z).vals.length = 2 := rfl
  have e3 : (cnF n a z).result = 0 := rfl
  simp only [formP, Bool.and_eq_true, decide_eq_true_eq]
  refine ⟨by rw [e1]; simp, by rw [e2]; omega, by rw [cn_len]; omega, by rw [e3]; decide, by rw [e1]; rfl, hv, hb⟩
theorem cn_ways {n : Nat} {a z : List Int} {k : Nat} (hk : k < n) : (waysP (cnF n a z)).getD k [] = if k + 1 = n then [] else [(k : Int) + 1] := by
  rw [waysP_at _ k (by rw [cn_len]; exact hk), cn_at]; rfl
theorem cn_fr {n : Nat} {a z : List Int} : ∀ k, k ≤ n → ∀ i, i < n → (frN n (waysP (cnF n a z)) k).length = n ∧ (frN n (waysP (cnF n a z)) k).getD i [] = if 1 ≤ i ∧ i ≤ k then [(i : Int) - 1] else []
  | 0, _, i, hi => by
    refine ⟨by simp [frN], ?_⟩
    rw [if_neg (by omega)]
    simp [frN, List.getD, hi]
  | k + 1, hk, i, hi => by
    have ih := cn_fr (n := n) (a := a) (z := z) k (by omega)
    simp only [frN]
    rw [cn_ways (k := k) (by omega)]
    by_cases e : k + 1 = n
    · rw [if_pos e]
      refine ⟨(ih i hi).1, ?_⟩
      show (frN n (waysP (cnF n a z)) k).getD i [] = _
      rw [(ih i hi).2]
      split <;> split <;> first | rfl | omega
    · rw [if_neg e]
      have hl := (ih i hi).1
      simp only [frIn, List.foldl_cons, List.foldl_nil]
      rw [show ((k : Int) + 1).toNat = k + 1 by omega]
      refine ⟨by rw [List.length_set]; exact hl, ?_⟩
      rw [getD_setL (by rw [hl]; omega)]
      by_cases e2 : i = k + 1
      · rw [if_pos e2, (ih (k + 1) (by omega)).2, if_neg (by omega), if_pos (by omega), e2]
        simp
      · rw [if_neg e2, (ih i hi).2]
        split <;> split <;> first | rfl | omega
theorem cn_preds {n : Nat} {a z : List Int} (hn : 2 ≤ n) : predsP (cnF n a z) = true := by
  have hf : ∀ i, i < n → (frP (cnF n a z)).getD i [] = if 1 ≤ i ∧ i ≤ n then [(i : Int) - 1] else [] := fun i hi => by
    unfold frP
    rw [cn_len]
    exact (cn_fr n (Nat.le_refl _) i hi).2
  simp only [predsP, Bool.and_eq_true, decide_eq_true_eq]
  refine ⟨by rw [hf 0 (by omega)]; simp, ?_⟩
  rw [evr_iff]
  intro i hi
  rw [cn_at]
  have hi' : i < n := by rw [cn_len] at hi; exact hi
  rw [Nat.zero_add, hf i hi', decide_eq_true_eq]
  simp only [cnB]
  split <;> split <;> first | rfl | omega
theorem cn_good {n : Nat} {a z : List Int} (hn : 2 ≤ n) (h : Abz a z) : goodP (waysP (cnF n a z)) = true := ways_good (cn_form hn h [cnF n a z] (by simp))
theorem cn_all {n : Nat} {a z : List Int} (hn : 2 ≤ n) (h : Abz a z) : ∀ i : Nat, i < n → (i : Int) ∈ (walkP (waysP (cnF n a z))).bl
  | 0, _ => walkP_zero
  | i + 1, hi => by
    have := cn_all hn h i (by omega)
    refine walkP_closed (cn_good hn h) _ this _ ?_
    unfold rowOf
    rw [Int.toNat_natCast, cn_ways (by omega), if_neg (by omega)]
    simp
theorem cn_reach {n : Nat} {a z : List Int} (hn : 2 ≤ n) (h : Abz a z) : reachedP (cnF n a z) = true := by
  unfold reachedP reachP
  rw [if_pos (cn_good hn h), List.all_eq_true]
  intro b hb
  unfold rch at hb
  obtain ⟨i, hi, rfl⟩ := List.mem_map.1 hb
  rw [List.mem_range, waysP_len, cn_len] at hi
  simpa using cn_all hn h i hi
theorem cn_phis {n : Nat} {a z : List Int} (hn : 2 ≤ n) (h : Abz a z) : phisP (cnF n a z) = true := by
  obtain ⟨g0, g1⟩ := cn_gv n a z
  simp only [phisP, Bool.and_eq_true, decide_eq_true_eq, List.all_eq_true]
  refine ⟨by rw [cn_get n a z (by omega)]; rfl, fun b hb => ?_⟩
  obtain ⟨i, hi, rfl⟩ := cn_mem hb
  simp only [phiB, Bool.and_eq_true, List.all_eq_true]
  refine ⟨fun x hx => by simp [cnB] at hx, fun x hx => ?_⟩
  rcases h.body i x hx with rfl | rfl
  · simp only [isPh, g0]; decide
  · simp only [isPh, g1]; decide
theorem cn_cnt {n : Nat} {a z : List Int} (hn : 2 ≤ n) : ∀ k, 1 ≤ k → k < n → cntK (cnF n a z) k = cntL [0, 0] a
  | 0, h, _ => by omega
  | k + 1, _, hk => by
    rw [cntK_next _ (by rw [cn_len]; omega), cn_at]
    have eb : (cnB n a z k).body = if k = 0 then a else [] := by simp only [cnB]; rw [if_neg (by omega)]
    unfold cntB
    rw [eb, show (cnB n a z k).phis = [] from rfl]
    by_cases e : k = 0
    · subst e
      rw [if_pos rfl]
      rfl
    · rw [if_neg e, cn_cnt hn k (by omega) (by omega)]
      rfl
theorem cn_once {n : Nat} {a z : List Int} (hn : 2 ≤ n) (h : Abz a z) : onceP (cnF n a z) = true := by
  have e : cntAll (cnF n a z) = cntL (cntL [0, 0] a) z := by
    unfold cntAll
    rw [cn_len]
    obtain ⟨m, rfl⟩ : ∃ m, n = m + 1 := ⟨n - 1, by omega⟩
    rw [cntK_next _ (by rw [cn_len]; omega), cn_at, cn_cnt hn m (by omega) (by omega)]
    unfold cntB
    rw [show (cnB (m + 1) a z m).phis = [] from rfl, show (cnB (m + 1) a z m).body = z by simp [cnB]]
    rfl
  unfold onceP
  rw [e]
  rcases h.out with ⟨rfl, rfl⟩ | ⟨rfl, rfl⟩ | ⟨rfl, rfl⟩ <;> decide
theorem cn_types {n : Nat} {a z : List Int} (FS : List Fu) : typesP FS (cnF n a z) = true := by
  obtain ⟨g0, g1⟩ := cn_gv n a z
  simp only [typesP, Bool.and_eq_true, List.all_eq_true]
  refine ⟨fun v hv => ?_, fun b hb => ?_⟩
  · simp only [cnF, List.mem_cons, List.not_mem_nil, or_false] at hv
    rcases hv with rfl | rfl
    · simp [typeP, constP]
    · simp only [typeP]
      simp [shp, evr, isP, g0, shA, isTy]
  · obtain ⟨i, hi, rfl⟩ := cn_mem hb
    simp only [termTy, cnB]
    split <;> simp
theorem cn_places {n : Nat} {a z : List Int} (hn : 2 ≤ n) : ∀ k, 1 ≤ k → k < n → plK (cnF n a z) k = plB 0 a a.length [(0, 0), (0, 0)]
  | 0, h, _ => by omega
  | k + 1, _, hk => by
    simp only [plK]
    rw [cn_get n a z (by omega)]
    have eb : (cnB n a z k).body = if k = 0 then a else [] := by simp only [cnB]; rw [if_neg (by omega)]
    unfold plS
    rw [eb, show (cnB n a z k).phis = [] from rfl]
    by_cases e : k = 0
    · subst e
      rw [if_pos rfl]
      rfl
    · rw [if_neg e, cn_places hn k (by omega) (by omega)]
      rfl
theorem cn_place {n : Nat} {a z : List Int} (hn : 2 ≤ n) : placesP (cnF n a z) = plB ((n : Int) - 1) z z.length (plB 0 a a.length [(0, 0), (0, 0)]) := by
  unfold placesP
  rw [cn_len]
  obtain ⟨m, rfl⟩ : ∃ m, n = m + 1 := ⟨n - 1, by omega⟩
  simp only [plK]
  rw [cn_get _ a z (by omega), cn_places hn m (by omega) (by omega)]
  unfold plS
  rw [show (cnB (m + 1) a z m).phis = [] from rfl, show (cnB (m + 1) a z m).body = z by simp [cnB], show ((m + 1 : Nat) : Int) - 1 = m by omega]
  rfl
/-- The first block's numbers hold every block's. -/
theorem cn_over {n : Nat} {a z : List Int} (hn : 2 ≤ n) (h : Abz a z) {i : Nat} (hi : i < n) : holdsP (gp (regP (treeF (cnF n a z))) 0) (gp (regP (treeF (cnF n a z))) i) = true := by
  have hg := cn_good hn h
  have hall : ∀ i : Nat, i < (waysP (cnF n a z)).length → (i : Int) ∈ (walkP (waysP (cnF n a z))).bl := fun i hi => cn_all hn h i (by rw [waysP_len, cn_len] at hi; exact hi)
  have hl : (treeF (cnF n a z)).length = n := by rw [treeF, treeP_len hg, waysP_len, cn_len]
  have := (reg_holds (tree_ok hg hall) (a := 0) (b := i) (by show 0 < (treeF (cnF n a z)).length; rw [hl]; omega) (by show i < (treeF (cnF n a z)).length; rw [hl]; exact hi)).2
  refine this ⟨walkP_zero, cn_all hn h i hi, ?_⟩
  rw [woP, if_pos (by simp)]; simp
theorem cn_usesIff {n : Nat} {a z : List Int} (hn : 2 ≤ n) (h : Abz a z) : usesP (cnF n a z) = evr (useV (cnF n a z) (placesP (cnF n a z)) (regP (treeF (cnF n a z))) (n - 1)) 0 z := by
  obtain ⟨g0, g1⟩ := cn_gv n a z
  have hz : ∀ i, useB (cnF n a z) (placesP (cnF n a z)) (regP (treeF (cnF n a z))) i (cnB n a z i) = evr (useV (cnF n a z) (placesP (cnF n a z)) (regP (treeF (cnF n a z))) i) 0 (cnB n a z i).body := fun i => by
    simp only [useB]
    rw [show (cnB n a z i).phis = [] from rfl, show (cnB n a z i).val = -1 from rfl]
    simp
  rw [Bool.eq_iff_iff]
  unfold usesP
  rw [evr_iff]
  constructor
  · intro q
    have := q (n - 1) (by rw [cn_len]; omega)
    rw [cn_at, Nat.zero_add, hz] at this
    rw [show (cnB n a z (n - 1)).body = z by simp [cnB]; omega] at this
    exact this
  · intro q i hi
    rw [cn_at, Nat.zero_add, hz]
    rw [cn_len] at hi
    by_cases e : i + 1 = n
    · rw [show i = n - 1 by omega]
      rw [show (cnB n a z (n - 1)).body = z by simp [cnB]; omega]
      exact q
    · have eb : (cnB n a z i).body = if i = 0 then a else [] := by simp only [cnB]; rw [if_neg e]
      rw [eb]
      split
      · rcases h.out with ⟨rfl, rfl⟩ | ⟨rfl, rfl⟩ | ⟨rfl, rfl⟩
        · simp [evr, useV, g0]
        · rfl
        · rfl
      · rfl
theorem cn_uses {n : Nat} {a z : List Int} (hn : 2 ≤ n) (h : Abz a z) : usesP (cnF n a z) = !decide (z = [1, 0]) := by
  obtain ⟨g0, g1⟩ := cn_gv n a z
  rw [cn_usesIff hn h]
  have hp := cn_place (a := a) (z := z) hn
  have ho := cn_over hn h (i := n - 1) (by omega)
  generalize regP (treeF (cnF n a z)) = R at ho
  rw [hp]
  have hne : ¬ (0 : Int) = ((n - 1 : Nat) : Int) := by omega
  have hnn : ((n - 1 : Nat) : Int) = (n : Int) - 1 := by omega
  rcases h.out with ⟨rfl, rfl⟩ | ⟨rfl, rfl⟩ | ⟨rfl, rfl⟩
  · simp only [evr, useV, g1, plB, gn, List.length_cons, List.length_nil]
    simp [aheadP, thereP, hne]
    simpa [gp] using ho
  · simp only [evr, useV, g0, g1, plB, gn, List.length_cons, List.length_nil]
    simp [aheadP, hnn]
  · simp only [evr, useV, g0, g1, plB, gn, List.length_cons, List.length_nil]
    simp [aheadP, hnn]
theorem cn_check {n : Nat} {a z : List Int} (hn : 2 ≤ n) (h : Abz a z) : checkP [cnF n a z] 0 = if z = [1, 0] then 96 else 0 := by
  have hform := cn_form hn h [cnF n a z] (by simp)
  have hfp : formedP [cnF n a z] 0 = true := by
    have e1 : namesP [cnF n a z] = true := by
      have : namesP [cnF n a z] = namesP [loopF] := rfl
      rw [this]; decide +kernel
    have e2 : mainP [cnF n a z] 0 = true := by simp [mainP, wi, cnF]
    simp only [formedP, e1, e2, List.all_cons, List.all_nil, hform, Bool.and_true]
  unfold checkP
  rw [if_neg (by rw [hfp]; simp)]
  simp only [firstP, faultP, cn_preds hn, cn_reach hn h, cn_phis hn h, cn_once hn h, cn_types, cn_uses hn h]
  by_cases e : z = [1, 0]
  · simp [e]
  · simp [e]
theorem cn_few {n : Nat} {a z : List Int} (hn : n ≤ 1000) (h : Abz a z) : FewF (cnF n a z) := by
  refine ⟨by rw [cn_len]; omega, ?_⟩
  unfold totK
  rw [List.take_of_length_le (Nat.le_refl _)]
  have hb : ∀ i, (cnB n a z i).phis.length + (cnB n a z i).body.length ≤ 2 := fun i => by
    simp only [cnB]
    rcases h.out with ⟨rfl, rfl⟩ | ⟨rfl, rfl⟩ | ⟨rfl, rfl⟩ <;> (repeat' split) <;> simp
  have key : ∀ l : List Nat, ((l.map (cnB n a z)).map fun b => b.phis.length + b.body.length).sum ≤ 2 * l.length := by
    intro l
    induction l with
    | nil => simp
    | cons x xs ih => have := hb x; simp only [List.map_cons, List.sum_cons, List.length_cons]; omega
  have := key (List.range n)
  simp only [List.length_range] at this
  simp only [cnF, List.length_nil]
  omega
end Go.Proofs.YtdbkjjelaipcfaaDoor
