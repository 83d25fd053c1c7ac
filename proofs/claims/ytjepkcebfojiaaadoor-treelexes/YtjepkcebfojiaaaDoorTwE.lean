import Derived.Test.YtjepkcebfojiaaaDoorTwD
set_option linter.unusedVariables false
set_option linter.unusedSimpArgs false
namespace Go.Proofs.YtjepkcebfojiaaaDoor
open Go.ChangeShapes Go.WideShapes Go.ChangeAt Go.RowKit

/-- Values in values: how many nodes a step has, the nodes, what stands ahead (turned) and behind. -/
def vD (how : Nat) : Nat := if how = 4 ∨ how = 5 then 2 else 1
def vS (how i : Nat) : List Nd :=
  if how = 2 then [nUn (20 + ((i % 3 : Nat) : Int)) [(i : Int)]]
  else if how = 3 then [nLen [(i : Int)]]
  else if how = 4 then [nNum 7, nMin [((2 * i : Nat) : Int), ((2 * i + 1 : Nat) : Int)]]
  else if how = 5 then [nNum 0, nIx [((2 * i : Nat) : Int), ((2 * i + 1 : Nat) : Int)]]
  else [nCall [103] [(i : Int)]]
def vA (how i : Nat) : List UInt8 :=
  if how = 2 then [([45, 33, 94] : List UInt8).getD (i % 3) 0]
  else if how = 3 then [40, 110, 101, 108]
  else if how = 4 then [] else if how = 5 then []
  else [40, 103]
def vB (how i : Nat) : List UInt8 :=
  if how = 2 then [] else if how = 3 then [41]
  else if how = 4 then [32, 45, 32, 55] else if how = 5 then [91, 48, 93]
  else [41]
def vN (how n : Nat) : List Nd := bld [nA] (vS how) n ++ [nPr [((vD how * n : Nat) : Int)], nBk [((vD how * n + 1 : Nat) : Int)], nFn [109, 97, 105, 110] [((vD how * n + 2 : Nat) : Int)]]
def vX (how n : Nat) : List UInt8 := (bld [] (vA how) n).reverse ++ [97] ++ bld [] (vB how) n
theorem vS_len (how i : Nat) : (vS how i).length = vD how := by
  unfold vS vD
  repeat' split
  all_goals first | rfl | omega
theorem vL_len (how n : Nat) : (bld [nA] (vS how) n).length = vD how * n + 1 := by rw [bld_len (vS_len how)]; simp; omega
theorem vN_len (how n : Nat) : (vN how n).length = vD how * n + 4 := by
  simp only [vN, List.length_append, vL_len, List.length_cons, List.length_nil]
theorem vN_0 (how n : Nat) : (vN how n)[0]? = some nA := by
  rw [vN, List.getElem?_append_left (by rw [vL_len]; omega), bld_pre (by simp)]; rfl
theorem vN_at {how n i j : Nat} (hi : i < n) (hj : j < vD how) : (vN how n)[vD how * i + j + 1]? = (vS how i)[j]? := by
  have h := bld_at (a := [nA]) (vS_len how) hj n hi
  rw [show [nA].length + vD how * i + j = vD how * i + j + 1 by simp; omega] at h
  have hm : vD how * i + vD how ≤ vD how * n := by
    have := Nat.mul_le_mul_left (vD how) (show i + 1 ≤ n by omega)
    rw [Nat.mul_succ] at this
    exact this
  rw [vN, List.getElem?_append_left (by rw [vL_len]; omega), h]
theorem vN_p (how n : Nat) : (vN how n)[vD how * n + 1]? = some (nPr [((vD how * n : Nat) : Int)]) := by
  rw [vN, List.getElem?_append_right (by rw [vL_len]; omega), vL_len, Nat.sub_self]; rfl
theorem vN_b (how n : Nat) : (vN how n)[vD how * n + 2]? = some (nBk [((vD how * n + 1 : Nat) : Int)]) := by
  rw [vN, List.getElem?_append_right (by rw [vL_len]; omega), vL_len, show vD how * n + 2 - (vD how * n + 1) = 1 by omega]; rfl
theorem vN_f (how n : Nat) : (vN how n)[vD how * n + 3]? = some (nFn [109, 97, 105, 110] [((vD how * n + 2 : Nat) : Int)]) := by
  rw [vN, List.getElem?_append_right (by rw [vL_len]; omega), vL_len, show vD how * n + 3 - (vD how * n + 1) = 2 by omega]; rfl
theorem vN_ex {how n x : Nat} (hx : x ≤ vD how * n) : isEx (kd (vN how n) (x : Int)) = true := by
  have hl : x < (bld [nA] (vS how) n).length := by rw [vL_len]; omega
  have h : (vN how n)[x]? = some (bld [nA] (vS how) n)[x] := by
    rw [vN, List.getElem?_append_left hl, List.getElem?_eq_getElem hl]
  rw [kd_of h]
  refine bld_mem (P := fun x : Nd => isEx x.kind = true) (by simp [nA, isEx]) ?_ n _ (List.getElem_mem hl)
  intro i x hx
  unfold vS at hx
  repeat' split at hx
  all_goals (simp at hx; try (rcases hx with rfl | rfl)) <;> first | (subst hx; rfl) | rfl
theorem vN_loop (how n : Nat) : cloop (vN how n) [] 0 (bld [nA] (vS how) n) = some [((vD how * n : Nat) : Int)] := by
  refine cloop_bld (vS_len how) (st := fun i => [((vD how * i : Nat) : Int)]) (by exact cl1 (nd := nA) [] rfl (by decide) (by simp [kfit, nA])) n fun i hi => ?_
  rw [show 0 + ([nA].length + vD how * i) = vD how * i + 1 by simp; omega]
  have hx : ∀ y, y ≤ vD how * i + 1 → vD how = 2 → isEx (kd (vN how n) (y : Int)) = true := fun y hy hd => vN_ex (by
    have := Nat.mul_le_mul_left (vD how) (show i + 1 ≤ n by omega)
    rw [Nat.mul_succ] at this
    omega)
  have hx1 : isEx (kd (vN how n) ((vD how * i : Nat) : Int)) = true := vN_ex (Nat.mul_le_mul_left _ (by omega))
  rw [Nat.mul_succ]
  by_cases h2 : how = 2
  · subst h2
    have hd : vD 2 = 1 := rfl
    rw [hd, Nat.one_mul] at hx1
    have e : vS 2 i = [nUn (20 + ((i % 3 : Nat) : Int)) [(i : Int)]] := rfl
    rw [e, hd, Nat.one_mul]
    refine cl1 [] rfl ?_ (by simp [kfit, nUn, allK, hx1])
    have hr : i % 3 < 3 := Nat.mod_lt _ (by omega)
    simp [ffit, nUn, mayOf, isEx, inR, nmFits]
    omega
  · by_cases h3 : how = 3
    · subst h3
      have hd : vD 3 = 1 := rfl
      rw [hd, Nat.one_mul] at hx1
      have e : vS 3 i = [nLen [(i : Int)]] := rfl
      rw [e, hd, Nat.one_mul]
      exact cl1 [] rfl rfl (by simp [kfit, nLen, allK, hx1])
    · by_cases h4 : how = 4
      · subst h4
        have hd : vD 4 = 2 := rfl
        have e : vS 4 i = [nNum 7, nMin [((2 * i : Nat) : Int), ((2 * i + 1 : Nat) : Int)]] := rfl
        have h1 := hx (2 * i) (by rw [hd]; omega) hd
        have h2 := hx (2 * i + 1) (by rw [hd]; omega) hd
        rw [e, hd]
        generalize hN : vN 4 n = N at *
        exact cl2 [] [] rfl (by decide) (by simp [kfit, nNum]) rfl rfl (by
          generalize ((2 * i : Nat) : Int) = K1 at *
          generalize ((2 * i + 1 : Nat) : Int) = K2 at *
          simp [kfit, nMin, allK, h1, h2])
      · by_cases h5 : how = 5
        · subst h5
          have hd : vD 5 = 2 := rfl
          have e : vS 5 i = [nNum 0, nIx [((2 * i : Nat) : Int), ((2 * i + 1 : Nat) : Int)]] := rfl
          have h1 := hx (2 * i) (by rw [hd]; omega) hd
          have h2 := hx (2 * i + 1) (by rw [hd]; omega) hd
          rw [e, hd]
          generalize hN : vN 5 n = N at *
          exact cl2 [] [] rfl (by decide) (by simp [kfit, nNum]) rfl rfl (by
            generalize ((2 * i : Nat) : Int) = K1 at *
            generalize ((2 * i + 1 : Nat) : Int) = K2 at *
            simp [kfit, nIx, allK, h1, h2])
        · have hd : vD how = 1 := by simp [vD, h4, h5]
          rw [hd, Nat.one_mul] at hx1
          have e : vS how i = [nCall [103] [(i : Int)]] := by simp [vS, h2, h3, h4, h5]
          rw [e, hd, Nat.one_mul]
          exact cl1 [] rfl (call_f _) (by simp [kfit, nCall, allK, hx1])
theorem vN_chk (how n : Nat) : chk ⟨vN how n, [((vD how * n + 3 : Nat) : Int)]⟩ = true := by
  refine chk_of ?_ (kd_of (vN_f how n))
  have h1 := vN_loop how n
  have e2 := vN_ex (how := how) (n := n) (Nat.le_refl _)
  have e3 := kd_of (vN_p how n)
  have e4 := kd_of (vN_b how n)
  rw [show vN how n = bld [nA] (vS how) n ++ [nPr [((vD how * n : Nat) : Int)], nBk [((vD how * n + 1 : Nat) : Int)], nFn [109, 97, 105, 110] [((vD how * n + 2 : Nat) : Int)]] from rfl] at h1 ⊢
  rw [cloop_app, ← vN] at *
  rw [h1, Option.bind_some, vL_len, Nat.zero_add]
  generalize hq : vD how * n = q at *
  have s1 : cstep (vN how n) [(q : Int)] (q + 1) (nPr [(q : Int)]) = some [((q + 1 : Nat) : Int)] := cst (nd := nPr [(q : Int)]) [] rfl rfl (by simp [kfit, nPr, allK, e2])
  have s2 : cstep (vN how n) [((q + 1 : Nat) : Int)] (q + 1 + 1) (nBk [((q + 1 : Nat) : Int)]) = some [((q + 2 : Nat) : Int)] := cst (nd := nBk [((q + 1 : Nat) : Int)]) [] rfl rfl (by generalize ((q + 1 : Nat) : Int) = K at e3 ⊢; simp [kfit, nBk, allK, e3, isSt, nPr])
  have s3 : cstep (vN how n) [((q + 2 : Nat) : Int)] (q + 1 + 1 + 1) (nFn [109, 97, 105, 110] [((q + 2 : Nat) : Int)]) = some [((q + 3 : Nat) : Int)] := cst (nd := nFn [109, 97, 105, 110] [((q + 2 : Nat) : Int)]) [] rfl (fn_m _) (by generalize ((q + 2 : Nat) : Int) = K at e4 ⊢; simp [kfit, nFn, allK, e4, isK, nBk])
  simp only [cloop, s1, s2, s3, Option.bind_some]
theorem vX_succ (how i : Nat) : vX how (i + 1) = (vA how i).reverse ++ vX how i ++ vB how i := by simp [vX, bld]
theorem vN_lv2 {n i : Nat} (hi : i ≤ n) : 6 ≤ lv (ndOf (vN 2 n) (i : Int)) := by
  cases i with
  | zero => rw [ndOf_at (vN_0 2 n)]; simp [lv, nA]
  | succ i =>
    have h : (vN 2 n)[i + 1]? = some (nUn (20 + ((i % 3 : Nat) : Int)) [(i : Int)]) := by
      have := vN_at (how := 2) (n := n) (i := i) (j := 0) (by omega) (by decide)
      rw [show vD 2 * i + 0 + 1 = i + 1 by simp [vD]] at this
      rw [this]; rfl
    rw [ndOf_at h]; simp [lv, nUn]
theorem vN_lv4 {n i : Nat} (hi : i ≤ n) : 4 ≤ lv (ndOf (vN 4 n) ((2 * i : Nat) : Int)) := by
  cases i with
  | zero => rw [ndOf_at (vN_0 4 n)]; simp [lv, nA]
  | succ i =>
    have h : (vN 4 n)[2 * (i + 1)]? = some (nMin [((2 * i : Nat) : Int), ((2 * i + 1 : Nat) : Int)]) := by
      have := vN_at (how := 4) (n := n) (i := i) (j := 1) (by omega) (by decide)
      rw [show vD 4 * i + 1 + 1 = 2 * (i + 1) by simp [vD]; omega] at this
      rw [this]; rfl
    rw [ndOf_at h]; simp [lv, nMin, lvOp]
theorem vN_lv5 {n i : Nat} (hi : i ≤ n) : 7 ≤ lv (ndOf (vN 5 n) ((2 * i : Nat) : Int)) := by
  cases i with
  | zero => rw [ndOf_at (vN_0 5 n)]; simp [lv, nA]
  | succ i =>
    have h : (vN 5 n)[2 * (i + 1)]? = some (nIx [((2 * i : Nat) : Int), ((2 * i + 1 : Nat) : Int)]) := by
      have := vN_at (how := 5) (n := n) (i := i) (j := 1) (by omega) (by decide)
      rw [show vD 5 * i + 1 + 1 = 2 * (i + 1) by simp [vD]; omega] at this
      rw [this]; rfl
    rw [ndOf_at h]; simp [lv, nIx]
theorem Mk.to {N : List Nd} {x y o d : Nat} {X Y : List UInt8} (h : Mk N x o X d) (e : x = y) (e2 : X = Y) : Mk N y o Y d := by subst e e2; exact h
theorem Mk.up {N : List Nd} {x o d d' : Nat} {X : List UInt8} (h : Mk N x o X d) (hd : d ≤ d') : Mk N x o X d' := fun t r S' h1 h2 h3 h4 => h t r S' h1 (by omega) (by omega) h4
theorem vN_mk {how n : Nat} (hOK : OKs (vN how n)) (o : Nat) : ∀ i, i ≤ n → Mk (vN how n) (vD how * i) o (vX how i) (40 * i + 20)
  | 0, _ => (mk_name hOK (vN_0 how n)).to (by simp) rfl
  | i + 1, hi => by
    have ih := vN_mk hOK o i (by omega)
    have h0 := vN_at (how := how) (n := n) (i := i) (j := 0) (by omega) (by unfold vD; split <;> omega)
    rw [vX_succ]
    by_cases h2 : how = 2
    · subst h2
      have hd : vD 2 = 1 := rfl
      rw [hd, Nat.one_mul] at ih h0 ⊢
      have hr : i % 3 < 3 := Nat.mod_lt _ (by omega)
      refine ((mk_unary hOK h0 (vN_lv2 (by omega)) ih).to (by omega) ?_).up (by omega)
      have e : opT (20 + ((i % 3 : Nat) : Int)) = vA 2 i := by
        simp only [vA, if_true]
        generalize i % 3 = q at hr ⊢
        have : q = 0 ∨ q = 1 ∨ q = 2 := by omega
        rcases this with rfl | rfl | rfl <;> rfl
      rw [e, show (vA 2 i).reverse = vA 2 i by simp [vA], show vB 2 i = [] from rfl, List.append_nil]
    · by_cases h3 : how = 3
      · subst h3
        have hd : vD 3 = 1 := rfl
        rw [hd, Nat.one_mul] at ih h0 ⊢
        exact ((mk_len hOK h0 ih).to (by omega) rfl).up (by omega)
      · by_cases h4 : how = 4
        · subst h4
          have hd : vD 4 = 2 := rfl
          have h1 := vN_at (how := 4) (n := n) (i := i) (j := 1) (by omega) (by decide)
          rw [hd] at ih h0 h1 ⊢
          have hn : (vN 4 n)[2 * i + 1]? = some (nNum ((7 : Nat) : Int)) := h0
          have l2 : 5 ≤ lv (ndOf (vN 4 n) ((2 * i + 1 : Nat) : Int)) := by rw [ndOf_at hn]; simp [lv, nNum]
          refine ((mk_minus hOK h1 (vN_lv4 (by omega)) l2 ih (mk_num hOK hn)).to (by omega) ?_).up (by omega)
          rw [show dcm 7 = [55] by rw [dcm]; rfl]
          simp [vA, vB]
        · by_cases h5 : how = 5
          · subst h5
            have hd : vD 5 = 2 := rfl
            have h1 := vN_at (how := 5) (n := n) (i := i) (j := 1) (by omega) (by decide)
            rw [hd] at ih h0 h1 ⊢
            have hn : (vN 5 n)[2 * i + 1]? = some (nNum ((0 : Nat) : Int)) := h0
            refine ((mk_index hOK h1 (vN_lv5 (by omega)) ih (mk_num hOK hn)).to (by omega) ?_).up (by omega)
            rw [show dcm 0 = [48] by rw [dcm]; rfl]
            simp [vA, vB]
          · have hd : vD how = 1 := by simp [vD, h4, h5]
            rw [hd, Nat.one_mul] at ih h0 ⊢
            have e : vS how i = [nCall [103] [(i : Int)]] := by simp [vS, h2, h3, h4, h5]
            rw [e] at h0
            refine ((mk_call hOK h0 ih).to (by omega) ?_).up (by omega)
            simp [vA, vB, h2, h3, h4, h5]
theorem vA_len (how i : Nat) : (vA how i).length ≤ 4 := by
  unfold vA
  repeat' split
  all_goals simp
theorem vB_len (how i : Nat) : (vB how i).length ≤ 4 := by
  unfold vB
  repeat' split
  all_goals simp
theorem bld_le {α : Type} {s : Nat → List α} {c : Nat} (hs : ∀ i, (s i).length ≤ c) : ∀ n, (bld [] s n).length ≤ c * n
  | 0 => by simp [bld]
  | n + 1 => by
    have := bld_le hs n
    have := hs n
    rw [bld, List.length_append, Nat.mul_succ]
    omega
def vT (how n : Nat) : List UInt8 := [102, 117, 110, 99, 32] ++ [109, 97, 105, 110] ++ [40] ++ [41, 32] ++ ([123] ++ tabs 1 ++ ([112, 114, 105, 110, 116, 40] ++ vX how n ++ [41, 59]) ++ tabs 0 ++ [125]) ++ [10]
theorem vN_prints {how n : Nat} (hn : n ≤ 16383) : PrintsOKx (vN how n) [((vD how * n + 3 : Nat) : Int)] ⟨[], [], 0⟩ ⟨vT how n, [], 0⟩ := by
  have ha := bld_le (vA_len how) n
  have hb := bld_le (vB_len how) n
  have hd : vD how ≤ 2 := by unfold vD; split <;> omega
  have hdn : vD how * n ≤ 2 * n := Nat.mul_le_mul_right _ hd
  refine deep_done (vN_chk how n) ?_ (by rw [vN_len]; omega) (fun hOK => mk_func hOK (vN_f how n) (mk_block1 hOK (vN_b how n) (mk_print hOK (vN_p how n) (vN_mk hOK (0 + 1) n (Nat.le_refl _))))) (d := 40 * n + 20 + 20 + 20 + 20) (by omega) ?_
  · intro x hx
    rcases List.mem_append.1 hx with h | h
    · refine bld_mem (P := fun x : Nd => x.val ≤ 9223372036854775807) (by simp [nA]) ?_ _ x h
      intro i x hx
      unfold vS at hx
      repeat' split at hx
      all_goals (simp at hx; try (rcases hx with rfl | rfl)) <;> simp [nUn, nLen, nCall, nNum, nMin, nIx]
    · simp at h; rcases h with rfl | rfl | rfl <;> simp [nFn, nBk, nPr]
  · simp only [vT, vX, List.length_append, List.length_cons, List.length_nil, tabs_len, List.length_reverse]
    omega
end Go.Proofs.YtjepkcebfojiaaaDoor
