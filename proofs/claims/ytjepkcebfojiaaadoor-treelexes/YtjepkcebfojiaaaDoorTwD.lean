import Derived.Test.YtjepkcebfojiaaaDoorTwC
set_option linter.unusedVariables false
set_option linter.unusedSimpArgs false
namespace Go.Proofs.YtjepkcebfojiaaaDoor
open Go.ChangeShapes Go.WideShapes Go.ChangeAt Go.RowKit

/-- Ifs behind else. -/
def iaS (i : Nat) : List Nd := [nTrue, nBk []]
def ifS (k : Int) (i : Nat) : List Nd := [nIf [k - 2 * ((i : Int) + 1) - 2, k - 2 * ((i : Int) + 1) - 1, k + (i : Int)]]
def if0 (k : Int) : List Nd := [nIf [k - 2, k - 1]]
def ifN (n : Nat) : List Nd := bld [] iaS (n + 1) ++ (bld (if0 ((2 * n + 2 : Nat) : Int)) (ifS ((2 * n + 2 : Nat) : Int)) n ++ [nBk [((3 * n + 2 : Nat) : Int)], nFn [102] [((3 * n + 3 : Nat) : Int)]])
theorem ia_len (n : Nat) : (bld [] iaS n).length = 2 * n := by rw [bld_len (c := 2) (fun _ => rfl)]; simp
theorem if_len (k : Int) (n : Nat) : (bld (if0 k) (ifS k) n).length = n + 1 := by rw [bld_len (c := 1) (fun _ => rfl)]; simp [if0]; omega
theorem ifN_len (n : Nat) : (ifN n).length = 3 * n + 5 := by
  simp only [ifN, List.length_append, ia_len, if_len, List.length_cons, List.length_nil]; omega
theorem ifN_t {n i : Nat} (hi : i ≤ n) : (ifN n)[2 * i]? = some nTrue := by
  have h := bld_at (a := []) (s := iaS) (c := 2) (fun _ => rfl) (i := i) (j := 0) (by omega) (n + 1) (by omega)
  rw [show ([] : List Nd).length + 2 * i + 0 = 2 * i by simp] at h
  rw [ifN, List.getElem?_append_left (by rw [ia_len]; omega), h]
  rfl
theorem ifN_b {n i : Nat} (hi : i ≤ n) : (ifN n)[2 * i + 1]? = some (nBk []) := by
  have h := bld_at (a := []) (s := iaS) (c := 2) (fun _ => rfl) (i := i) (j := 1) (by omega) (n + 1) (by omega)
  rw [show ([] : List Nd).length + 2 * i + 1 = 2 * i + 1 by simp] at h
  rw [ifN, List.getElem?_append_left (by rw [ia_len]; omega), h]
  rfl
theorem ifN_0 (n : Nat) : (ifN n)[2 * n + 2]? = some (nIf [((2 * n : Nat) : Int), ((2 * n + 1 : Nat) : Int)]) := by
  rw [ifN, List.getElem?_append_right (by rw [ia_len]; omega), ia_len, show 2 * n + 2 - 2 * (n + 1) = 0 by omega, List.getElem?_append_left (by rw [if_len]; omega), bld_pre (by simp [if0])]
  simp only [if0, List.getElem?_cons_zero]
  rw [show ((2 * n + 2 : Nat) : Int) - 2 = ((2 * n : Nat) : Int) by omega, show ((2 * n + 2 : Nat) : Int) - 1 = ((2 * n + 1 : Nat) : Int) by omega]
theorem ifN_i {n i : Nat} (hi : i < n) : (ifN n)[2 * n + 2 + (i + 1)]? = some (nIf [((2 * (n - 1 - i) : Nat) : Int), ((2 * (n - 1 - i) + 1 : Nat) : Int), ((2 * n + 2 + i : Nat) : Int)]) := by
  have h := bld_at (a := if0 ((2 * n + 2 : Nat) : Int)) (s := ifS ((2 * n + 2 : Nat) : Int)) (c := 1) (fun _ => rfl) (i := i) (j := 0) (by omega) n hi
  rw [show (if0 ((2 * n + 2 : Nat) : Int)).length + 1 * i + 0 = i + 1 by simp [if0]; omega] at h
  rw [ifN, List.getElem?_append_right (by rw [ia_len]; omega), ia_len, show 2 * n + 2 + (i + 1) - 2 * (n + 1) = i + 1 by omega, List.getElem?_append_left (by rw [if_len]; omega), h]
  simp only [ifS, List.getElem?_cons_zero]
  rw [show ((2 * n + 2 : Nat) : Int) - 2 * ((i : Int) + 1) - 2 = ((2 * (n - 1 - i) : Nat) : Int) by omega, show ((2 * n + 2 : Nat) : Int) - 2 * ((i : Int) + 1) - 1 = ((2 * (n - 1 - i) + 1 : Nat) : Int) by omega, show ((2 * n + 2 : Nat) : Int) + (i : Int) = ((2 * n + 2 + i : Nat) : Int) by omega]
theorem ifN_bk (n : Nat) : (ifN n)[3 * n + 3]? = some (nBk [((3 * n + 2 : Nat) : Int)]) := by
  rw [ifN, List.getElem?_append_right (by rw [ia_len]; omega), ia_len, List.getElem?_append_right (by rw [if_len]; omega), if_len, show 3 * n + 3 - 2 * (n + 1) - (n + 1) = 0 by omega]
  rfl
theorem ifN_f (n : Nat) : (ifN n)[3 * n + 4]? = some (nFn [102] [((3 * n + 3 : Nat) : Int)]) := by
  rw [ifN, List.getElem?_append_right (by rw [ia_len]; omega), ia_len, List.getElem?_append_right (by rw [if_len]; omega), if_len, show 3 * n + 4 - 2 * (n + 1) - (n + 1) = 1 by omega]
  rfl
theorem ifN_10 {n i : Nat} (hi : i ≤ n) : kd (ifN n) ((2 * n + 2 + i : Nat) : Int) = 10 := by
  cases i with
  | zero => exact kd_of (ifN_0 n)
  | succ i => exact kd_of (ifN_i (by omega))
def rng (m : Nat) : List Int := (List.range m).map fun i : Nat => (i : Int)
theorem rng_2 (m : Nat) : rng (m + 2) = rng m ++ [(m : Int), ((m + 1 : Nat) : Int)] := by
  simp only [rng, List.range_succ, List.map_append, List.map_cons, List.map_nil, List.append_assoc, List.cons_append, List.nil_append]
theorem ifN_chk (n : Nat) : chk ⟨ifN n, [((3 * n + 4 : Nat) : Int)]⟩ = true := by
  refine chk_of ?_ (kd_of (ifN_f n))
  have h1 : cloop (ifN n) [] 0 (bld [] iaS (n + 1)) = some (rng (2 * (n + 1))) := by
    refine cloop_bld (c := 2) (fun _ => rfl) (st := fun i => rng (2 * i)) rfl (n + 1) fun i hi => ?_
    rw [show 0 + (([] : List Nd).length + 2 * i) = 2 * i by simp]
    rw [show 2 * (i + 1) = 2 * i + 2 by omega, rng_2]
    have := cl2 (N := ifN n) (l := rng (2 * i)) (i := 2 * i) (n1 := nTrue) (n2 := nBk []) [] (rng (2 * i) ++ [((2 * i : Nat) : Int)]) rfl rfl (by simp [kfit, nTrue]) (by simp [nBk]) rfl (by simp [kfit, nBk, allK])
    rw [List.append_assoc] at this
    exact this
  have h2 : cloop (ifN n) (rng (2 * (n + 1))) (2 * (n + 1)) (bld (if0 ((2 * n + 2 : Nat) : Int)) (ifS ((2 * n + 2 : Nat) : Int)) n) = some (rng (2 * (n - n)) ++ [((2 * n + 2 + n : Nat) : Int)]) := by
    refine cloop_bld (c := 1) (fun _ => rfl) (st := fun i => rng (2 * (n - i)) ++ [((2 * n + 2 + i : Nat) : Int)]) ?_ n fun i hi => ?_
    · refine cl1 (rng (2 * n)) ?_ rfl ?_
      · rw [show 2 * (n + 1) = 2 * n + 2 by omega, rng_2]
        simp only [if0, nIf]
        rw [show ((2 * n + 2 : Nat) : Int) - 2 = ((2 * n : Nat) : Int) by omega, show ((2 * n + 2 : Nat) : Int) - 1 = ((2 * n + 1 : Nat) : Int) by omega]
      · have e1 := kd_of (ifN_t (Nat.le_refl n))
        have e2 := kd_of (ifN_b (Nat.le_refl n))
        rw [show ((2 * n : Nat) : Int) = ((2 * n + 2 : Nat) : Int) - 2 by omega] at e1
        rw [show ((2 * n + 1 : Nat) : Int) = ((2 * n + 2 : Nat) : Int) - 1 by omega] at e2
        generalize ((2 * n + 2 : Nat) : Int) = K at e1 e2 ⊢
        simp [kfit, nIf, allK, e1, e2, isK, isEx, nTrue, nBk]
    · have hl : (if0 ((2 * n + 2 : Nat) : Int)).length = 1 := rfl
      rw [hl, show 2 * (n + 1) + (1 + 1 * i) = 2 * n + 2 + (i + 1) by omega]
      refine cl1 (rng (2 * (n - (i + 1)))) ?_ rfl ?_
      · rw [show 2 * (n - i) = 2 * (n - (i + 1)) + 2 by omega, rng_2]
        simp only [nIf]
        rw [show ((2 * n + 2 : Nat) : Int) - 2 * ((i : Int) + 1) - 2 = ((2 * (n - (i + 1)) : Nat) : Int) by omega, show ((2 * n + 2 : Nat) : Int) - 2 * ((i : Int) + 1) - 1 = ((2 * (n - (i + 1)) + 1 : Nat) : Int) by omega, show ((2 * n + 2 : Nat) : Int) + (i : Int) = ((2 * n + 2 + i : Nat) : Int) by omega]
        simp
      · have e1 := kd_of (ifN_t (n := n) (i := n - (i + 1)) (by omega))
        have e2 := kd_of (ifN_b (n := n) (i := n - (i + 1)) (by omega))
        have e3 := ifN_10 (n := n) (i := i) (by omega)
        rw [show ((2 * (n - (i + 1)) : Nat) : Int) = ((2 * n + 2 : Nat) : Int) - 2 * ((i : Int) + 1) - 2 by omega] at e1
        rw [show ((2 * (n - (i + 1)) + 1 : Nat) : Int) = ((2 * n + 2 : Nat) : Int) - 2 * ((i : Int) + 1) - 1 by omega] at e2
        rw [show ((2 * n + 2 + i : Nat) : Int) = ((2 * n + 2 : Nat) : Int) + (i : Int) by omega] at e3
        generalize ((2 * n + 2 : Nat) : Int) - 2 * ((i : Int) + 1) - 2 = K1 at e1 ⊢
        generalize ((2 * n + 2 : Nat) : Int) - 2 * ((i : Int) + 1) - 1 = K2 at e2 ⊢
        generalize ((2 * n + 2 : Nat) : Int) + (i : Int) = K3 at e3 ⊢
        simp [kfit, nIf, allK, e1, e2, e3, isK, isEx, isEl, nTrue, nBk]
  rw [show ifN n = bld [] iaS (n + 1) ++ (bld (if0 ((2 * n + 2 : Nat) : Int)) (ifS ((2 * n + 2 : Nat) : Int)) n ++ [nBk [((3 * n + 2 : Nat) : Int)], nFn [102] [((3 * n + 3 : Nat) : Int)]]) from rfl] at h1 h2 ⊢
  rw [cloop_app, ← ifN] at *
  rw [h1, Option.bind_some, ia_len, Nat.zero_add, cloop_app, h2, Option.bind_some, if_len, Nat.sub_self]
  have e3 := ifN_10 (n := n) (i := n) (Nat.le_refl _)
  have e4 := kd_of (ifN_bk n)
  rw [show 2 * n + 2 + n = 3 * n + 2 by omega] at *
  rw [show 2 * (n + 1) + (n + 1) = 3 * n + 3 by omega]
  have s1 : cstep (ifN n) (rng (2 * 0) ++ [((3 * n + 2 : Nat) : Int)]) (3 * n + 3) (nBk [((3 * n + 2 : Nat) : Int)]) = some [((3 * n + 3 : Nat) : Int)] := cst (nd := nBk [((3 * n + 2 : Nat) : Int)]) [] rfl rfl (by generalize ((3 * n + 2 : Nat) : Int) = K at e3 ⊢; simp [kfit, nBk, allK, e3, isSt])
  have s2 : cstep (ifN n) [((3 * n + 3 : Nat) : Int)] (3 * n + 3 + 1) (nFn [102] [((3 * n + 3 : Nat) : Int)]) = some [((3 * n + 4 : Nat) : Int)] := cst (nd := nFn [102] [((3 * n + 3 : Nat) : Int)]) [] rfl (fn_f _) (by generalize ((3 * n + 3 : Nat) : Int) = K at e4 ⊢; simp [kfit, nFn, allK, e4, isK, nBk])
  simp only [cloop, s1, s2, Option.bind_some]
def ifT (o : Nat) : List UInt8 := [105, 102, 32] ++ [116, 114, 117, 101] ++ [32] ++ ([123] ++ tabs o ++ [125])
def ifX (o : Nat) : Nat → List UInt8
  | 0 => ifT o
  | i + 1 => ifT o ++ [32, 101, 108, 115, 101, 32] ++ ifX o i
theorem ifT_cnt (o : Nat) : (ifT o).count 123 = 1 := by
  simp only [ifT, List.count_append, tabs_cnt]
  simp [List.count_cons]
theorem ifX_cnt (o : Nat) : ∀ n, (ifX o n).count 123 = n + 1
  | 0 => ifT_cnt o
  | n + 1 => by
    simp only [ifX, List.count_append, ifT_cnt, ifX_cnt o n]
    simp [List.count_cons]
    omega
theorem ifX_len (o : Nat) : ∀ n, (ifX o n).length = n * (o + 17) + (o + 11)
  | 0 => by simp only [ifX, ifT, List.length_append, tabs_len, List.length_cons, List.length_nil]; omega
  | n + 1 => by
    simp only [ifX, ifT, List.length_append, ifX_len o n, tabs_len, List.length_cons, List.length_nil, Nat.add_mul, Nat.one_mul]
    omega
theorem ifN_mk {n : Nat} (hOK : OKs (ifN n)) (o : Nat) : ∀ i, i ≤ n → Mk (ifN n) (2 * n + 2 + i) o (ifX o i) (40 * i + 60)
  | 0, _ => mk_if2 hOK (ifN_0 n) (mk_true hOK (ifN_t (Nat.le_refl _))) (mk_block0 hOK (ifN_b (Nat.le_refl _)))
  | i + 1, hi => by
    have := mk_if3 hOK (ifN_i (show i < n by omega)) (mk_true (o := o) hOK (ifN_t (by omega))) (mk_block0 hOK (ifN_b (by omega))) (ifN_mk hOK o i (by omega))
    rw [show 40 * (i + 1) + 60 = 40 * i + 60 + 40 by omega]
    exact this
theorem ifN_prints {n : Nat} (hn : n ≤ 16383) : ∃ X, PrintsOKx (ifN n) [((3 * n + 4 : Nat) : Int)] ⟨[], [], 0⟩ ⟨X, [], 0⟩ ∧ Fx n X := by
  have hl := ifX_len 1 n
  refine ⟨_, deep_done (ifN_chk n) ?_ (by rw [ifN_len]; omega) (fun hOK => mk_func hOK (ifN_f n) (mk_block1 hOK (ifN_bk n) (by have := ifN_mk hOK (0 + 1) n (Nat.le_refl _); rw [show 2 * n + 2 + n = 3 * n + 2 by omega] at this; exact this))) (d := 40 * n + 60 + 20 + 20) (by omega) ?_, fx_of (M := ifX 1 n) (ifX_cnt 1 n)⟩
  · intro x hx
    rcases List.mem_append.1 hx with h | h
    · exact bld_mem (P := fun x : Nd => x.val ≤ 9223372036854775807) (by simp) (by simp [iaS, nTrue, nBk]) _ x h
    · rcases List.mem_append.1 h with h | h
      · exact bld_mem (P := fun x : Nd => x.val ≤ 9223372036854775807) (by simp [if0, nIf]) (by simp [ifS, nIf]) _ x h
      · simp at h; rcases h with rfl | rfl <;> simp [nFn, nBk]
  · show ([102, 117, 110, 99, 32] ++ [102] ++ [40] ++ [41, 32] ++ ([123] ++ tabs 1 ++ ifX 1 n ++ tabs 0 ++ [125]) ++ [10] : List UInt8).length ≤ _
    simp only [List.length_append, List.length_cons, List.length_nil, tabs_len]
    omega
end Go.Proofs.YtjepkcebfojiaaaDoor
