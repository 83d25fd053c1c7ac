import Derived.Test.YtjepkcebfojiaaaDoorTwB
set_option linter.unusedVariables false
set_option linter.unusedSimpArgs false
namespace Go.Proofs.YtjepkcebfojiaaaDoor
open Go.ChangeShapes Go.WideShapes Go.ChangeAt Go.RowKit

/-- A list that grows step by step. -/
def bld {α : Type} (a : List α) (s : Nat → List α) : Nat → List α
  | 0 => a
  | i + 1 => bld a s i ++ s i
theorem bld_len {α : Type} {a : List α} {s : Nat → List α} {c : Nat} (hs : ∀ i, (s i).length = c) : ∀ n, (bld a s n).length = a.length + c * n
  | 0 => by simp [bld]
  | n + 1 => by rw [bld, List.length_append, bld_len hs n, hs, Nat.mul_succ]; omega
theorem bld_at {α : Type} {a : List α} {s : Nat → List α} {c : Nat} (hs : ∀ i, (s i).length = c) {i j : Nat} (hj : j < c) : ∀ n, i < n → (bld a s n)[a.length + c * i + j]? = (s i)[j]?
  | 0, h => by omega
  | n + 1, h => by
    have hl := bld_len (a := a) hs n
    rw [bld]
    by_cases e : i = n
    · subst e
      rw [List.getElem?_append_right (by omega), hl, show a.length + c * i + j - (a.length + c * i) = j by omega]
    · have hm : c * i + c ≤ c * n := by
        have := Nat.mul_le_mul_left c (show i + 1 ≤ n by omega)
        rw [Nat.mul_succ] at this
        exact this
      rw [List.getElem?_append_left (by omega)]
      exact bld_at hs hj n (by omega)
theorem bld_pre {α : Type} {a : List α} {s : Nat → List α} {j : Nat} (hj : j < a.length) : ∀ n, (bld a s n)[j]? = a[j]?
  | 0 => rfl
  | n + 1 => by
    have h := bld_pre (s := s) hj n
    have hl : j < (bld a s n).length := by
      have := List.getElem?_eq_getElem hj
      rw [← h] at this
      exact (List.getElem?_eq_some_iff.1 this).1
    rw [bld, List.getElem?_append_left hl]; exact h
theorem bld_mem {α : Type} {a : List α} {s : Nat → List α} {P : α → Prop} (ha : ∀ x ∈ a, P x) (hs : ∀ i, ∀ x ∈ s i, P x) : ∀ n, ∀ x ∈ bld a s n, P x
  | 0 => ha
  | n + 1 => by
    intro x hx
    rcases List.mem_append.1 hx with h | h
    · exact bld_mem ha hs n x h
    · exact hs n x h

theorem cloop_app (N : List Nd) : ∀ (a b : List Nd) (l : List Int) (i : Nat), cloop N l i (a ++ b) = (cloop N l i a).bind fun l' => cloop N l' (i + a.length) b
  | [], b, l, i => by simp [cloop]
  | n :: a, b, l, i => by
    simp only [List.cons_append, cloop, List.length_cons]
    cases cstep N l i n with
    | none => rfl
    | some l' => simp only [Option.bind_some]; rw [cloop_app N a b l' (i + 1), show i + 1 + a.length = i + (a.length + 1) by omega]
theorem cloop_bld {N a : List Nd} {s : Nat → List Nd} {c : Nat} (hc : ∀ i, (s i).length = c) {st : Nat → List Int} {l0 : List Int} {i0 : Nat} (h0 : cloop N l0 i0 a = some (st 0)) : ∀ n, (∀ i, i < n → cloop N (st i) (i0 + (a.length + c * i)) (s i) = some (st (i + 1))) → cloop N l0 i0 (bld a s n) = some (st n)
  | 0, _ => h0
  | n + 1, hs => by
    rw [bld, cloop_app, cloop_bld hc h0 n (fun i hi => hs i (by omega)), Option.bind_some, bld_len hc]
    exact hs n (by omega)
theorem cst {N : List Nd} {l : List Int} {i : Nat} {nd : Nd} (a : List Int) (hl : l = a ++ nd.kids) (hf : ffit nd = true) (hk : kfit N nd = true) : cstep N l i nd = some (a ++ [(i : Int)]) := by
  subst hl
  unfold cstep
  rw [if_pos ⟨by simp, by simp, hf, hk⟩]
  simp
theorem cl1 {N : List Nd} {l : List Int} {i : Nat} {nd : Nd} (a : List Int) (hl : l = a ++ nd.kids) (hf : ffit nd = true) (hk : kfit N nd = true) : cloop N l i [nd] = some (a ++ [(i : Int)]) := by
  simp only [cloop, cst a hl hf hk, Option.bind_some]
theorem cl2 {N : List Nd} {l : List Int} {i : Nat} {n1 n2 : Nd} (a b : List Int) (h1 : n1.kids = []) (hf : ffit n1 = true) (hk : kfit N n1 = true) (hl : l ++ [(i : Int)] = b ++ n2.kids) (hf2 : ffit n2 = true) (hk2 : kfit N n2 = true) : cloop N l i [n1, n2] = some (b ++ [((i + 1 : Nat) : Int)]) := by
  have e1 : cstep N l i n1 = some (l ++ [(i : Int)]) := cst l (by simp [h1]) hf hk
  have e2 : cstep N (l ++ [(i : Int)]) (i + 1) n2 = some (b ++ [((i + 1 : Nat) : Int)]) := cst b hl hf2 hk2
  simp only [cloop, e1, e2, Option.bind_some]
theorem chk_of {N : List Nd} {f : Nat} (h : cloop N [] 0 N = some [(f : Int)]) (hk : kd N (f : Int) = 1) : chk ⟨N, [(f : Int)]⟩ = true := by
  unfold chk
  simp only [h, decide_true, Bool.true_and, allK, List.all_cons, List.all_nil, Bool.and_true, hk, isK]

/-- All that is printed of a tree of one function. -/
theorem deep_done {N : List Nd} {f d : Nat} {X : List UInt8} (hc : chk ⟨N, [(f : Int)]⟩ = true) (hv : ∀ n ∈ N, n.val ≤ 9223372036854775807) (hn : N.length ≤ 1000000) (hM : OKs N → Mk N f 0 X d) (hd : d ≤ 90000000) (hX : X.length ≤ 900000000) :
    PrintsOKx N [(f : Int)] ⟨[], [], 0⟩ ⟨X, [], 0⟩ := mk_prints (hM (chk_ok hc hv hn)) hd hX

/-- What a text of a function f with one great statement looks like. -/
structure Fx (n : Nat) (X : List UInt8) : Prop where
  len : 12 ≤ X.length
  opn : X.count 123 = n + 2
  fst : X.take 10 = [102, 117, 110, 99, 32, 102, 40, 41, 32, 123]
  lst : X.drop (X.length - 3) = [10, 125, 10]
theorem tabs_cnt (o : Nat) : (tabs o).count 123 = 0 := by
  simp [tabs, List.count_cons, List.count_replicate]
theorem fx_of {n : Nat} {M : List UInt8} (h : M.count 123 = n + 1) : Fx n ([102, 117, 110, 99, 32] ++ [102] ++ [40] ++ [41, 32] ++ ([123] ++ tabs 1 ++ M ++ tabs 0 ++ [125]) ++ [10]) := by
  have e : ([102, 117, 110, 99, 32] ++ [102] ++ [40] ++ [41, 32] ++ ([123] ++ tabs 1 ++ M ++ tabs 0 ++ [125]) ++ [10] : List UInt8) = [102, 117, 110, 99, 32, 102, 40, 41, 32, 123] ++ ((tabs 1 ++ M) ++ [10, 125, 10]) := by simp [tabs]
  rw [e]
  refine ⟨by simp [tabs], ?_, by simp, ?_⟩
  · simp only [List.count_append, tabs_cnt, h]
    simp [List.count_cons]
    omega
  · rw [← List.append_assoc, List.length_append, List.drop_append_of_le_length (by simp), show ([10, 125, 10] : List UInt8).length = 3 from rfl, Nat.add_sub_cancel, List.drop_length]
    rfl

theorem fn_f (l : List Int) : ffit (nFn [102] l) = true := by show ffit (nFn [102] []) = true; decide
theorem fn_m (l : List Int) : ffit (nFn [109, 97, 105, 110] l) = true := by show ffit (nFn [109, 97, 105, 110] []) = true; decide
theorem call_f (l : List Int) : ffit (nCall [103] l) = true := by show ffit (nCall [103] []) = true; decide
/-- Blocks in blocks. -/
def bkS (i : Nat) : List Nd := [nBk [(i : Int)]]
def bkN (n : Nat) : List Nd := bld [nBk []] bkS (n + 1) ++ [nFn [102] [((n + 1 : Nat) : Int)]]
def bkX (o : Nat) : Nat → List UInt8 := fun n => Nat.rec (motive := fun _ => Nat → List UInt8) (fun o => [123] ++ tabs o ++ [125]) (fun _ f o => [123] ++ tabs (o + 1) ++ f (o + 1) ++ tabs o ++ [125]) n o
theorem bkX_cnt : ∀ (n o : Nat), (bkX o n).count 123 = n + 1
  | 0, o => by
    show ([123] ++ tabs o ++ [125] : List UInt8).count 123 = 1
    simp [List.count_cons, tabs_cnt]
  | n + 1, o => by
    show ([123] ++ tabs (o + 1) ++ bkX (o + 1) n ++ tabs o ++ [125] : List UInt8).count 123 = n + 2
    simp only [List.count_append, tabs_cnt, bkX_cnt n (o + 1)]
    simp [List.count_cons]
    omega
theorem bkX_len : ∀ (n o : Nat), (bkX o n).length ≤ (n + 1) * (2 * o + 2 * n + 6)
  | 0, o => by
    show ([123] ++ tabs o ++ [125] : List UInt8).length ≤ _
    simp [tabs]; omega
  | n + 1, o => by
    show ([123] ++ tabs (o + 1) ++ bkX (o + 1) n ++ tabs o ++ [125] : List UInt8).length ≤ _
    have := bkX_len n (o + 1)
    have e : 2 * (o + 1) + 2 * n + 6 = 2 * o + 2 * (n + 1) + 6 := by omega
    rw [e] at this
    simp only [List.length_append, tabs_len, List.length_cons, List.length_nil]
    rw [Nat.add_mul (n + 1) 1]
    omega
theorem bkN_len (n : Nat) : (bkN n).length = n + 3 := by
  simp only [bkN, List.length_append, bld_len (c := 1) (s := bkS) (fun _ => rfl), List.length_cons, List.length_nil]; omega
theorem bkN_0 (n : Nat) : (bkN n)[0]? = some (nBk []) := by
  rw [bkN, List.getElem?_append_left (by rw [bld_len (c := 1) (s := bkS) (fun _ => rfl)]; simp; omega), bld_pre (by simp)]; rfl
theorem bkN_at {n i : Nat} (hi : i ≤ n) : (bkN n)[i + 1]? = some (nBk [(i : Int)]) := by
  have h := bld_at (a := [nBk []]) (s := bkS) (c := 1) (fun _ => rfl) (i := i) (j := 0) (by omega) (n + 1) (by omega)
  rw [show [nBk []].length + 1 * i + 0 = i + 1 by simp; omega] at h
  rw [bkN, List.getElem?_append_left (by rw [bld_len (c := 1) (s := bkS) (fun _ => rfl)]; simp; omega), h]
  rfl
theorem bkN_f (n : Nat) : (bkN n)[n + 2]? = some (nFn [102] [((n + 1 : Nat) : Int)]) := by
  have hl := bld_len (a := [nBk []]) (c := 1) (s := bkS) (fun _ => rfl) (n + 1)
  rw [bkN, List.getElem?_append_right (by rw [hl]; simp; omega), hl]
  rw [show n + 2 - ([nBk []].length + 1 * (n + 1)) = 0 by simp; omega]
  rfl
theorem bkN_3 {n i : Nat} (hi : i ≤ n + 1) : kd (bkN n) (i : Int) = 3 := by
  cases i with
  | zero => exact kd_of (bkN_0 n)
  | succ i => exact kd_of (bkN_at (by omega))
theorem bkN_chk (n : Nat) : chk ⟨bkN n, [((n + 2 : Nat) : Int)]⟩ = true := by
  refine chk_of ?_ (kd_of (bkN_f n))
  have h1 : cloop (bkN n) [] 0 (bld [nBk []] bkS (n + 1)) = some [((n + 1 : Nat) : Int)] := by
    refine cloop_bld (c := 1) (fun _ => rfl) (st := fun i => [(i : Int)]) (by exact cl1 (nd := nBk []) [] rfl rfl (by simp [kfit, nBk, allK])) (n + 1) fun i hi => ?_
    rw [show 0 + ([nBk []].length + 1 * i) = i + 1 by simp; omega]
    refine cl1 [] rfl rfl ?_
    simp [kfit, nBk, allK, bkN_3 (show i ≤ n + 1 by omega), isSt]
  rw [bkN, cloop_app, ← bkN, h1, Option.bind_some, bld_len (c := 1) (s := bkS) (fun _ => rfl)]
  rw [show 0 + ([nBk []].length + 1 * (n + 1)) = n + 2 by simp; omega]
  refine cl1 [] rfl (fn_f _) ?_
  have := bkN_3 (n := n) (Nat.le_refl _)
  generalize ((n + 1 : Nat) : Int) = K at this ⊢
  simp [kfit, nFn, allK, this, isK]
theorem bkN_mk {n : Nat} (hOK : OKs (bkN n)) : ∀ i, i ≤ n + 1 → ∀ o, Mk (bkN n) i o (bkX o i) (20 * i + 20)
  | 0, _, o => mk_block0 hOK (bkN_0 n)
  | i + 1, hi, o => by
    have := mk_block1 hOK (bkN_at (show i ≤ n by omega)) (bkN_mk hOK i (by omega) (o + 1))
    exact this
theorem bkN_prints {n : Nat} (hn : n ≤ 1023) : ∃ X, PrintsOKx (bkN n) [((n + 2 : Nat) : Int)] ⟨[], [], 0⟩ ⟨X, [], 0⟩ ∧ Fx n X := by
  have hl := bkX_len n 1
  have hb : (n + 1) * (2 * 1 + 2 * n + 6) ≤ 1024 * 2054 := Nat.mul_le_mul (by omega) (by omega)
  refine ⟨_, deep_done (bkN_chk n) ?_ (by rw [bkN_len]; omega) (fun hOK => mk_func hOK (bkN_f n) (bkN_mk hOK (n + 1) (Nat.le_refl _) 0)) (d := 20 * (n + 1) + 20 + 20) (by omega) ?_, fx_of (M := bkX 1 n) (bkX_cnt n 1)⟩
  · intro x hx
    rcases List.mem_append.1 hx with h | h
    · exact bld_mem (P := fun x : Nd => x.val ≤ 9223372036854775807) (by simp [nBk]) (by simp [bkS, nBk]) _ x h
    · simp at h; subst h; simp [nFn]
  · show ([102, 117, 110, 99, 32] ++ [102] ++ [40] ++ [41, 32] ++ ([123] ++ tabs 1 ++ bkX 1 n ++ tabs 0 ++ [125]) ++ [10] : List UInt8).length ≤ _
    simp only [List.length_append, List.length_cons, List.length_nil, tabs_len]
    omega
end Go.Proofs.YtjepkcebfojiaaaDoor
