import Derived.Test.YtjepkcebfojiaaaDoorTrO
import Derived.Test.YtjepkcebfojiaaaDoorTuP
import Derived.Test.YtjepkcebfojiaaaDoorLyG
import Derived.Deep.RegionWith
import Derived.Test.YtjepkcebfojiaaaDoorLzA
import Derived.Test.YtjepkcebfojiaaaDoorLzB
import Derived.Test.YtjepkcebfojiaaaDoorLzC
import Derived.Test.YtjepkcebfojiaaaDoorLzD
import Derived.Test.YtjepkcebfojiaaaDoorLyP
import Derived.Test.YtjepkcebfojiaaaDoorLyD
import Derived.Test.YtjepkcebfojiaaaDoorLzO
set_option linter.unusedVariables false
set_option linter.unusedSimpArgs false
namespace Go.Proofs.YtjepkcebfojiaaaDoor
open Go.ChangeShapes Go.WideShapes Go.ChangeAt Go.RowKit

/-- A node's own weight, and all its kids' with it. -/
def wf (c : Nd → Nat) (N : List Nd) : Nat → Int → Nat
  | 0, _ => 0
  | f + 1, k => c (ndOf N k) + ((ndOf N k).kids.map (wf c N f)).sum
def wt (c : Nd → Nat) (N : List Nd) (k : Int) : Nat := wf c N (k.toNat + 1) k

theorem wf_fuel (c : Nd → Nat) {N : List Nd} (hF : FitK N) : ∀ (f g : Nat) (k : Int), 0 ≤ k → k < N.length → k.toNat < f → k.toNat < g → wf c N f k = wf c N g k
  | 0, _, _, _, _, h, _ => absurd h (by omega)
  | _, 0, _, _, _, _, h => absurd h (by omega)
  | f + 1, g + 1, k, h0, h1, hf, hg => by
    have hk : k.toNat < N.length := by omega
    have e : ndOf N k = N[k.toNat] := by simp [ndOf, List.getD, hk]
    simp only [wf]
    congr 1
    congr 1
    refine List.map_congr_left fun x hx => ?_
    rw [e] at hx
    have := hF k.toNat hk x hx
    exact wf_fuel c hF f g x (by omega) (by omega) (by omega) (by omega)
theorem wt_eq (c : Nd → Nat) {N : List Nd} (hF : FitK N) (i : Nat) (hi : i < N.length) : wt c N (i : Int) = c N[i] + (N[i].kids.map (wt c N)).sum := by
  have e : ndOf N (i : Int) = N[i] := by simp [ndOf, List.getD, hi]
  unfold wt
  rw [wf, e]
  congr 2
  refine List.map_congr_left fun x hx => ?_
  have := hF i hi x hx
  exact wf_fuel c hF _ _ x (by omega) (by omega) (by omega) (by omega)

theorem stk_sum (c : Nd → Nat) {N : List Nd} (hF : FitK N) : ∀ (R : List Nd) (l : List Int) (i : Nat) (F : List Int), N.drop i = R → i ≤ N.length → stk l i (R.map Nd.kids) = some F → (F.map (wt c N)).sum = (l.map (wt c N)).sum + (R.map c).sum
  | [], l, i, F, _, _, h => by
    simp [stk] at h
    subst h
    simp
  | n :: R, l, i, F, hd, hi, h => by
    have hi' : i < N.length := by
      rcases Nat.lt_or_ge i N.length with h | h
      · exact h
      · rw [List.drop_of_length_le h] at hd; cases hd
    have hd2 := List.drop_eq_getElem_cons hi'
    rw [hd] at hd2
    obtain ⟨rfl, hR⟩ := List.cons.inj hd2
    obtain ⟨h1, h2, h3⟩ := stk_cons h
    have := stk_sum c hF R _ (i + 1) F hR.symm (by omega) h3
    rw [this, List.map_append, List.sum_append]
    have e2 : (l.map (wt c N)).sum = ((l.take (l.length - N[i].kids.length)).map (wt c N)).sum + (N[i].kids.map (wt c N)).sum := by
      conv => lhs; rw [← List.take_append_drop (l.length - N[i].kids.length) l, List.map_append, List.sum_append]
      rw [h2]
    rw [e2]
    simp only [List.map_cons, List.map_nil, List.sum_cons, List.sum_nil]
    rw [wt_eq c hF i hi']
    omega
/-- All functions' weights together are all nodes' own. -/
theorem chk_sum {T : Tr} (h : chk T = true) (c : Nd → Nat) : (T.funcs.map (wt c T.nodes)).sum = (T.nodes.map c).sum := by
  have := stk_sum c (chk_fit h) T.nodes [] 0 T.funcs rfl (by omega) (chk_stk h).1
  simpa using this
end Go.Proofs.YtjepkcebfojiaaaDoor
namespace Go.Proofs.YtjepkcebfojiaaaDoor
open Go.ChangeShapes Go.WideShapes Go.ChangeAt Go.RowKit

/-- A node that Print can print. -/
structure NdOKx (N : List Nd) (n : Nd) : Prop where
  vk : VK n.kind
  ff : ffit n = true
  kf : kfit N n = true
  rng : ∀ k ∈ n.kids, 0 ≤ k ∧ k < N.length
  len : n.kids.length ≤ 1000000
  val : n.val ≤ 9223372036854775807

theorem nmFits_len {b : Bool} {s : List UInt8} (h : nmFits b s = true) : s.length ≤ 64 := by
  unfold nmFits at h
  split at h
  · simp only [nmOk, Bool.and_eq_true, decide_eq_true_eq] at h
    exact h.1.1.1
  · have := of_decide_eq_true h
    subst this
    simp
theorem ffit_name {n : Nd} (h : ffit n = true) : n.name.length ≤ 64 := by
  simp only [ffit, Bool.and_eq_true] at h
  exact nmFits_len h.2
theorem ffit_rng {n : Nd} (h : ffit n = true) : (mayOf n.kind).d0 ≤ n.decl ∧ n.decl ≤ (mayOf n.kind).d1 ∧ (mayOf n.kind).o0 ≤ n.op ∧ n.op ≤ (mayOf n.kind).o1 ∧ 0 ≤ n.val := by
  simp only [ffit, Bool.and_eq_true, inR, decide_eq_true_eq, Bool.or_eq_true] at h
  obtain ⟨⟨⟨⟨⟨⟨_, _⟩, h1⟩, _⟩, h2⟩, h3⟩, _⟩ := h
  exact ⟨h1.1, h1.2, h2.1, h2.2, by rcases h3 with h3 | h3 <;> omega⟩
theorem one_kid {l : List Int} (h : l.length = 1) : ∃ x, l = [x] := by
  match l, h with
  | [x], _ => exact ⟨x, rfl⟩
theorem two_kids {l : List Int} (h : l.length = 2) : ∃ x y, l = [x, y] := by
  match l, h with
  | [x, y], _ => exact ⟨x, y, rfl⟩
theorem three_kids {l : List Int} (h : l.length = 3) : ∃ x y z, l = [x, y, z] := by
  match l, h with
  | [x, y, z], _ => exact ⟨x, y, z, rfl⟩
theorem nat_of {x : Int} (h : 0 ≤ x) : ∃ k : Nat, x = (k : Int) := ⟨x.toNat, by omega⟩
theorem kid_nat {N : List Nd} {n : Nd} (h : NdOKx N n) {x : Int} (hx : x ∈ n.kids) : ∃ k : Nat, x = (k : Int) ∧ k < N.length := by
  have := h.rng x hx
  exact ⟨x.toNat, by omega, by omega⟩


/-- Parts, the nodes that they name in order, and how many are texts, lines and ends. -/
inductive PS : List Pt → List Int → Nat → Nat → Nat → Prop
  | nil : PS [] [] 0 0 0
  | tp {l ks a b c} (t : List UInt8) (h : t.length ≤ 100) : PS l ks a b c → PS (tp t :: l) ks (a + 1) b c
  | wp {l ks a b c} (x : Int) : PS l ks a b c → PS (wp x :: l) (x :: ks) a b c
  | xp {l ks a b c} (x : Int) : PS l ks a b c → PS (xp x :: l) (x :: ks) a b c
  | np {l ks a b c} : PS l ks a b c → PS (np :: l) ks a (b + 1) c
  | ep {l ks a b c} : PS l ks a b c → PS (ep :: l) ks a b (c + 1)
theorem PS.vp {l ks a b c} (N : List Nd) (x m : Int) (h : PS l ks a b c) : PS (vp N x m :: l) (x :: ks) a b c := by
  unfold Go.Proofs.YtjepkcebfojiaaaDoor.vp
  split
  · exact .xp x h
  · exact .wp x h
theorem PS.app {l ks a b c} (h : PS l ks a b c) {l' ks' a' b' c'} (h' : PS l' ks' a' b' c') : PS (l ++ l') (ks ++ ks') (a + a') (b + b') (c + c') := by
  induction h with
  | nil => simpa using h'
  | tp t ht _ ih => have := PS.tp t ht ih; rw [Nat.add_right_comm] at this; exact this
  | wp x _ ih => exact .wp x ih
  | xp x _ ih => exact .xp x ih
  | np _ ih => have := PS.np ih; rw [Nat.add_right_comm] at this; exact this
  | ep _ ih => have := PS.ep ih; rw [Nat.add_right_comm] at this; exact this
theorem ps_flat (f : Int → List Pt) (p q : Nat) (hf : ∀ x, PS (f x) [x] p q 0) : ∀ l : List Int, PS (l.flatMap f) l (p * l.length) (q * l.length) 0
  | [] => by simpa using PS.nil
  | x :: l => by
    have := (hf x).app (ps_flat f p q hf l)
    rw [List.flatMap_cons, List.length_cons, Nat.mul_add, Nat.mul_add, Nat.add_comm (p * _), Nat.add_comm (q * _)]
    simpa using this
theorem ps_jn (l : List Int) : ∃ a, PS (jn l) l a 0 0 ∧ a ≤ l.length := by
  cases l with
  | nil => exact ⟨0, .nil, by simp⟩
  | cons x r =>
    have h := ps_flat (fun x => [tp ([44, 32] : List UInt8), wp x]) 1 0 (fun x => .tp _ (by simp) (.wp x .nil)) r
    exact ⟨1 * r.length, .wp x (by simpa using h), by simp⟩
theorem dcm_len : ∀ (k n : Nat), 0 < k → n < 10 ^ k → (dcm n).length ≤ k
  | 0, _, h, _ => absurd h (by omega)
  | k + 1, n, _, h => by
    rw [dcm]
    split
    · simp
    · next hn =>
      have hk : 0 < k := by
        rcases Nat.eq_zero_or_pos k with rfl | h0
        · simp at h; omega
        · exact h0
      have := dcm_len k (n / 10) hk (by rw [Nat.pow_succ] at h; omega)
      simp
      exact this

/-- What a node's parts are. -/
theorem nd_ps {N : List Nd} {n : Nd} (hOK : NdOKx N n) : ∃ a b, PS (ndParts N n) n.kids a b (if n.kind = 3 then 1 else 0) ∧ a ≤ 4 + n.kids.length ∧ b ≤ n.kids.length := by
  have hnm := ffit_name hOK.ff
  have hkf := hOK.kf
  have hty : ∀ t : Int, (typeT t).length ≤ 5 := by
    intro t
    unfold typeT
    by_cases h : t.toNat < 4
    · have : ∀ k, k < 4 → (TYPES.getD k []).length ≤ 5 := by decide
      exact this _ h
    · rw [List.getD, List.getElem?_eq_none (by simp [TYPES]; omega)]; simp
  have hop : ∀ t : Int, (opT t).length ≤ 5 := by
    intro t
    unfold opT
    by_cases h : t.toNat < 23
    · have : ∀ k, k < 23 → (OPS.getD k []).length ≤ 5 := by decide
      exact this _ h
    · rw [List.getD, List.getElem?_eq_none (by simp [OPS]; omega)]; simp
  have hk : n.kind = 1 ∨ n.kind = 2 ∨ n.kind = 3 ∨ n.kind = 4 ∨ n.kind = 5 ∨ n.kind = 6 ∨ n.kind = 7 ∨ n.kind = 8 ∨ n.kind = 9 ∨ n.kind = 10 ∨ n.kind = 11 ∨ n.kind = 12 ∨ n.kind = 13 ∨ n.kind = 14 ∨ n.kind = 20 ∨ n.kind = 21 ∨ n.kind = 22 ∨ n.kind = 23 ∨ n.kind = 24 ∨ n.kind = 25 ∨ n.kind = 26 ∨ n.kind = 27 ∨ n.kind = 28 ∨ n.kind = 29 ∨ n.kind = 30 ∨ n.kind = 31 := by
    rcases hOK.vk with h | h <;> omega
  have hval : ∀ (hd ld : List UInt8), hd.length ≤ 100 → ld.length ≤ 100 → n.kids.length ≤ 1 → ∃ a b, PS (valParts hd ld n.kids) n.kids a b 0 ∧ a ≤ 4 + n.kids.length ∧ b ≤ n.kids.length := by
    intro hd ld h1 h2 h3
    match hl : n.kids, h3 with
    | [], _ => exact ⟨2, 0, .tp _ h1 (.tp _ (by simp) .nil), by simp, by simp⟩
    | [x], _ => exact ⟨3, 0, .tp _ h1 (.tp _ h2 (.wp x (.tp _ (by simp) .nil))), by simp, by simp⟩
  have hone : ∀ t : List UInt8, t.length ≤ 100 → n.kids = [] → ∃ a b, PS [tp t] n.kids a b 0 ∧ a ≤ 4 + n.kids.length ∧ b ≤ n.kids.length := by
    intro t h1 h2
    rw [h2]
    exact ⟨1, 0, .tp _ h1 .nil, by simp, by simp⟩
  rcases hk with hk | hk | hk | hk | hk | hk | hk | hk | hk | hk | hk | hk | hk | hk | hk | hk | hk | hk | hk | hk | hk | hk | hk | hk | hk | hk
  · have hc : 0 < n.kids.length := by simp [kfit, hk] at hkf; have := hkf.1.1; omega
    obtain ⟨ks, j, hkids⟩ : ∃ ks j, n.kids = ks ++ [j] := ⟨n.kids.dropLast, n.kids.getLast (by intro e; rw [e] at hc; simp at hc), (List.dropLast_concat_getLast _).symm⟩
    obtain ⟨a, ha, hal⟩ := ps_jn ks
    have e : ndParts N n = fnParts n := by simp [ndParts, hk]
    rw [e, if_neg (by omega)]
    unfold fnParts
    have e1 : n.kids.take (n.kids.length - 1) = ks := by simp [hkids]
    have e2 : n.kids.getD (n.kids.length - 1) 0 = j := by simp [hkids]
    rw [e1, e2, hkids]
    have h0 : (if n.decl = 0 then ([41, 32] : List UInt8) else ([41, 32] : List UInt8) ++ typeT n.decl ++ ([32] : List UInt8)).length ≤ 100 := by
      have := hty n.decl
      split <;> simp <;> omega
    refine ⟨1 + a + 2, 0, ((PS.tp _ (by simp; omega) .nil).app ha).app (.tp _ h0 (.wp j (.tp _ (by simp) .nil))), by simp; omega, by omega⟩
  · have hc : n.kids = [] := by simp [kfit, hk] at hkf; exact hkf
    have e : ndParts N n = [tp (n.name ++ ([32] : List UInt8) ++ typeT n.decl)] := by simp [ndParts, hk]
    rw [e, if_neg (by omega)]
    exact hone _ (by have := hty n.decl; simp; omega) hc
  · have e : ndParts N n = blParts n := by simp [ndParts, hk]
    rw [e, if_pos hk]
    have h := ps_flat (fun x => [np, wp x]) 0 1 (fun x => .np (.wp x .nil)) n.kids
    have h2 := ((PS.tp ([123] : List UInt8) (by simp) .nil).app h).app (PS.ep .nil)
    refine ⟨1, n.kids.length, ?_, by omega, by omega⟩
    have e3 : blParts n = [tp ([123] : List UInt8)] ++ (n.kids.flatMap fun x => [np, wp x]) ++ [ep] := rfl
    rw [e3]
    simpa using h2
  · have hc : n.kids.length ≤ 1 := by simp [kfit, hk] at hkf; first | exact hkf.1 | (have := hkf.1; omega)
    have e : ndParts N n = valParts (([118, 97, 114, 32] : List UInt8) ++ n.name ++ ([32] : List UInt8) ++ typeT n.decl) ([32, 61, 32] : List UInt8) n.kids := by simp [ndParts, hk, isSt, stParts]
    rw [e, if_neg (by omega)]
    exact hval _ _ (by have := hty n.decl; simp; omega) (by simp) hc
  · have hc : n.kids.length ≤ 1 := by simp [kfit, hk] at hkf; first | exact hkf.1 | (have := hkf.1; omega)
    have e : ndParts N n = valParts n.name ([32, 61, 32] : List UInt8) n.kids := by simp [ndParts, hk, isSt, stParts]
    rw [e, if_neg (by omega)]
    exact hval _ _ (by omega) (by simp) hc
  · skip
    have hc : n.kids.length = 2 := by simp [kfit, hk] at hkf; exact hkf.1
    obtain ⟨x, y, hkids⟩ := two_kids hc
    have e : ndParts N n = [tp (n.name ++ ([91] : List UInt8)), wp x, tp ([93, 32, 61, 32] : List UInt8), wp y, tp ([59] : List UInt8)] := by simp [ndParts, hk, isSt, stParts, hkids]
    rw [e, if_neg (by omega)]
    rw [hkids]
    exact ⟨3, 0, .tp _ (by simp; omega) (.wp x (.tp _ (by simp) (.wp y (.tp _ (by simp) .nil)))), by simp, by simp⟩
  · skip
    have hc : n.kids.length = 1 := by simp [kfit, hk] at hkf; exact hkf.1
    obtain ⟨x, hkids⟩ := one_kid hc
    have e : ndParts N n = [wp x, tp ([59] : List UInt8)] := by simp [ndParts, hk, isSt, stParts, hkids]
    rw [e, if_neg (by omega)]
    rw [hkids]
    exact ⟨1, 0, .wp x (.tp _ (by simp) .nil), by simp, by simp⟩
  · skip
    have hc : n.kids.length = 1 := by simp [kfit, hk] at hkf; exact hkf.1
    obtain ⟨x, hkids⟩ := one_kid hc
    have e : ndParts N n = [tp ([112, 114, 105, 110, 116, 40] : List UInt8), wp x, tp ([41, 59] : List UInt8)] := by simp [ndParts, hk, isSt, stParts, hkids]
    rw [e, if_neg (by omega)]
    rw [hkids]
    exact ⟨2, 0, .tp _ (by simp) (.wp x (.tp _ (by simp) .nil)), by simp, by simp⟩
  · skip
    have hc : n.kids.length = 1 := by simp [kfit, hk] at hkf; exact hkf.1
    obtain ⟨x, hkids⟩ := one_kid hc
    have e : ndParts N n = [tp ([112, 97, 110, 105, 99, 40] : List UInt8), wp x, tp ([41, 59] : List UInt8)] := by simp [ndParts, hk, isSt, stParts, hkids]
    rw [e, if_neg (by omega)]
    rw [hkids]
    exact ⟨2, 0, .tp _ (by simp) (.wp x (.tp _ (by simp) .nil)), by simp, by simp⟩
  · have hcc : n.kids.length = 2 ∨ n.kids.length = 3 := by simp [kfit, hk] at hkf; exact hkf.1.1.1
    rcases hcc with hc | hc
    · obtain ⟨x, y, hkids⟩ := two_kids hc
      have e : ndParts N n = [tp ([105, 102, 32] : List UInt8), wp x, tp ([32] : List UInt8), wp y] := by simp [ndParts, hk, isSt, stParts, hkids]
      rw [e, if_neg (by omega), hkids]
      exact ⟨2, 0, .tp _ (by simp) (.wp x (.tp _ (by simp) (.wp y .nil))), by simp, by simp⟩
    · obtain ⟨x, y, z, hkids⟩ := three_kids hc
      have e : ndParts N n = [tp ([105, 102, 32] : List UInt8), wp x, tp ([32] : List UInt8), wp y, tp ([32, 101, 108, 115, 101, 32] : List UInt8), wp z] := by simp [ndParts, hk, isSt, stParts, hkids]
      rw [e, if_neg (by omega), hkids]
      exact ⟨3, 0, .tp _ (by simp) (.wp x (.tp _ (by simp) (.wp y (.tp _ (by simp) (.wp z .nil))))), by simp, by simp⟩
  · have e : ndParts N n = [tp ([102, 111, 114] : List UInt8)] ++ n.kids.flatMap fun x => [tp ([32] : List UInt8), wp x] := by simp [ndParts, hk, isSt, stParts]
    rw [e, if_neg (by omega)]
    have h := ps_flat (fun x => [tp ([32] : List UInt8), wp x]) 1 0 (fun x => .tp _ (by simp) (.wp x .nil)) n.kids
    exact ⟨1 + n.kids.length, 0, by simpa using (PS.tp ([102, 111, 114] : List UInt8) (by simp) .nil).app h, by omega, by omega⟩
  · have hc : n.kids.length ≤ 1 := by simp [kfit, hk] at hkf; first | exact hkf.1 | (have := hkf.1; omega)
    have e : ndParts N n = valParts ([114, 101, 116, 117, 114, 110] : List UInt8) ([32] : List UInt8) n.kids := by simp [ndParts, hk, isSt, stParts]
    rw [e, if_neg (by omega)]
    exact hval _ _ (by simp) (by simp) hc
  · skip
    have hc : n.kids = [] := by simp [kfit, hk] at hkf; exact hkf
    have e : ndParts N n = [tp ([98, 114, 101, 97, 107, 59] : List UInt8)] := by simp [ndParts, hk, isSt, stParts]
    rw [e, if_neg (by omega)]
    exact hone _ (by simp) hc
  · skip
    have hc : n.kids = [] := by simp [kfit, hk] at hkf; exact hkf
    have e : ndParts N n = [tp ([99, 111, 110, 116, 105, 110, 117, 101, 59] : List UInt8)] := by simp [ndParts, hk, isSt, stParts]
    rw [e, if_neg (by omega)]
    exact hone _ (by simp) hc
  · skip
    have hc : n.kids = [] := by simp [kfit, hk] at hkf; exact hkf
    have e : ndParts N n = [tp (dcm n.val.toNat)] := by simp [ndParts, hk, isSt, exParts]
    rw [e, if_neg (by omega)]
    exact hone _ (by have := dcm_len 20 n.val.toNat (by omega) (by have := hOK.val; omega); omega) hc
  · skip
    have hc : n.kids = [] := by simp [kfit, hk] at hkf; exact hkf
    have e : ndParts N n = [tp ([116, 114, 117, 101] : List UInt8)] := by simp [ndParts, hk, isSt, exParts]
    rw [e, if_neg (by omega)]
    exact hone _ (by simp) hc
  · skip
    have hc : n.kids = [] := by simp [kfit, hk] at hkf; exact hkf
    have e : ndParts N n = [tp ([102, 97, 108, 115, 101] : List UInt8)] := by simp [ndParts, hk, isSt, exParts]
    rw [e, if_neg (by omega)]
    exact hone _ (by simp) hc
  · skip
    have hc : n.kids = [] := by simp [kfit, hk] at hkf; exact hkf
    have e : ndParts N n = [tp ([110, 105, 108] : List UInt8)] := by simp [ndParts, hk, isSt, exParts]
    rw [e, if_neg (by omega)]
    exact hone _ (by simp) hc
  · skip
    have hc : n.kids = [] := by simp [kfit, hk] at hkf; exact hkf
    have e : ndParts N n = [tp n.name] := by simp [ndParts, hk, isSt, exParts]
    rw [e, if_neg (by omega)]
    exact hone _ (by omega) hc
  · obtain ⟨a, ha, hal⟩ := ps_jn n.kids
    have e : ndParts N n = [tp (n.name ++ ([40] : List UInt8))] ++ jn n.kids ++ [tp ([41] : List UInt8)] := by simp [ndParts, hk, isSt, exParts]
    rw [e, if_neg (by omega)]
    exact ⟨1 + a + 1, 0, by simpa using ((PS.tp (n.name ++ ([40] : List UInt8)) (by simp; omega) .nil).app ha).app (.tp ([41] : List UInt8) (by simp) .nil), by omega, by omega⟩
  · skip
    have hc : n.kids = [] := by simp [kfit, hk] at hkf; exact hkf
    have e : ndParts N n = [tp ([105, 110, 112, 117, 116, 40, 41] : List UInt8)] := by simp [ndParts, hk, isSt, exParts]
    rw [e, if_neg (by omega)]
    exact hone _ (by simp) hc
  · skip
    have hc : n.kids.length = 1 := by simp [kfit, hk] at hkf; exact hkf.1
    obtain ⟨x, hkids⟩ := one_kid hc
    have e : ndParts N n = [tp ([108, 101, 110, 40] : List UInt8), wp x, tp ([41] : List UInt8)] := by simp [ndParts, hk, isSt, exParts, hkids]
    rw [e, if_neg (by omega)]
    rw [hkids]
    exact ⟨2, 0, .tp _ (by simp) (.wp x (.tp _ (by simp) .nil)), by simp, by simp⟩
  · skip
    have hc : n.kids.length = 1 := by simp [kfit, hk] at hkf; exact hkf.1
    obtain ⟨x, hkids⟩ := one_kid hc
    have e : ndParts N n = [tp ([109, 97, 107, 101, 40, 91, 93, 105, 110, 116, 44, 32] : List UInt8), wp x, tp ([41] : List UInt8)] := by simp [ndParts, hk, isSt, exParts, hkids]
    rw [e, if_neg (by omega)]
    rw [hkids]
    exact ⟨2, 0, .tp _ (by simp) (.wp x (.tp _ (by simp) .nil)), by simp, by simp⟩
  · skip
    have hc : n.kids.length = 2 := by simp [kfit, hk] at hkf; exact hkf.1
    obtain ⟨x, y, hkids⟩ := two_kids hc
    have e : ndParts N n = [vp N x 7, tp ([91] : List UInt8), wp y, tp ([93] : List UInt8)] := by simp [ndParts, hk, isSt, exParts, hkids]
    rw [e, if_neg (by omega)]
    rw [hkids]
    exact ⟨2, 0, .vp N x 7 (.tp _ (by simp) (.wp y (.tp _ (by simp) .nil))), by simp, by simp⟩
  · skip
    have hc : n.kids.length = 1 := by simp [kfit, hk] at hkf; exact hkf.1
    obtain ⟨x, hkids⟩ := one_kid hc
    have e : ndParts N n = [tp (opT n.op), vp N x 6] := by simp [ndParts, hk, isSt, exParts, hkids]
    rw [e, if_neg (by omega)]
    rw [hkids]
    exact ⟨1, 0, .tp _ (by have := hop n.op; omega) (.vp N x 6 .nil), by simp, by simp⟩
  · skip
    have hc : n.kids.length = 2 := by simp [kfit, hk] at hkf; exact hkf.1
    obtain ⟨x, y, hkids⟩ := two_kids hc
    have e : ndParts N n = [vp N x (if lv n = 3 then lv n + 1 else lv n), tp (([32] : List UInt8) ++ opT n.op ++ ([32] : List UInt8)), vp N y (lv n + 1)] := by simp [ndParts, hk, isSt, exParts, hkids]
    rw [e, if_neg (show ¬ n.kind = 3 by omega)]
    rw [hkids]
    exact ⟨1, 0, .vp N x _ (.tp _ (by have := hop n.op; simp; omega) (.vp N y _ .nil)), by simp, by simp⟩
end Go.Proofs.YtjepkcebfojiaaaDoor
namespace Go.Proofs.YtjepkcebfojiaaaDoor
open Go.ChangeShapes Go.WideShapes Go.ChangeAt Go.RowKit

set_option maxRecDepth 10000 in
set_option maxHeartbeats 4000000 in
theorem pp_wrap (w : World) (B F pb : Nat) (nv : Value) (S : Ps) (hS : PSt w B F pb nv S) (hF : F ≤ w.heap.size) (t : ByteArray) (k : Int) (hmn : S.todo.length + 3 ≤ 100000000) :
    Calls Tryd.prog 27 #[.pointer (some ⟨pb, 0, none⟩), .agg #[.int .i64 2, .string t, .int .i64 k]] w fun e w' => e = .returned (.tuple #[]) ∧ PSt w' B w'.heap.size pb nv ⟨S.text, [tp [40], wp k, tp [41]] ++ S.todo, S.opn⟩ ∧ Below B w w' := by
  have hB := hS.le
  have HPP : Hid (([] : List Pt) = []) := rfl
  go_enter Tryd.func27, Tryd.ntmps27
  go_wp2_with fail
  go_region_with (first
    | (go_at_call 44; refine (text_any _ _).mono ?_; rintro e w' ⟨rfl, rfl⟩)
    | (go_at_call 18; refine (whole_any _ _).mono ?_; rintro e w' ⟨rfl, rfl⟩)
    | (go_at_call 17; refine (put_newD _ _ B F pb nv S [tp [40], wp k, tp [41]] 3 _ (hS.below (by repeat (first | refine Below.alloc ?_ (by first | omega | (simp; done) | (simp; omega)) _ | refine Below.drew ?_ | exact Below.refl _ _)) (Nat.le_refl _)) (by simp; omega) (by simp) rfl rfl (by omega)).mono ?_; rintro e w' ⟨rfl, HS, hb, HKP⟩; have hbb : Below B w w' := (by refine Below.trans ?_ hb; exact (by repeat (first | refine Below.alloc ?_ (by first | omega | (simp; done) | (simp; omega)) _ | refine Below.drew ?_ | exact Below.refl _ _)))))
  all_goals (try go_wp2_with fail)
  all_goals first
    | exact bodyPost_end (v := .tuple #[]) (by simp [results, Tryd.results27, go_sem]) rfl ⟨rfl, HS, hbb⟩
    | exact bodyPost_ret (v := .tuple #[]) (by simp [results, Tryd.results27, go_sem]) rfl ⟨rfl, HS, hbb⟩
end Go.Proofs.YtjepkcebfojiaaaDoor
namespace Go.Proofs.YtjepkcebfojiaaaDoor
open Go.ChangeShapes Go.WideShapes Go.ChangeAt Go.RowKit

set_option maxHeartbeats 4000000 in
theorem node_all (w : World) (B F pb : Nat) (no : Option Addr) (nn nc : Nat) (N : List Nd) (S : Ps) (hE : Env w B no nn nc N) (hS : PSt w B F pb (.slice no nn nc) S) (hF : F ≤ w.heap.size) (n : Nd) (hOK : NdOKx N n) (ka : Option Addr) (kc : Nat) (hK : Ints w ka kc n.kids) (hkB : n.kids ≠ [] → ∀ b o, ka = some ⟨b, o, none⟩ → b < B)
    (hmn : S.todo.length + 2 * n.kids.length + 8 ≤ 100000000) (ho : S.opn + 1 ≤ 1000000000) :
    Calls Tryd.prog 43 #[.pointer (some ⟨pb, 0, none⟩), nv n ka kc] w fun e w' => e = .returned (.tuple #[]) ∧ PSt w' B w'.heap.size pb (.slice no nn nc) ⟨S.text, ndParts N n ++ S.todo, if n.kind = 3 then S.opn + 1 else S.opn⟩ ∧ Below B w w' := by
  have hB := hS.le
  have hb1 : ∀ (X : Obj) (K : Nat), K ≤ w.heap.size → Below K w (w.alloc X) := fun X K hK => (Below.refl _ _).alloc hK _
  have hS1 : ∀ X : Obj, PSt (w.alloc X) B F pb (.slice no nn nc) S := fun X => hS.below (hb1 X F hF) (Nat.le_refl _)
  have hK1 : ∀ X : Obj, Ints (w.alloc X) ka kc n.kids := fun X => hK.below (hb1 X _ (Nat.le_refl _)) (Nat.le_refl _)
  have hE1 : ∀ X : Obj, Env (w.alloc X) B no nn nc N := fun X => hE.below (hb1 X B (by omega))
  have hF1 : ∀ X : Obj, F ≤ (w.alloc X).heap.size := fun X => by simp; omega
  have fin : ∀ (X : Obj) (T : Ps) (f : Nat) (args : Array Value), (Calls Tryd.prog f args (w.alloc X) fun e w' => e = .returned (.tuple #[]) ∧ PSt w' B w'.heap.size pb (.slice no nn nc) T ∧ Below B (w.alloc X) w') → Calls Tryd.prog f args (w.alloc X) fun e w' => e = .returned (.tuple #[]) ∧ PSt w' B w'.heap.size pb (.slice no nn nc) T ∧ Below B w w' :=
    fun X T f args h => h.mono fun e w' ⟨h1, h2, h3⟩ => ⟨h1, h2, (hb1 X B (by omega)).trans h3⟩
  have hnm := ffit_name hOK.ff
  have hfr := ffit_rng hOK.ff
  have hkf := hOK.kf
  have hlen := hOK.len
  unfold nv
  have hk : n.kind = 1 ∨ n.kind = 2 ∨ n.kind = 3 ∨ n.kind = 4 ∨ n.kind = 5 ∨ n.kind = 6 ∨ n.kind = 7 ∨ n.kind = 8 ∨ n.kind = 9 ∨ n.kind = 10 ∨ n.kind = 11 ∨ n.kind = 12 ∨ n.kind = 13 ∨ n.kind = 14 ∨ n.kind = 20 ∨ n.kind = 21 ∨ n.kind = 22 ∨ n.kind = 23 ∨ n.kind = 24 ∨ n.kind = 25 ∨ n.kind = 26 ∨ n.kind = 27 ∨ n.kind = 28 ∨ n.kind = 29 ∨ n.kind = 30 ∨ n.kind = 31 := by
    rcases hOK.vk with h | h <;> omega
  rcases hk with hk | hk | hk | hk | hk | hk | hk | hk | hk | hk | hk | hk | hk | hk | hk | hk | hk | hk | hk | hk | hk | hk | hk | hk | hk | hk
  · have e : ndParts N n = fnParts n := by simp [ndParts, hk]
    rw [e, if_neg (by omega)]
    have hd : 0 ≤ n.decl ∧ n.decl < 4 := by simp [mayOf, hk, isEx] at hfr; omega
    obtain ⟨d, hd1⟩ := nat_of hd.1
    have hd2 : d < 4 := by omega
    have hc : 0 < n.kids.length := by simp [kfit, hk] at hkf; have := hkf.1.1; omega
    obtain ⟨ks, j, hkids⟩ : ∃ ks j, n.kids = ks ++ [j] := ⟨n.kids.dropLast, n.kids.getLast (by intro e; rw [e] at hc; simp at hc), (List.dropLast_concat_getLast _).symm⟩
    have hl : n.kids.length = ks.length + 1 := by rw [hkids]; simp
    rw [hl, hk]
    refine putNode_fn w pb n.at_ n.wh n.close n.decl n.typ n.op n.val (bs n.name) ka (ks.length + 1) kc _ (fin _ _ _ _ ?_)
    by_cases h0 : d = 0
    · have H := putFunc_0 _ B F pb (.slice no nn nc) S (hS1 (.cells #[.int .i64 1, .int .i64 n.at_, .int .i64 n.wh, .int .i64 n.close, .int .i64 n.decl, .int .i64 n.typ, .int .i64 n.op, .int .i64 n.val, .string (bs n.name), .slice ka (ks.length + 1) kc] 39)) (hF1 _) (hE1 _).tabt n (bs n.name) rfl (by omega) ka ks.length kc ks j hkids rfl (by omega) (hK1 _) (hkB (by rw [hkids]; simp)) d hd1 hd2 h0 hk (by omega)
      rw [hk] at H
      exact H
    · have H := putFunc_1 _ B F pb (.slice no nn nc) S (hS1 (.cells #[.int .i64 1, .int .i64 n.at_, .int .i64 n.wh, .int .i64 n.close, .int .i64 n.decl, .int .i64 n.typ, .int .i64 n.op, .int .i64 n.val, .string (bs n.name), .slice ka (ks.length + 1) kc] 39)) (hF1 _) (hE1 _).tabt n (bs n.name) rfl (by omega) ka ks.length kc ks j hkids rfl (by omega) (hK1 _) (hkB (by rw [hkids]; simp)) d hd1 hd2 h0 hk (by omega)
      rw [hk] at H
      exact H
  · rw [if_neg (by omega)]
    have hd : 0 ≤ n.decl ∧ n.decl < 4 := by simp [mayOf, hk, isEx] at hfr; omega
    obtain ⟨d, hd1⟩ := nat_of hd.1
    have hd2 : d < 4 := by omega
    have H := putNode_param w B F pb (.slice no nn nc) S hS hF hE.tabt N n (bs n.name) rfl (by omega) ka n.kids.length kc d hd1 hd2 hk (by omega)
    exact H
  · have e : ndParts N n = blParts n := by simp [ndParts, hk]
    rw [e, if_pos hk, hk]
    refine putNode_bl w pb n.at_ n.wh n.close n.decl n.typ n.op n.val (bs n.name) ka n.kids.length kc _ (fin _ _ _ _ ?_)
    have H := putBlock_st _ B F pb (.slice no nn nc) S (hS1 (.cells #[.int .i64 3, .int .i64 n.at_, .int .i64 n.wh, .int .i64 n.close, .int .i64 n.decl, .int .i64 n.typ, .int .i64 n.op, .int .i64 n.val, .string (bs n.name), .slice ka n.kids.length kc] 39)) (hF1 _) ho n (bs n.name) ka n.kids.length kc rfl (hK1 _) hkB (by omega)
    rw [hk] at H
    exact H
  · have e : ndParts N n = stParts n := by simp [ndParts, hk, isSt]
    rw [e, if_neg (by omega)]
    have hd : 0 ≤ n.decl ∧ n.decl < 4 := by simp [mayOf, hk, isEx] at hfr; omega
    obtain ⟨d, hd1⟩ := nat_of hd.1
    have hd2 : d < 4 := by omega
    rw [hk]
    refine putNode_st w pb 4 n.at_ n.wh n.close n.decl n.typ n.op n.val (bs n.name) ka n.kids.length kc (by omega) (by omega) _ (fin _ _ _ _ ?_)
    have H := putSt_var _ B F pb (.slice no nn nc) S (hS1 (.cells #[.int .i64 4, .int .i64 n.at_, .int .i64 n.wh, .int .i64 n.close, .int .i64 n.decl, .int .i64 n.typ, .int .i64 n.op, .int .i64 n.val, .string (bs n.name), .slice ka n.kids.length kc] 39)) (hF1 _) (hE1 _).tabt n (bs n.name) rfl (by omega) ka n.kids.length kc rfl (hK1 _) d hd1 hd2 hk (by omega)
    rw [hk] at H
    exact H
  · have e : ndParts N n = stParts n := by simp [ndParts, hk, isSt]
    rw [e, if_neg (by omega)]
    rw [hk]
    refine putNode_st w pb 5 n.at_ n.wh n.close n.decl n.typ n.op n.val (bs n.name) ka n.kids.length kc (by omega) (by omega) _ (fin _ _ _ _ ?_)
    have H := putSt_set _ B F pb (.slice no nn nc) S (hS1 (.cells #[.int .i64 5, .int .i64 n.at_, .int .i64 n.wh, .int .i64 n.close, .int .i64 n.decl, .int .i64 n.typ, .int .i64 n.op, .int .i64 n.val, .string (bs n.name), .slice ka n.kids.length kc] 39)) (hF1 _) n (bs n.name) rfl ka n.kids.length kc rfl (hK1 _) hk (by omega)
    rw [hk] at H
    exact H
  · have e : ndParts N n = stParts n := by simp [ndParts, hk, isSt]
    rw [e, if_neg (by omega)]
    have hc : n.kids.length = 2 := by simp [kfit, hk] at hkf; exact hkf.1
    obtain ⟨x, y, hkids⟩ := two_kids hc
    rw [hc]
    rw [hk]
    refine putNode_st w pb 6 n.at_ n.wh n.close n.decl n.typ n.op n.val (bs n.name) ka 2 kc (by omega) (by omega) _ (fin _ _ _ _ ?_)
    have H := putSt_setAt _ B F pb (.slice no nn nc) S (hS1 (.cells #[.int .i64 6, .int .i64 n.at_, .int .i64 n.wh, .int .i64 n.close, .int .i64 n.decl, .int .i64 n.typ, .int .i64 n.op, .int .i64 n.val, .string (bs n.name), .slice ka 2 kc] 39)) (hF1 _) n (bs n.name) rfl (by omega) ka kc x y (hK1 _) (hkB (by rw [hkids]; simp)) hkids hk (by omega)
    rw [hk] at H
    exact H
  · have e : ndParts N n = stParts n := by simp [ndParts, hk, isSt]
    rw [e, if_neg (by omega)]
    have hc : n.kids.length = 1 := by simp [kfit, hk] at hkf; exact hkf.1
    obtain ⟨x, hkids⟩ := one_kid hc
    rw [hc]
    rw [hk]
    refine putNode_st w pb 7 n.at_ n.wh n.close n.decl n.typ n.op n.val (bs n.name) ka 1 kc (by omega) (by omega) _ (fin _ _ _ _ ?_)
    have H := putSt_call _ B F pb (.slice no nn nc) S (hS1 (.cells #[.int .i64 7, .int .i64 n.at_, .int .i64 n.wh, .int .i64 n.close, .int .i64 n.decl, .int .i64 n.typ, .int .i64 n.op, .int .i64 n.val, .string (bs n.name), .slice ka 1 kc] 39)) (hF1 _) N n (bs n.name) ka kc x hkids (hK1 _) (hkB (by rw [hkids]; simp)) hk (by omega)
    rw [hk] at H
    exact H
  · have e : ndParts N n = stParts n := by simp [ndParts, hk, isSt]
    rw [e, if_neg (by omega)]
    have hc : n.kids.length = 1 := by simp [kfit, hk] at hkf; exact hkf.1
    obtain ⟨x, hkids⟩ := one_kid hc
    rw [hc]
    rw [hk]
    refine putNode_st w pb 8 n.at_ n.wh n.close n.decl n.typ n.op n.val (bs n.name) ka 1 kc (by omega) (by omega) _ (fin _ _ _ _ ?_)
    have H := putSt_tell _ B F pb (.slice no nn nc) S (hS1 (.cells #[.int .i64 8, .int .i64 n.at_, .int .i64 n.wh, .int .i64 n.close, .int .i64 n.decl, .int .i64 n.typ, .int .i64 n.op, .int .i64 n.val, .string (bs n.name), .slice ka 1 kc] 39)) (hF1 _) N n (bs n.name) ka kc x hkids (hK1 _) (hkB (by rw [hkids]; simp)) (.inl hk) (by omega)
    rw [hk] at H
    exact H
  · have e : ndParts N n = stParts n := by simp [ndParts, hk, isSt]
    rw [e, if_neg (by omega)]
    have hc : n.kids.length = 1 := by simp [kfit, hk] at hkf; exact hkf.1
    obtain ⟨x, hkids⟩ := one_kid hc
    rw [hc]
    rw [hk]
    refine putNode_st w pb 9 n.at_ n.wh n.close n.decl n.typ n.op n.val (bs n.name) ka 1 kc (by omega) (by omega) _ (fin _ _ _ _ ?_)
    have H := putSt_tell _ B F pb (.slice no nn nc) S (hS1 (.cells #[.int .i64 9, .int .i64 n.at_, .int .i64 n.wh, .int .i64 n.close, .int .i64 n.decl, .int .i64 n.typ, .int .i64 n.op, .int .i64 n.val, .string (bs n.name), .slice ka 1 kc] 39)) (hF1 _) N n (bs n.name) ka kc x hkids (hK1 _) (hkB (by rw [hkids]; simp)) (.inr hk) (by omega)
    rw [hk] at H
    exact H
  · have e : ndParts N n = stParts n := by simp [ndParts, hk, isSt]
    rw [e, if_neg (by omega)]
    have hcc : n.kids.length = 2 ∨ n.kids.length = 3 := by simp [kfit, hk] at hkf; exact hkf.1.1.1
    rcases hcc with hc | hc
    · skip
      obtain ⟨x, y, hkids⟩ := two_kids hc
      rw [hc, hk]
      refine putNode_st w pb 10 n.at_ n.wh n.close n.decl n.typ n.op n.val (bs n.name) ka 2 kc (by omega) (by omega) _ (fin _ _ _ _ ?_)
      have H := putSt_if2 _ B F pb (.slice no nn nc) S (hS1 (.cells #[.int .i64 10, .int .i64 n.at_, .int .i64 n.wh, .int .i64 n.close, .int .i64 n.decl, .int .i64 n.typ, .int .i64 n.op, .int .i64 n.val, .string (bs n.name), .slice ka 2 kc] 39)) (hF1 _) n (bs n.name) ka kc x y hkids (hK1 _) (hkB (by rw [hkids]; simp)) hk (by omega)
      rw [hk] at H
      exact H
    · skip
      obtain ⟨x, y, z, hkids⟩ := three_kids hc
      rw [hc, hk]
      refine putNode_st w pb 10 n.at_ n.wh n.close n.decl n.typ n.op n.val (bs n.name) ka 3 kc (by omega) (by omega) _ (fin _ _ _ _ ?_)
      have H := putSt_if3 _ B F pb (.slice no nn nc) S (hS1 (.cells #[.int .i64 10, .int .i64 n.at_, .int .i64 n.wh, .int .i64 n.close, .int .i64 n.decl, .int .i64 n.typ, .int .i64 n.op, .int .i64 n.val, .string (bs n.name), .slice ka 3 kc] 39)) (hF1 _) n (bs n.name) ka kc x y z hkids (hK1 _) (hkB (by rw [hkids]; simp)) hk (by omega)
      rw [hk] at H
      exact H
  · have e : ndParts N n = stParts n := by simp [ndParts, hk, isSt]
    rw [e, if_neg (by omega)]
    rw [hk]
    refine putNode_st w pb 11 n.at_ n.wh n.close n.decl n.typ n.op n.val (bs n.name) ka n.kids.length kc (by omega) (by omega) _ (fin _ _ _ _ ?_)
    have H := putSt_for _ B F pb (.slice no nn nc) S (hS1 (.cells #[.int .i64 11, .int .i64 n.at_, .int .i64 n.wh, .int .i64 n.close, .int .i64 n.decl, .int .i64 n.typ, .int .i64 n.op, .int .i64 n.val, .string (bs n.name), .slice ka n.kids.length kc] 39)) (hF1 _) n (bs n.name) ka n.kids.length kc rfl (hK1 _) hkB hk (by omega)
    rw [hk] at H
    exact H
  · have e : ndParts N n = stParts n := by simp [ndParts, hk, isSt]
    rw [e, if_neg (by omega)]
    rw [hk]
    refine putNode_st w pb 12 n.at_ n.wh n.close n.decl n.typ n.op n.val (bs n.name) ka n.kids.length kc (by omega) (by omega) _ (fin _ _ _ _ ?_)
    have H := putSt_ret _ B F pb (.slice no nn nc) S (hS1 (.cells #[.int .i64 12, .int .i64 n.at_, .int .i64 n.wh, .int .i64 n.close, .int .i64 n.decl, .int .i64 n.typ, .int .i64 n.op, .int .i64 n.val, .string (bs n.name), .slice ka n.kids.length kc] 39)) (hF1 _) n (bs n.name) ka n.kids.length kc rfl (hK1 _) hk (by omega)
    rw [hk] at H
    exact H
  · have e : ndParts N n = stParts n := by simp [ndParts, hk, isSt]
    rw [e, if_neg (by omega)]
    rw [hk]
    refine putNode_st w pb 13 n.at_ n.wh n.close n.decl n.typ n.op n.val (bs n.name) ka n.kids.length kc (by omega) (by omega) _ (fin _ _ _ _ ?_)
    have H := putSt_word _ B F pb (.slice no nn nc) S (hS1 (.cells #[.int .i64 13, .int .i64 n.at_, .int .i64 n.wh, .int .i64 n.close, .int .i64 n.decl, .int .i64 n.typ, .int .i64 n.op, .int .i64 n.val, .string (bs n.name), .slice ka n.kids.length kc] 39)) (hF1 _) n (bs n.name) ka n.kids.length kc (.inl hk) (by omega)
    rw [hk] at H
    exact H
  · have e : ndParts N n = stParts n := by simp [ndParts, hk, isSt]
    rw [e, if_neg (by omega)]
    rw [hk]
    refine putNode_st w pb 14 n.at_ n.wh n.close n.decl n.typ n.op n.val (bs n.name) ka n.kids.length kc (by omega) (by omega) _ (fin _ _ _ _ ?_)
    have H := putSt_word _ B F pb (.slice no nn nc) S (hS1 (.cells #[.int .i64 14, .int .i64 n.at_, .int .i64 n.wh, .int .i64 n.close, .int .i64 n.decl, .int .i64 n.typ, .int .i64 n.op, .int .i64 n.val, .string (bs n.name), .slice ka n.kids.length kc] 39)) (hF1 _) n (bs n.name) ka n.kids.length kc (.inr hk) (by omega)
    rw [hk] at H
    exact H
  · have e : ndParts N n = exParts N n := by simp [ndParts, hk, isSt]
    rw [e, if_neg (by omega)]
    rw [hk]
    refine putNode_ex w pb 20 n.at_ n.wh n.close n.decl n.typ n.op n.val (bs n.name) ka n.kids.length kc (by omega) (by omega) _ (fin _ _ _ _ ?_)
    have H := putExpr_num _ B F pb (.slice no nn nc) S (hS1 (.cells #[.int .i64 20, .int .i64 n.at_, .int .i64 n.wh, .int .i64 n.close, .int .i64 n.decl, .int .i64 n.typ, .int .i64 n.op, .int .i64 n.val, .string (bs n.name), .slice ka n.kids.length kc] 39)) (hF1 _) (hE1 _).tabp N n (bs n.name) ka n.kids.length kc hk hfr.2.2.2.2 hOK.val (by omega)
    rw [hk] at H
    exact H
  · have e : ndParts N n = exParts N n := by simp [ndParts, hk, isSt]
    rw [e, if_neg (by omega)]
    rw [hk]
    refine putNode_ex w pb 21 n.at_ n.wh n.close n.decl n.typ n.op n.val (bs n.name) ka n.kids.length kc (by omega) (by omega) _ (fin _ _ _ _ ?_)
    have H := putExpr_leaf _ B F pb (.slice no nn nc) S (hS1 (.cells #[.int .i64 21, .int .i64 n.at_, .int .i64 n.wh, .int .i64 n.close, .int .i64 n.decl, .int .i64 n.typ, .int .i64 n.op, .int .i64 n.val, .string (bs n.name), .slice ka n.kids.length kc] 39)) (hF1 _) N n (bs n.name) rfl ka n.kids.length kc (.inl hk) (by omega)
    rw [hk] at H
    exact H
  · have e : ndParts N n = exParts N n := by simp [ndParts, hk, isSt]
    rw [e, if_neg (by omega)]
    rw [hk]
    refine putNode_ex w pb 22 n.at_ n.wh n.close n.decl n.typ n.op n.val (bs n.name) ka n.kids.length kc (by omega) (by omega) _ (fin _ _ _ _ ?_)
    have H := putExpr_leaf _ B F pb (.slice no nn nc) S (hS1 (.cells #[.int .i64 22, .int .i64 n.at_, .int .i64 n.wh, .int .i64 n.close, .int .i64 n.decl, .int .i64 n.typ, .int .i64 n.op, .int .i64 n.val, .string (bs n.name), .slice ka n.kids.length kc] 39)) (hF1 _) N n (bs n.name) rfl ka n.kids.length kc (.inr (.inl hk)) (by omega)
    rw [hk] at H
    exact H
  · have e : ndParts N n = exParts N n := by simp [ndParts, hk, isSt]
    rw [e, if_neg (by omega)]
    rw [hk]
    refine putNode_ex w pb 23 n.at_ n.wh n.close n.decl n.typ n.op n.val (bs n.name) ka n.kids.length kc (by omega) (by omega) _ (fin _ _ _ _ ?_)
    have H := putExpr_leaf _ B F pb (.slice no nn nc) S (hS1 (.cells #[.int .i64 23, .int .i64 n.at_, .int .i64 n.wh, .int .i64 n.close, .int .i64 n.decl, .int .i64 n.typ, .int .i64 n.op, .int .i64 n.val, .string (bs n.name), .slice ka n.kids.length kc] 39)) (hF1 _) N n (bs n.name) rfl ka n.kids.length kc (.inr (.inr (.inl hk))) (by omega)
    rw [hk] at H
    exact H
  · have e : ndParts N n = exParts N n := by simp [ndParts, hk, isSt]
    rw [e, if_neg (by omega)]
    rw [hk]
    refine putNode_ex w pb 24 n.at_ n.wh n.close n.decl n.typ n.op n.val (bs n.name) ka n.kids.length kc (by omega) (by omega) _ (fin _ _ _ _ ?_)
    have H := putExpr_leaf _ B F pb (.slice no nn nc) S (hS1 (.cells #[.int .i64 24, .int .i64 n.at_, .int .i64 n.wh, .int .i64 n.close, .int .i64 n.decl, .int .i64 n.typ, .int .i64 n.op, .int .i64 n.val, .string (bs n.name), .slice ka n.kids.length kc] 39)) (hF1 _) N n (bs n.name) rfl ka n.kids.length kc (.inr (.inr (.inr (.inl hk)))) (by omega)
    rw [hk] at H
    exact H
  · have e : ndParts N n = exParts N n := by simp [ndParts, hk, isSt]
    rw [e, if_neg (by omega)]
    rw [hk]
    refine putNode_ex w pb 25 n.at_ n.wh n.close n.decl n.typ n.op n.val (bs n.name) ka n.kids.length kc (by omega) (by omega) _ (fin _ _ _ _ ?_)
    have H := putExpr_call _ B F pb (.slice no nn nc) S (hS1 (.cells #[.int .i64 25, .int .i64 n.at_, .int .i64 n.wh, .int .i64 n.close, .int .i64 n.decl, .int .i64 n.typ, .int .i64 n.op, .int .i64 n.val, .string (bs n.name), .slice ka n.kids.length kc] 39)) (hF1 _) N n (bs n.name) rfl ka n.kids.length kc rfl (hK1 _) (by omega) (by omega) hk (by omega)
    rw [hk] at H
    exact H
  · have e : ndParts N n = exParts N n := by simp [ndParts, hk, isSt]
    rw [e, if_neg (by omega)]
    rw [hk]
    refine putNode_ex w pb 26 n.at_ n.wh n.close n.decl n.typ n.op n.val (bs n.name) ka n.kids.length kc (by omega) (by omega) _ (fin _ _ _ _ ?_)
    have H := putExpr_leaf _ B F pb (.slice no nn nc) S (hS1 (.cells #[.int .i64 26, .int .i64 n.at_, .int .i64 n.wh, .int .i64 n.close, .int .i64 n.decl, .int .i64 n.typ, .int .i64 n.op, .int .i64 n.val, .string (bs n.name), .slice ka n.kids.length kc] 39)) (hF1 _) N n (bs n.name) rfl ka n.kids.length kc (.inr (.inr (.inr (.inr hk)))) (by omega)
    rw [hk] at H
    exact H
  · have e : ndParts N n = exParts N n := by simp [ndParts, hk, isSt]
    rw [e, if_neg (by omega)]
    have hc : n.kids.length = 1 := by simp [kfit, hk] at hkf; exact hkf.1
    obtain ⟨x, hkids⟩ := one_kid hc
    rw [hc]
    rw [hk]
    refine putNode_ex w pb 27 n.at_ n.wh n.close n.decl n.typ n.op n.val (bs n.name) ka 1 kc (by omega) (by omega) _ (fin _ _ _ _ ?_)
    have H := putExpr_one _ B F pb (.slice no nn nc) S (hS1 (.cells #[.int .i64 27, .int .i64 n.at_, .int .i64 n.wh, .int .i64 n.close, .int .i64 n.decl, .int .i64 n.typ, .int .i64 n.op, .int .i64 n.val, .string (bs n.name), .slice ka 1 kc] 39)) (hF1 _) N n (bs n.name) ka kc x hkids (hK1 _) (hkB (by rw [hkids]; simp)) (.inl hk) (by omega)
    rw [hk] at H
    exact H
  · have e : ndParts N n = exParts N n := by simp [ndParts, hk, isSt]
    rw [e, if_neg (by omega)]
    have hc : n.kids.length = 1 := by simp [kfit, hk] at hkf; exact hkf.1
    obtain ⟨x, hkids⟩ := one_kid hc
    rw [hc]
    rw [hk]
    refine putNode_ex w pb 28 n.at_ n.wh n.close n.decl n.typ n.op n.val (bs n.name) ka 1 kc (by omega) (by omega) _ (fin _ _ _ _ ?_)
    have H := putExpr_one _ B F pb (.slice no nn nc) S (hS1 (.cells #[.int .i64 28, .int .i64 n.at_, .int .i64 n.wh, .int .i64 n.close, .int .i64 n.decl, .int .i64 n.typ, .int .i64 n.op, .int .i64 n.val, .string (bs n.name), .slice ka 1 kc] 39)) (hF1 _) N n (bs n.name) ka kc x hkids (hK1 _) (hkB (by rw [hkids]; simp)) (.inr hk) (by omega)
    rw [hk] at H
    exact H
  · have e : ndParts N n = exParts N n := by simp [ndParts, hk, isSt]
    rw [e, if_neg (by omega)]
    have hc : n.kids.length = 2 := by simp [kfit, hk] at hkf; exact hkf.1
    obtain ⟨x, y, hkids⟩ := two_kids hc
    obtain ⟨i, rfl, hi⟩ := kid_nat hOK (x := x) (by rw [hkids]; simp)
    obtain ⟨j, rfl, hj⟩ := kid_nat hOK (x := y) (by rw [hkids]; simp)
    rw [hc]
    rw [hk]
    refine putNode_ex w pb 29 n.at_ n.wh n.close n.decl n.typ n.op n.val (bs n.name) ka 2 kc (by omega) (by omega) _ (fin _ _ _ _ ?_)
    have H := putExpr_index _ B F pb S no nn nc N (hS1 (.cells #[.int .i64 29, .int .i64 n.at_, .int .i64 n.wh, .int .i64 n.close, .int .i64 n.decl, .int .i64 n.typ, .int .i64 n.op, .int .i64 n.val, .string (bs n.name), .slice ka 2 kc] 39)) (hF1 _) (hE1 _).tabt (hE1 _).nodes hE.nn n (bs n.name) ka kc i j (hK1 _) (hkB (by rw [hkids]; simp)) hkids hi hk (by omega)
    rw [hk] at H
    exact H
  · have e : ndParts N n = exParts N n := by simp [ndParts, hk, isSt]
    rw [e, if_neg (by omega)]
    have hop : 0 ≤ n.op ∧ n.op < 23 := by simp [mayOf, hk, isEx] at hfr; omega
    obtain ⟨op, hop1⟩ := nat_of hop.1
    have hop2 : op < 23 := by omega
    have hc : n.kids.length = 1 := by simp [kfit, hk] at hkf; exact hkf.1
    obtain ⟨x, hkids⟩ := one_kid hc
    obtain ⟨i, rfl, hi⟩ := kid_nat hOK (x := x) (by rw [hkids]; simp)
    rw [hc]
    rw [hk]
    refine putNode_ex w pb 30 n.at_ n.wh n.close n.decl n.typ n.op n.val (bs n.name) ka 1 kc (by omega) (by omega) _ (fin _ _ _ _ ?_)
    have H := putExpr_unary _ B F pb S no nn nc N (hS1 (.cells #[.int .i64 30, .int .i64 n.at_, .int .i64 n.wh, .int .i64 n.close, .int .i64 n.decl, .int .i64 n.typ, .int .i64 n.op, .int .i64 n.val, .string (bs n.name), .slice ka 1 kc] 39)) (hF1 _) (hE1 _).tabt (hE1 _).nodes hE.nn n (bs n.name) ka kc i (hK1 _) (hkB (by rw [hkids]; simp)) hkids hi op hop1 hop2 hk (by omega)
    rw [hk] at H
    exact H
  · have e : ndParts N n = exParts N n := by simp [ndParts, hk, isSt]
    rw [e, if_neg (by omega)]
    have hop : 0 ≤ n.op ∧ n.op < 23 := by simp [mayOf, hk, isEx] at hfr; omega
    obtain ⟨op, hop1⟩ := nat_of hop.1
    have hop2 : op < 23 := by omega
    have hc : n.kids.length = 2 := by simp [kfit, hk] at hkf; exact hkf.1
    obtain ⟨x, y, hkids⟩ := two_kids hc
    obtain ⟨i, rfl, hi⟩ := kid_nat hOK (x := x) (by rw [hkids]; simp)
    obtain ⟨j, rfl, hj⟩ := kid_nat hOK (x := y) (by rw [hkids]; simp)
    rw [hc]
    rw [hk]
    refine putNode_ex w pb 31 n.at_ n.wh n.close n.decl n.typ n.op n.val (bs n.name) ka 2 kc (by omega) (by omega) _ (fin _ _ _ _ ?_)
    have H := putExpr_bin _ B F pb S no nn nc N (hS1 (.cells #[.int .i64 31, .int .i64 n.at_, .int .i64 n.wh, .int .i64 n.close, .int .i64 n.decl, .int .i64 n.typ, .int .i64 n.op, .int .i64 n.val, .string (bs n.name), .slice ka 2 kc] 39)) (hF1 _) (hE1 _).tabt (hE1 _).nodes hE.nn n (bs n.name) ka kc i j (hK1 _) (hkB (by rw [hkids]; simp)) hkids hi hj op hop1 hop2 hk (by omega)
    rw [hk] at H
    exact H
end Go.Proofs.YtjepkcebfojiaaaDoor
namespace Go.Proofs.YtjepkcebfojiaaaDoor
open Go.ChangeShapes Go.WideShapes Go.ChangeAt Go.RowKit

/-- A part that the contracts bear, the rest being s. -/
def OKpx (N : List Nd) (s : Ps) (p : Pt) : Prop :=
  (p.form = 0 ∧ s.text.length + p.text.length ≤ 1000000000)
  ∨ (p.form = 1 ∧ ∃ j : Nat, p.node = (j : Int) ∧ ∃ h : j < N.length, NdOKx N N[j] ∧ s.todo.length + 2 * N[j].kids.length + 8 ≤ 100000000 ∧ s.opn + 1 ≤ 1000000000)
  ∨ (p.form = 2 ∧ s.todo.length + 3 ≤ 100000000)
  ∨ (p.form = 3 ∧ s.text.length + s.opn + 1 ≤ 1000000000)
  ∨ (p.form = 4 ∧ ∃ o, s.opn = o + 1 ∧ s.text.length + o + 2 ≤ 1000000000)

set_option maxHeartbeats 1000000 in
theorem pp_all (w : World) (B F pb : Nat) (no : Option Addr) (nn nc : Nat) (N : List Nd) (S : Ps) (p : Pt) (hE : Env w B no nn nc N) (hS : PSt w B F pb (.slice no nn nc) S) (hF : F ≤ w.heap.size) (hOK : OKpx N S p) :
    Calls Tryd.prog 27 #[.pointer (some ⟨pb, 0, none⟩), .agg #[.int .i64 p.form, .string (bs p.text), .int .i64 p.node]] w fun e w' => e = .returned (.tuple #[]) ∧ PSt w' B w'.heap.size pb (.slice no nn nc) (pstep N ⟨S.text, p :: S.todo, S.opn⟩) ∧ Below B w w' := by
  have hB := hS.le
  rcases hOK with ⟨hf, hl⟩ | ⟨hf, j, hj, hjl, hok, hb1, hb2⟩ | ⟨hf, hl⟩ | ⟨hf, hl⟩ | ⟨hf, o, ho, hl⟩
  · have e : pstep N ⟨S.text, p :: S.todo, S.opn⟩ = ⟨S.text ++ p.text, S.todo, S.opn⟩ := by simp [pstep, hf]
    rw [e, hf]
    exact pp_text w B F pb _ S hS hF (bs p.text) p.text rfl p.node hl
  · have e0 : ndOf N p.node = N[j] := by rw [hj]; simp [ndOf, List.getD, hjl]
    have e : pstep N ⟨S.text, p :: S.todo, S.opn⟩ = ⟨S.text, ndParts N N[j] ++ S.todo, if N[j].kind = 3 then S.opn + 1 else S.opn⟩ := by simp [pstep, hf, e0]
    rw [e, hf, hj]
    refine pp_whole w B F pb no nn nc S hS hF N hE.nodes hE.nn j hjl (bs p.text) _ (fun ka kc hK hc => ?_)
    obtain ⟨b, o, e1, hc⟩ := hc
    have hb : ∀ K, K ≤ w.heap.size → Below K w ((w.alloc (.cells #[.int .i64 1, .string (bs p.text), .int .i64 (j : Int)] 52)).drew) := fun K hK => ((Below.refl _ _).alloc hK _).drew
    refine (node_all _ B F pb no nn nc N S (hE.below (hb B (by omega))) (hS.below (hb F hF) (Nat.le_refl _)) (by rw [drew_heap]; simp; omega) N[j] hok ka kc (hK.below (hb _ (Nat.le_refl _)) (Nat.le_refl _)) (fun hne => hE.kids j hjl e1 hc hne) hb1 hb2).mono ?_
    rintro e w' ⟨h1, h2, h3⟩
    exact ⟨h1, h2, (hb B (by omega)).trans h3⟩
  · have e : pstep N ⟨S.text, p :: S.todo, S.opn⟩ = ⟨S.text, [tp [40], wp p.node, tp [41]] ++ S.todo, S.opn⟩ := by simp [pstep, hf]
    rw [e, hf]
    exact pp_wrap w B F pb _ S hS hF (bs p.text) p.node hl
  · have e : pstep N ⟨S.text, p :: S.todo, S.opn⟩ = ⟨S.text ++ tabs S.opn, S.todo, S.opn⟩ := by simp [pstep, hf]
    rw [e, hf]
    exact pp_line w B F pb _ S hS hF hl (bs p.text) p.node
  · have e : pstep N ⟨S.text, p :: S.todo, S.opn⟩ = ⟨S.text ++ tabs o ++ [125], S.todo, o⟩ := by simp [pstep, hf, ho]
    rw [e, hf]
    exact pp_end w B F pb _ S hS hF (bs p.text) p.node o ho hl

/-- So many steps that the contracts bear, to the end. -/
inductive RunsOKx (N : List Nd) : Nat → Ps → Ps → Prop
  | fin (s : Ps) : s.todo = [] → RunsOKx N 0 s s
  | more {n s s' p r} : s.todo = p :: r → OKpx N ⟨s.text, r, s.opn⟩ p → r.length ≤ 100000000 → RunsOKx N n (pstep N s) s' → RunsOKx N (n + 1) s s'

theorem RunsOKx.inv {N k s s'} (h : RunsOKx N k s s') : (k = 0 ∧ s' = s ∧ s.todo = []) ∨ ∃ n p r, k = n + 1 ∧ s.todo = p :: r ∧ OKpx N ⟨s.text, r, s.opn⟩ p ∧ r.length ≤ 100000000 ∧ RunsOKx N n (pstep N s) s' := by
  cases h with
  | fin _ h => exact .inl ⟨rfl, rfl, h⟩
  | more h1 h2 h3 h4 => exact .inr ⟨_, _, _, rfl, h1, h2, h3, h4⟩
set_option maxRecDepth 10000 in
set_option maxHeartbeats 4000000 in
theorem printAll_all (w : World) (B F pb : Nat) (no : Option Addr) (nn nc : Nat) (N : List Nd) (S S' : Ps) (k : Nat) (hE : Env w B no nn nc N) (hS : PSt w B F pb (.slice no nn nc) S) (hF : F ≤ w.heap.size) (hR : RunsOKx N k S S') :
    Calls Tryd.prog 19 #[.pointer (some ⟨pb, 0, none⟩)] w fun e w' => e = .returned (.tuple #[]) ∧ PSt w' B w'.heap.size pb (.slice no nn nc) S' ∧ Below B w w' := by
  have hB := hS.le
  have HE : Hid _ := hE
  clear hE
  go_enter Tryd.func19, Tryd.ntmps19
  go_wp2_with fail
  go_loopg [] k (fun k wr => ∃ T : Ps, RunsOKx N k T S' ∧ PSt wr B wr.heap.size pb (.slice no nn nc) T ∧ Below B w wr)
  case atStart => exact ⟨S, hR, hS.up hF, Below.refl _ _⟩
  case round =>
    obtain ⟨T, hRT, hT, hbr⟩ := hrel
    have hbs := hbr.size
    rcases hRT.inv with ⟨rfl, rfl, hT0⟩ | ⟨n', p, r, rfl, hT0, hok, hrl, hrest⟩
    · obtain ⟨tv, dv, n, m, h⟩ := hT.out
      have hm : m = 0 := by have := h.tod.len; rw [hT0] at this; simpa using this
      subst hm
      obtain ⟨da, dc, rfl⟩ := own_slice h.tod.out
      obtain ⟨q0, q1, q2, q3⟩ := h.prv.cells
      have hlt := h.lt
      go_wp2_with fail
      exact bodyPost_end (v := .tuple #[]) (by simp [results, Tryd.results19, go_sem]) rfl ⟨rfl, hT, hbr⟩
    · obtain ⟨tv, dv, n, m, h⟩ := hT.out
      have hm : m = r.length + 1 := by have := h.tod.len; rw [hT0] at this; simpa using this
      obtain ⟨m1, hm1⟩ : ∃ m1, m1 = r.length := ⟨_, rfl⟩
      rw [← hm1] at hm hrl
      subst hm
      obtain ⟨da, dc, rfl, hd1, hd2, hV, hda⟩ := h.tod.view
      obtain ⟨g, rfl, hg, hc⟩ := hV.out (by rw [hT0]; simp)
      obtain ⟨p0, p1, p2⟩ := hc m1 (by rw [hT0]; simp; omega)
      have hel : (T.todo.reverse)[m1]'(by rw [hT0]; simp; omega) = p := by
        simp only [hT0, List.reverse_cons]
        rw [List.getElem_append_right (by simp; omega)]
        simp [hm1]
      rw [hel] at p0 p1 p2
      obtain ⟨HP1, hbp⟩ := h.pop hT0 (Nat.le_refl _)
      obtain ⟨q0, q1, q2, q3⟩ := h.prv.cells
      have hlt := h.lt
      have hfz : wr.frozen? ⟨pb, 2, none⟩ = false := fz_of h.prv.blk
      have hgp : ¬ g = pb := fun e => h.prv.apart h.tod (by rw [e]; rfl)
      have hmI : ((m1 + 1 : Nat) : Int) - 1 = (m1 : Int) := by omega
      have hm1c : m1 ≤ dc := by omega
      have HOK : Hid (OKpx N ⟨T.text, r, T.opn⟩ p) := hok
      have HT0 : Hid (T = ⟨T.text, p :: r, T.opn⟩) := by show _ = _; rw [← hT0]
      clear hok hT0 hel hm1 hc h hT
      have hsz : (wr.setCell ⟨pb, 2, none⟩ (.slice (some ⟨g, 0, none⟩) m1 dc)).heap.size = wr.heap.size := by simp [World.setCell]
      go_wp2_with fail
      refine (pp_all _ B wr.heap.size pb no nn nc N ⟨T.text, r, T.opn⟩ p (HE.out.below ((hbr.trans hbp).alloc (by rw [hsz]; omega) _)) ((PSt.mk ⟨_, _, _, _, HP1⟩).below ((Below.refl _ _).alloc (by rw [hsz]; omega) _) (Nat.le_refl _)) (by simp [World.setCell]) HOK.out).mono ?_
      rintro e w3 ⟨rfl, HS3, hb3⟩
      have hb3w : Below B w w3 := ((hbr.trans hbp).alloc (by rw [hsz]; omega) _).trans hb3
      have HS4 : PSt w3 B w3.heap.size pb (.slice no nn nc) (pstep N T) := by rw [HT0.out]; exact HS3
      clear hb3 HS3 p0 p1 p2 q0 q1 q2 q3 hfz HP1 hbp
      go_wp2_with fail
      go_roundg n'
      case rel => exact ⟨_, hrest, HS4, hb3w⟩
      case measure => omega

/-- All functions, one after another. -/
inductive PrintsOKx (N : List Nd) : List Int → Ps → Ps → Prop
  | nil (s : Ps) : PrintsOKx N [] s s
  | cons {f r s s1 s2 k} : RunsOKx N k ⟨s.text, [wp f], s.opn⟩ s1 → s1.todo = [] → PrintsOKx N r s1 s2 → PrintsOKx N (f :: r) s s2
theorem PrintsOKx.inv {N f r s s2} (h : PrintsOKx N (f :: r) s s2) : ∃ k s1, RunsOKx N k ⟨s.text, [wp f], s.opn⟩ s1 ∧ s1.todo = [] ∧ PrintsOKx N r s1 s2 := by
  cases h with
  | cons h1 h2 h3 => exact ⟨_, _, h1, h2, h3⟩
theorem PrintsOKx.done {N s s2} (h : PrintsOKx N [] s s2) : s2 = s := by cases h; rfl

set_option maxRecDepth 10000 in
set_option maxHeartbeats 4000000 in
theorem print_all (w : World) (hTab : Tab w) (hTT : 1 < w.heap.size ∧ 3 < w.heap.size) (hT1 : ∀ i, i < 4 → w.cell? ⟨1, i, none⟩ = some (.string (bs (TYPES.getD i [])))) (hT2 : ∀ i, i < 23 → w.cell? ⟨3, i, none⟩ = some (.string (bs (OPS.getD i [])))) (hTP : ∀ w', Below w.heap.size w w' → TabP w')
    (no : Option Addr) (nc nn : Nat) (fo : Option Addr) (fc fn : Nat) (T : Tr) (hnn : nn = T.nodes.length) (hfn : fn = T.funcs.length) (hN : Nodes w no nc T.nodes) (hF : Ints w fo fc T.funcs) (hm : nn ≤ 1000000000) (hc : chk T = true) (S' : Ps) (hP : PrintsOKx T.nodes T.funcs ⟨[], [], 0⟩ S') :
    Calls Tryd.prog 8 #[.agg #[.slice no nn nc, .slice fo fn fc]] w fun e w' => (∃ v n, e = .returned (.tuple #[v, .int .i64 0]) ∧ OwnB w' w.heap.size v n S'.text) ∧ Below w.heap.size w w' := by
  have hb1 : ∀ (X : Obj) (K : Nat), K ≤ w.heap.size → Below K w (w.alloc X) := fun X K hK => (Below.refl _ _).alloc hK _
  have HH : Hid (nn = T.nodes.length ∧ fn = T.funcs.length ∧ chk T = true) := ⟨hnn, hfn, hc⟩
  have hfc : fn ≤ fc := by have := hF.le; omega
  have hfm := hF.mx
  have HT1 : Hid _ := hT1
  have HT2 : Hid _ := hT2
  have HTP : Hid _ := hTP
  have HTT : Hid _ := hTT
  clear hnn hfn hc hT1 hT2 hTP hTT
  go_enter Tryd.func8, Tryd.ntmps8
  go_wp2_with fail
  refine (check_any _ (hTab.below (hb1 _ _ (Nat.le_refl _)) hTab.1) no nc nn fo fc fn T HH.out.1 HH.out.2.1 (hN.below (hb1 _ _ (Nat.le_refl _)) (Nat.le_refl _)) (hF.below (hb1 _ _ (Nat.le_refl _)) (Nat.le_refl _)) hm).mono ?_
  rintro e w1 ⟨rfl, hbc⟩
  rw [HH.out.2.2]
  have hbw : Below w.heap.size w w1 := (hb1 _ _ (Nat.le_refl _)).trans (hbc.mono (by simp))
  have hs1 := hbc.size
  simp at hs1
  have f0 : w1.cell? ⟨w.heap.size, 0, none⟩ = some (.slice no nn nc) := cell_below hbc (by simp) (by simp)
  have f1 : w1.cell? ⟨w.heap.size, 1, none⟩ = some (.slice fo fn fc) := cell_below hbc (by simp) (by simp)
  have hlt1 : w.heap.size < w1.heap.size := by omega
  simp only [if_true]
  clear hbc
  go_wp2_with fail
  have hbA : Below w1.heap.size w1 (w1.alloc (.cells #[.slice no nn nc, .slice none 0 0, .slice none 0 0, .int .i64 0] 49)) := (Below.refl _ _).alloc (Nat.le_refl _) _
  have hS0 : PSt (w1.alloc (.cells #[.slice no nn nc, .slice none 0 0, .slice none 0 0, .int .i64 0] 49)) w1.heap.size (w1.heap.size + 1) w1.heap.size (.slice no nn nc) ⟨[], [], 0⟩ :=
    ⟨_, _, 0, 0, ⟨heap_alloc_last _ _⟩, OwnB.nil _ _, OwnP.nil _ _, (fun g hg => by simp [Value.ownBlock] at hg), (fun g hg => by simp [Value.ownBlock] at hg), Nat.le_refl _, by omega⟩
  have hE0 : Env w1 w1.heap.size no nn nc T.nodes := ⟨⟨w1, rfl, Below.refl _ _, hN.below hbw (Nat.le_refl _),
    ⟨⟨by have := HTT.out.1; omega, by have := HTT.out.2; omega, Nat.le_refl _⟩, fun i hi => cell_below hbw HTT.out.1 (HT1.out i hi), fun i hi => cell_below hbw HTT.out.2 (HT2.out i hi)⟩,
    fun w' hb => HTP.out w' (hbw.trans (hb.mono (by omega)))⟩, HH.out.1⟩
  have HE : Hid _ := hE0
  clear hE0 f0 f1
  go_loopw [19] (fun c wr => ∃ (i : Nat) (U : Ps), i ≤ fn ∧ c = .int .i64 i ∧ PrintsOKx T.nodes (T.funcs.drop i) U S' ∧ U.todo = [] ∧ PSt wr w1.heap.size wr.heap.size w1.heap.size (.slice no nn nc) U ∧ Below w1.heap.size w1 wr) (fun c _ => fn - (intOf c).toNat)
  case atStart => exact ⟨0, _, by omega, rfl, by simpa using hP, rfl, hS0.up (by simp), hbA⟩
  case round =>
    obtain ⟨i, U, hi, rfl, hPU, hU0, hSU, hbr⟩ := hrel
    have hbs := hbr.size
    have hbrw : Below w.heap.size w wr := hbw.trans (hbr.mono (by omega))
    have hpl := hSU.le
    by_cases hlt : i < fn
    · obtain ⟨b, o, rfl, hA⟩ := hF.out (by intro e; have := HH.out.2.1; simp [e] at this; omega)
      have p0 := (hA.below hbrw hA.lt).cell i (HH.out.2.1 ▸ hlt)
      rw [List.drop_eq_getElem_cons (HH.out.2.1 ▸ hlt)] at hPU
      obtain ⟨f, hf⟩ : ∃ f, f = T.funcs[i]'(HH.out.2.1 ▸ hlt) := ⟨_, rfl⟩
      rw [← hf] at p0 hPU
      obtain ⟨k, U1, hR, hU1, hP1⟩ := hPU.inv
      have HPU : Hid _ := hPU
      clear hf hPU
      go_wp2_with (first
        | (go_at_call 18; refine (whole_any _ _).mono ?_; rintro e w' ⟨rfl, rfl⟩)
        | (go_at_call 17; refine (put_new _ _ w1.heap.size wr.heap.size w1.heap.size (.slice no nn nc) U [wp f] 1 _ (hSU.below (by repeat (first | refine Below.alloc ?_ (by first | omega | (simp; done) | (simp; omega)) _ | refine Below.drew ?_ | exact Below.refl _ _)) (Nat.le_refl _)) (by first | omega | (simp; done) | (simp; omega)) (by simp) rfl rfl (by rw [hU0]; simp)).mono ?_; rintro e w4 ⟨rfl, HS4, hb4, _⟩; have hb4w : Below w1.heap.size w1 w4 := (by refine hbr.trans (Below.trans ?_ hb4); exact (by repeat (first | refine Below.alloc ?_ (by first | omega | (simp; done) | (simp; omega)) _ | refine Below.drew ?_ | exact Below.refl _ _))); clear hb4; rw [hU0] at HS4)
        | (go_at_call 19; refine (printAll_all _ w1.heap.size _ w1.heap.size no nn nc T.nodes ⟨U.text, [wp f], U.opn⟩ U1 k (HE.out.below hb4w) HS4 (Nat.le_refl _) hR).mono ?_; rintro e w5 ⟨rfl, HS5, hb5⟩; have hb5w := hb4w.trans hb5))
      go_roundw
      case rel => exact ⟨i + 1, U1, by omega, by go_num, hP1, hU1, HS5, hb5w⟩
      case measure => simp [intOf]; omega
    · obtain rfl : i = fn := by omega
      rw [List.drop_of_length_le (by have := HH.out.2.1; omega)] at hPU
      obtain rfl := hPU.done
      obtain ⟨tv, dv, n, m, h⟩ := hSU.out
      obtain ⟨q0, q1, q2, q3⟩ := h.prv.cells
      go_wp2_with fail
      go_ret2
      exact ⟨⟨_, n, rfl, ⟨h.txt.len, h.txt.out.1, h.txt.out.2.imp id (fun ⟨g, c, cur, e1, e2, e3⟩ => ⟨g, c, cur, e1, by omega, e3⟩)⟩⟩, hbrw⟩
end Go.Proofs.YtjepkcebfojiaaaDoor
namespace Go.Proofs.YtjepkcebfojiaaaDoor
open Go.ChangeShapes Go.WideShapes Go.ChangeAt Go.RowKit

/-- What a part weighs, where a node weighs A, one in parentheses e more, a text t, a line v, an end u. -/
def pq (A : Int → Nat) (e v u : Nat) (t : List UInt8 → Nat) (p : Pt) : Nat :=
  if p.form = 0 then t p.text else if p.form = 1 then A p.node else if p.form = 2 then A p.node + e else if p.form = 3 then v else u
def qs (A : Int → Nat) (e v u : Nat) (t : List UInt8 → Nat) (l : List Pt) : Nat := (l.map (pq A e v u t)).sum
theorem qs_app (A : Int → Nat) (e v u : Nat) (t : List UInt8 → Nat) (l m : List Pt) : qs A e v u t (l ++ m) = qs A e v u t l + qs A e v u t m := by simp [qs]
theorem qs_cons (A : Int → Nat) (e v u : Nat) (t : List UInt8 → Nat) (p : Pt) (m : List Pt) : qs A e v u t (p :: m) = pq A e v u t p + qs A e v u t m := by simp [qs]
theorem PS.le {l ks a b c} (h : PS l ks a b c) (A : Int → Nat) (e v u t0 : Nat) (t : List UInt8 → Nat) (ht : ∀ x : List UInt8, x.length ≤ 100 → t x ≤ t0) :
    qs A e v u t l ≤ a * t0 + b * v + c * u + ((ks.map A).sum + ks.length * e) := by
  induction h with
  | nil => simp [qs]
  | tp x hx _ ih =>
    have := ht x hx
    rw [qs_cons, show pq A e v u t (Go.Proofs.YtjepkcebfojiaaaDoor.tp x) = t x from rfl, Nat.add_mul]
    omega
  | wp x _ ih =>
    rw [qs_cons, show pq A e v u t (Go.Proofs.YtjepkcebfojiaaaDoor.wp x) = A x from rfl, List.map_cons, List.sum_cons, List.length_cons, Nat.add_mul]
    omega
  | xp x _ ih =>
    rw [qs_cons, show pq A e v u t (Go.Proofs.YtjepkcebfojiaaaDoor.xp x) = A x + e from rfl, List.map_cons, List.sum_cons, List.length_cons, Nat.add_mul]
    omega
  | np _ ih =>
    rw [qs_cons, show pq A e v u t Go.Proofs.YtjepkcebfojiaaaDoor.np = v from rfl, Nat.add_mul]
    omega
  | ep _ ih =>
    rw [qs_cons, show pq A e v u t Go.Proofs.YtjepkcebfojiaaaDoor.ep = u from rfl, Nat.add_mul]
    omega

def c1 (n : Nd) : Nat := 6 + 5 * n.kids.length
def c2 (D : Nat) (n : Nd) : Nat := 802 + D + (103 + D) * n.kids.length
def c3 (n : Nd) : Nat := if n.kind = 3 then 1 else 0
/-- Steps, bytes and blocks that are still to come. -/
def q1 (N : List Nd) : List Pt → Nat := qs (wt c1 N) 3 1 1 (fun _ => 1)
def q2 (D : Nat) (N : List Nd) : List Pt → Nat := qs (wt (c2 D) N) 2 (D + 1) (D + 2) List.length
def q3 (N : List Nd) : List Pt → Nat := qs (wt c3 N) 0 0 0 (fun _ => 0)

theorem node_q {N : List Nd} (hF : FitK N) (i : Nat) (hi : i < N.length) (hOK : NdOKx N N[i]) (D : Nat) :
    q1 N (ndParts N N[i]) + 1 ≤ wt c1 N i ∧ q2 D N (ndParts N N[i]) ≤ wt (c2 D) N i ∧ (if N[i].kind = 3 then 1 else 0) + q3 N (ndParts N N[i]) ≤ wt c3 N i := by
  obtain ⟨a, b, hP, ha, hb⟩ := nd_ps hOK
  have hc : (if N[i].kind = 3 then 1 else 0) ≤ 1 := by split <;> omega
  have h1 : q1 N (ndParts N N[i]) ≤ _ := hP.le (wt c1 N) 3 1 1 1 (fun _ => 1) (fun _ _ => Nat.le_refl _)
  have h2 : q2 D N (ndParts N N[i]) ≤ _ := hP.le (wt (c2 D) N) 2 (D + 1) (D + 2) 100 List.length (fun _ h => h)
  have h3 : q3 N (ndParts N N[i]) ≤ _ := hP.le (wt c3 N) 0 0 0 0 (fun _ => 0) (fun _ _ => Nat.le_refl _)
  have ec1 : c1 N[i] = 6 + 5 * N[i].kids.length := rfl
  have ec2 : c2 D N[i] = 802 + D + (103 + D) * N[i].kids.length := rfl
  have ec3 : c3 N[i] = if N[i].kind = 3 then 1 else 0 := rfl
  rw [wt_eq c1 hF i hi, wt_eq (c2 D) hF i hi, wt_eq c3 hF i hi, ec1, ec2, ec3]
  refine ⟨?_, ?_, ?_⟩
  · omega
  · have e1 : b * (D + 1) ≤ N[i].kids.length * (D + 1) := Nat.mul_le_mul_right _ hb
    have e2 : (if N[i].kind = 3 then 1 else 0) * (D + 2) ≤ D + 2 := by split <;> omega
    have e3 : (103 + D) * N[i].kids.length = N[i].kids.length * (D + 1) + 102 * N[i].kids.length := by
      rw [show 103 + D = (D + 1) + 102 by omega, Nat.add_mul, Nat.mul_comm (D + 1)]
    rw [e3]
    omega
  · simp only [Nat.mul_zero, Nat.zero_add, Nat.add_zero] at h3
    omega

/-- The parts that are still to be printed name nodes of the tree. -/
structure TdOK (N : List Nd) (s : Ps) : Prop where
  out : ∃ ks a b, PS s.todo ks a b s.opn ∧ ∀ k ∈ ks, 0 ≤ k ∧ k < N.length

theorem PS.len1 {N : List Nd} {l ks a b c} (h : PS l ks a b c) (hw : ∀ k ∈ ks, 1 ≤ wt c1 N k) : l.length ≤ q1 N l := by
  unfold q1
  induction h with
  | nil => simp
  | tp x hx _ ih => have := ih hw; rw [qs_cons, show pq (wt c1 N) 3 1 1 (fun _ => 1) (Go.Proofs.YtjepkcebfojiaaaDoor.tp x) = 1 from rfl, List.length_cons]; omega
  | wp x _ ih => have := ih fun k hk => hw k (by simp [hk]); have := hw x (by simp); rw [qs_cons, show pq (wt c1 N) 3 1 1 (fun _ => 1) (Go.Proofs.YtjepkcebfojiaaaDoor.wp x) = wt c1 N x from rfl, List.length_cons]; omega
  | xp x _ ih => have := ih fun k hk => hw k (by simp [hk]); rw [qs_cons, show pq (wt c1 N) 3 1 1 (fun _ => 1) (Go.Proofs.YtjepkcebfojiaaaDoor.xp x) = wt c1 N x + 3 from rfl, List.length_cons]; omega
  | np _ ih => have := ih hw; rw [qs_cons, show pq (wt c1 N) 3 1 1 (fun _ => 1) Go.Proofs.YtjepkcebfojiaaaDoor.np = 1 from rfl, List.length_cons]; omega
  | ep _ ih => have := ih hw; rw [qs_cons, show pq (wt c1 N) 3 1 1 (fun _ => 1) Go.Proofs.YtjepkcebfojiaaaDoor.ep = 1 from rfl, List.length_cons]; omega

theorem runs_ok {N : List Nd} (hF : FitK N) (hOK : ∀ (i : Nat) (h : i < N.length), NdOKx N N[i]) (D : Nat) (hD : D ≤ 100000000) (X : Nat) (hX : X ≤ 900000000) :
    ∀ (m : Nat) (s : Ps), q1 N s.todo ≤ m → m ≤ 90000000 → TdOK N s → s.text.length + q2 D N s.todo ≤ X → s.opn + q3 N s.todo ≤ D →
      ∃ k s', RunsOKx N k s s' ∧ s'.todo = [] ∧ s'.opn = 0 ∧ s'.text.length ≤ s.text.length + q2 D N s.todo := by
  intro m
  induction m with
  | zero =>
    intro s h1 _ hT h2 h3
    obtain ⟨ks, a, b, hP, hr⟩ := hT.out
    have hl := hP.len1 (N := N) (fun k hk => by
      have := hr k hk
      have e := wt_eq c1 hF k.toNat (by omega)
      rw [show ((k.toNat : Nat) : Int) = k by omega] at e
      rw [e]; unfold c1; omega)
    have h0 : s.todo = [] := List.length_eq_zero_iff.1 (by omega)
    refine ⟨0, s, .fin s h0, h0, ?_, by omega⟩
    rw [h0] at hP
    generalize s.opn = z at hP
    cases hP
    rfl
  | succ m ih =>
    intro s h1 hm hT h2 h3
    obtain ⟨ks, a, b, hP, hr⟩ := hT.out
    have hwt : ∀ k ∈ ks, 1 ≤ wt c1 N k := fun k hk => by
      have := hr k hk
      have e := wt_eq c1 hF k.toNat (by omega)
      rw [show ((k.toNat : Nat) : Int) = k by omega] at e
      rw [e]; unfold c1; omega
    obtain ⟨text, todo, opn⟩ := s
    simp only at h1 h2 h3 hP ⊢
    cases hP with
    | nil => exact ⟨0, _, .fin _ rfl, rfl, rfl, by simp⟩
    | @tp r _ _ _ _ x hx hP =>
      have e : pstep N ⟨text, tp x :: r, opn⟩ = ⟨text ++ x, r, opn⟩ := by simp [pstep, tp]
      have f1 : q1 N (tp x :: r) = 1 + q1 N r := qs_cons ..
      have f2 : q2 D N (tp x :: r) = x.length + q2 D N r := qs_cons ..
      have f3 : q3 N (tp x :: r) = 0 + q3 N r := qs_cons ..
      have hl := hP.len1 hwt
      obtain ⟨k, s', hR, g1, g2, g3⟩ := ih ⟨text ++ x, r, opn⟩ (by simp only; omega) (by omega) ⟨_, _, _, hP, hr⟩ (by simp; omega) (by simp only; omega)
      exact ⟨k + 1, s', .more rfl (.inl ⟨rfl, by show text.length + x.length ≤ _; omega⟩) (by omega) (by rw [e]; exact hR), g1, g2, by simp at g3; omega⟩
    | @wp r ks' _ _ _ x hP =>
      have hx := hr x (by simp)
      obtain ⟨i, rfl⟩ : ∃ i : Nat, x = (i : Int) := ⟨x.toNat, by omega⟩
      have hi : i < N.length := by omega
      have e0 : ndOf N (i : Int) = N[i] := by simp [ndOf, List.getD, hi]
      have e : pstep N ⟨text, wp i :: r, opn⟩ = ⟨text, ndParts N N[i] ++ r, if N[i].kind = 3 then opn + 1 else opn⟩ := by simp [pstep, wp, e0]
      have f1 : q1 N (wp i :: r) = wt c1 N i + q1 N r := qs_cons ..
      have f2 : q2 D N (wp i :: r) = wt (c2 D) N i + q2 D N r := qs_cons ..
      have f3 : q3 N (wp i :: r) = wt c3 N i + q3 N r := qs_cons ..
      obtain ⟨n1, n2, n3⟩ := node_q hF i hi (hOK i hi) D
      have a1 : q1 N (ndParts N N[i] ++ r) = q1 N (ndParts N N[i]) + q1 N r := qs_app ..
      have a2 : q2 D N (ndParts N N[i] ++ r) = q2 D N (ndParts N N[i]) + q2 D N r := qs_app ..
      have a3 : q3 N (ndParts N N[i] ++ r) = q3 N (ndParts N N[i]) + q3 N r := qs_app ..
      obtain ⟨pa, pb, hPn, _, _⟩ := nd_ps (hOK i hi)
      have hl := hP.len1 fun k hk => hwt k (by simp [hk])
      have hlen := (hOK i hi).len
      have ho : (if N[i].kind = 3 then opn + 1 else opn) = (if N[i].kind = 3 then 1 else 0) + opn := by split <;> omega
      obtain ⟨k, s', hR, g1, g2, g3⟩ := ih ⟨text, ndParts N N[i] ++ r, if N[i].kind = 3 then opn + 1 else opn⟩ (by simp only; omega) (by omega)
        ⟨_, _, _, by rw [ho]; exact hPn.app hP, fun k hk => by
          rcases List.mem_append.1 hk with hk | hk
          · exact (hOK i hi).rng k hk
          · exact hr k (by simp [hk])⟩ (by simp only; omega) (by simp only; omega)
      refine ⟨k + 1, s', .more rfl (.inr (.inl ⟨rfl, i, rfl, hi, hOK i hi, ?_, ?_⟩)) (by omega) (by rw [e]; exact hR), g1, g2, by simp only at g3; omega⟩
      · show r.length + _ + 8 ≤ _; omega
      · show opn + 1 ≤ _; omega
    | @xp r ks' _ _ _ x hP =>
      have e : pstep N ⟨text, xp x :: r, opn⟩ = ⟨text, [tp ([40] : List UInt8), wp x, tp ([41] : List UInt8)] ++ r, opn⟩ := by simp [pstep, xp]
      have f1 : q1 N (xp x :: r) = wt c1 N x + 3 + q1 N r := qs_cons ..
      have f2 : q2 D N (xp x :: r) = wt (c2 D) N x + 2 + q2 D N r := qs_cons ..
      have f3 : q3 N (xp x :: r) = wt c3 N x + 0 + q3 N r := qs_cons ..
      have a1 : q1 N ([tp ([40] : List UInt8), wp x, tp ([41] : List UInt8)] ++ r) = 1 + (wt c1 N x + (1 + q1 N r)) := by simp [q1, qs, pq, tp, wp]
      have a2 : q2 D N ([tp ([40] : List UInt8), wp x, tp ([41] : List UInt8)] ++ r) = 1 + (wt (c2 D) N x + (1 + q2 D N r)) := by simp [q2, qs, pq, tp, wp]
      have a3 : q3 N ([tp ([40] : List UInt8), wp x, tp ([41] : List UInt8)] ++ r) = 0 + (wt c3 N x + (0 + q3 N r)) := by simp [q3, qs, pq, tp, wp]
      have hl := hP.len1 fun k hk => hwt k (by simp [hk])
      obtain ⟨k, s', hR, g1, g2, g3⟩ := ih ⟨text, [tp ([40] : List UInt8), wp x, tp ([41] : List UInt8)] ++ r, opn⟩ (by simp only; omega) (by omega)
        ⟨_, _, _, .tp _ (by simp) (.wp x (.tp _ (by simp) hP)), hr⟩ (by simp only; omega) (by simp only; omega)
      exact ⟨k + 1, s', .more rfl (.inr (.inr (.inl ⟨rfl, by show r.length + 3 ≤ _; omega⟩))) (by omega) (by rw [e]; exact hR), g1, g2, by simp only at g3; omega⟩
    | @np r _ _ _ _ hP =>
      have e : pstep N ⟨text, np :: r, opn⟩ = ⟨text ++ tabs opn, r, opn⟩ := by simp [pstep, np]
      have f1 : q1 N (np :: r) = 1 + q1 N r := qs_cons ..
      have f2 : q2 D N (np :: r) = (D + 1) + q2 D N r := qs_cons ..
      have f3 : q3 N (np :: r) = 0 + q3 N r := qs_cons ..
      have hl := hP.len1 hwt
      obtain ⟨k, s', hR, g1, g2, g3⟩ := ih ⟨text ++ tabs opn, r, opn⟩ (by simp only; omega) (by omega) ⟨_, _, _, hP, hr⟩ (by simp [tabs]; omega) (by simp only; omega)
      exact ⟨k + 1, s', .more rfl (.inr (.inr (.inr (.inl ⟨rfl, by show text.length + opn + 1 ≤ _; omega⟩)))) (by omega) (by rw [e]; exact hR), g1, g2, by simp [tabs] at g3; omega⟩
    | @ep r _ _ _ c hP =>
      have e : pstep N ⟨text, ep :: r, c + 1⟩ = ⟨text ++ tabs c ++ ([125] : List UInt8), r, c⟩ := by simp [pstep, ep]
      have f1 : q1 N (ep :: r) = 1 + q1 N r := qs_cons ..
      have f2 : q2 D N (ep :: r) = (D + 2) + q2 D N r := qs_cons ..
      have f3 : q3 N (ep :: r) = 0 + q3 N r := qs_cons ..
      have hl := hP.len1 hwt
      obtain ⟨k, s', hR, g1, g2, g3⟩ := ih ⟨text ++ tabs c ++ ([125] : List UInt8), r, c⟩ (by simp only; omega) (by omega) ⟨_, _, _, hP, hr⟩ (by simp [tabs]; omega) (by simp only; omega)
      exact ⟨k + 1, s', .more rfl (.inr (.inr (.inr (.inr ⟨rfl, c, rfl, by show text.length + c + 2 ≤ _; omega⟩)))) (by omega) (by rw [e]; exact hR), g1, g2, by simp [tabs] at g3; omega⟩
end Go.Proofs.YtjepkcebfojiaaaDoor
namespace Go.Proofs.YtjepkcebfojiaaaDoor
open Go.ChangeShapes Go.WideShapes Go.ChangeAt Go.RowKit

/-- Of a tree every node can be printed. -/
theorem chk_ok {T : Tr} (h : chk T = true) (hv : ∀ n ∈ T.nodes, n.val ≤ 9223372036854775807) (hn : T.nodes.length ≤ 1000000) : ∀ (i : Nat) (hi : i < T.nodes.length), NdOKx T.nodes T.nodes[i] := by
  intro i hi
  obtain ⟨h1, h2, h3⟩ := chk_stk h
  have hm := List.getElem_mem hi
  have ht := stk_total _ _ _ _ h1
  have hfit := chk_fit h
  refine ⟨?_, (h2 _ hm).1, (h2 _ hm).2, fun k hk => ?_, ?_, hv _ hm⟩
  · have hh := stk_has _ _ _ _ h1 (i : Int) (.inr ⟨by omega, by simp; omega⟩)
    rw [← kd_at i hi]
    rcases hh with hF | ⟨ks, hks, hx⟩
    · exact vk_k (allK_mem h3 hF) (.inl ⟨by omega, by omega⟩)
    · obtain ⟨n, hn, rfl⟩ := List.mem_map.1 hks
      exact kfit_kid (h2 n hn).2 hx
  · have := hfit i hi k hk
    omega
  · have e := total_le (T.nodes.map Nd.kids) i (by simpa using hi)
    simp at e ht
    omega
theorem prints_from {N : List Nd} (hF : FitK N) (hOK : ∀ (i : Nat) (h : i < N.length), NdOKx N N[i]) (D : Nat) (hD : D ≤ 100000000) (X : Nat) (hX : X ≤ 900000000) :
    ∀ (F : List Int) (s : Ps), s.todo = [] → s.opn = 0 → (∀ f ∈ F, 0 ≤ f ∧ f < N.length ∧ wt c1 N f ≤ 90000000 ∧ wt c3 N f ≤ D) → s.text.length + (F.map (wt (c2 D) N)).sum ≤ X → ∃ S', PrintsOKx N F s S' ∧ S'.text.length ≤ X
  | [], s, _, _, _, h => ⟨s, .nil s, by simpa using h⟩
  | f :: F, s, h1, h2, hf, h => by
    obtain ⟨f0, f1, f2, f3⟩ := hf f (by simp)
    simp only [List.map_cons, List.sum_cons] at h
    have e1 : q1 N [wp f] = wt c1 N f := by simp [q1, qs, pq, wp]
    have e2 : q2 D N [wp f] = wt (c2 D) N f := by simp [q2, qs, pq, wp]
    have e3 : q3 N [wp f] = wt c3 N f := by simp [q3, qs, pq, wp]
    obtain ⟨k, s1, hR, g1, g2, g3⟩ := runs_ok hF hOK D hD X hX (wt c1 N f) ⟨s.text, [wp f], s.opn⟩ (by simp only [e1]; omega) f2 ⟨[f], 0, 0, by rw [h2]; exact .wp f .nil, by simp; omega⟩ (by simp only [e2]; omega) (by simp only [e3, h2]; omega)
    simp only [e2] at g3
    obtain ⟨S', hP, hl⟩ := prints_from hF hOK D hD X hX F s1 g1 g2 (fun x hx => hf x (by simp [hx])) (by omega)
    exact ⟨S', .cons hR g1 hP, hl⟩
theorem c2_sum (D : Nat) : ∀ N : List Nd, (N.map (c2 D)).sum = N.length * (802 + D) + (103 + D) * total (N.map Nd.kids)
  | [] => by simp [total]
  | n :: N => by
    have := c2_sum D N
    simp only [List.map_cons, List.sum_cons, this, List.length_cons, total, c2, Nat.add_mul, Nat.mul_add, Nat.one_mul]
    omega
theorem c1_sum : ∀ N : List Nd, (N.map c1).sum = N.length * 6 + 5 * total (N.map Nd.kids)
  | [] => by simp [total]
  | n :: N => by
    have := c1_sum N
    simp only [List.map_cons, List.sum_cons, this, List.length_cons, total, c1]
    omega
/-- The printer gets through every tree that is no greater than the statements ask. -/
theorem prints_ok {T : Tr} (h : chk T = true) (hv : ∀ n ∈ T.nodes, n.val ≤ 9223372036854775807) (hn : T.nodes.length ≤ 120000) (hD : (T.nodes.map c3).sum * T.nodes.length ≤ 16777216) : ∃ S', PrintsOKx T.nodes T.funcs ⟨[], [], 0⟩ S' ∧ S'.text.length ≤ 900000000 := by
  obtain ⟨h1, _, _⟩ := chk_stk h
  have ht := stk_total _ _ _ _ h1
  simp at ht
  have hr := (stk_lt _ _ _ _ h1 (by simp)).1
  obtain ⟨D, hDe⟩ : ∃ D, D = (T.nodes.map c3).sum := ⟨_, rfl⟩
  rw [← hDe] at hD
  have hk : total (T.nodes.map Nd.kids) ≤ T.nodes.length := by omega
  have s1 := chk_sum h c1
  have s2 := chk_sum h (c2 D)
  have s3 := chk_sum h c3
  rw [c1_sum] at s1
  rw [c2_sum] at s2
  have hDn : D ≤ T.nodes.length := by
    rw [hDe]
    clear hDe s3 hD s2 s1 hk hr ht h1 hn hv h
    induction T.nodes with
    | nil => simp
    | cons a l ih => simp only [List.map_cons, List.sum_cons, List.length_cons, c3]; split <;> omega
  have b1 : (103 + D) * total (T.nodes.map Nd.kids) ≤ (103 + D) * T.nodes.length := Nat.mul_le_mul_left _ hk
  have b2 : (103 + D) * T.nodes.length = 103 * T.nodes.length + D * T.nodes.length := Nat.add_mul ..
  have b3 : T.nodes.length * (802 + D) = T.nodes.length * 802 + D * T.nodes.length := by rw [Nat.mul_add, Nat.mul_comm _ D]
  refine prints_from (chk_fit h) (chk_ok h hv (by omega)) D (by omega) 900000000 (Nat.le_refl _) T.funcs ⟨[], [], 0⟩ rfl rfl (fun f hf => ?_) (by simp only [List.length_nil]; rw [s2]; omega)
  have hfr := hr f hf
  simp at hfr
  refine ⟨hfr.1, hfr.2, ?_, ?_⟩
  · have := sum_le (List.mem_map.2 ⟨f, hf, rfl⟩ : wt c1 T.nodes f ∈ T.funcs.map (wt c1 T.nodes))
    omega
  · have := sum_le (List.mem_map.2 ⟨f, hf, rfl⟩ : wt c3 T.nodes f ∈ T.funcs.map (wt c3 T.nodes))
    omega

/-- The same but for places and types. -/
structure Alk (N N' : List Nd) : Prop where
  len : N.length = N'.length
  out : ∀ (i : Nat) (h : i < N.length) (h' : i < N'.length), N[i].kind = N'[i].kind ∧ N[i].decl = N'[i].decl ∧ N[i].op = N'[i].op ∧ N[i].val = N'[i].val ∧ N[i].name = N'[i].name ∧ N[i].kids = N'[i].kids
theorem Alk.nd {N N'} (h : Alk N N') (x : Int) : (ndOf N x).kind = (ndOf N' x).kind ∧ (ndOf N x).decl = (ndOf N' x).decl ∧ (ndOf N x).op = (ndOf N' x).op ∧ (ndOf N x).val = (ndOf N' x).val ∧ (ndOf N x).name = (ndOf N' x).name ∧ (ndOf N x).kids = (ndOf N' x).kids := by
  by_cases hx : x.toNat < N.length
  · have hx' : x.toNat < N'.length := by rw [← h.len]; exact hx
    have e : ndOf N x = N[x.toNat] := by simp [ndOf, List.getD, hx]
    have e' : ndOf N' x = N'[x.toNat] := by simp [ndOf, List.getD, hx']
    rw [e, e']
    exact h.out _ hx hx'
  · have hx' : ¬ x.toNat < N'.length := by rw [← h.len]; exact hx
    have e : ndOf N x = nd0 := by simp [ndOf, List.getD, hx]
    have e' : ndOf N' x = nd0 := by simp [ndOf, List.getD, hx']
    rw [e, e']
    exact ⟨rfl, rfl, rfl, rfl, rfl, rfl⟩
theorem Alk.lv {N N'} (h : Alk N N') (x : Int) : lv (ndOf N x) = lv (ndOf N' x) := by
  obtain ⟨h1, _, h3, _⟩ := h.nd x
  unfold Go.Proofs.YtjepkcebfojiaaaDoor.lv
  rw [h1, h3]
theorem Alk.vp {N N'} (h : Alk N N') (x m : Int) : vp N x m = vp N' x m := by
  unfold Go.Proofs.YtjepkcebfojiaaaDoor.vp
  rw [h.lv]
theorem Alk.parts {N N'} (h : Alk N N') (x : Int) : ndParts N (ndOf N x) = ndParts N' (ndOf N' x) := by
  obtain ⟨h1, h2, h3, h4, h5, h6⟩ := h.nd x
  have h7 := h.lv x
  simp only [ndParts, fnParts, blParts, stParts, exParts, h1, h2, h3, h4, h5, h6, h7, h.vp]
theorem Alk.step {N N'} (h : Alk N N') (s : Ps) : pstep N s = pstep N' s := by
  unfold pstep
  split
  · rfl
  · next p r _ => rw [h.parts, (h.nd p.node).1]
theorem runs_det {N N'} (h : Alk N N') : ∀ {k k' s s1 s2}, RunsOKx N k s s1 → RunsOKx N' k' s s2 → s1 = s2 := by
  intro k
  induction k with
  | zero =>
    intro k' s s1 s2 h1 h2
    rcases h1.inv with ⟨_, rfl, e⟩ | ⟨n, p, r, e, _⟩
    · rcases h2.inv with ⟨_, rfl, _⟩ | ⟨n, p, r, _, e2, _⟩
      · rfl
      · rw [e] at e2; cases e2
    · omega
  | succ k ih =>
    intro k' s s1 s2 h1 h2
    rcases h1.inv with ⟨e, _⟩ | ⟨n, p, r, e, e1, _, _, hR⟩
    · omega
    · obtain rfl : k = n := by omega
      rcases h2.inv with ⟨_, _, e2⟩ | ⟨n', p', r', e', _, _, _, hR'⟩
      · rw [e1] at e2; cases e2
      · rw [h.step] at hR
        exact ih hR hR'
theorem prints_det {N N'} (h : Alk N N') : ∀ {F s s1 s2}, PrintsOKx N F s s1 → PrintsOKx N' F s s2 → s1 = s2 := by
  intro F
  induction F with
  | nil => intro s s1 s2 h1 h2; rw [h1.done, h2.done]
  | cons f F ih =>
    intro s s1 s2 h1 h2
    obtain ⟨k, t, hR, _, hP⟩ := h1.inv
    obtain ⟨k', t', hR', _, hP'⟩ := h2.inv
    obtain rfl := runs_det h hR hR'
    exact ih hP hP'
end Go.Proofs.YtjepkcebfojiaaaDoor
namespace Go.Proofs.YtjepkcebfojiaaaDoor
open Go.ChangeShapes Go.WideShapes Go.ChangeAt Go.RowKit

/-- What fits answers, blocks too. -/
structure FitD (nn fn : Nat) (N : List Nd) (e : Ending) : Prop where
  out : ∃ R : Bool, e = .returned (.bool R) ∧ (R = true → nn + fn ≤ 120000 ∧ (∀ n ∈ N, n.kids.length ≤ 120000) ∧ (N.map c3).sum * N.length ≤ 16777216)
/-- The blocks of the first i nodes are counted. -/
structure DpC (N : List Nd) (i d : Nat) : Prop where
  out : d = ((N.take i).map c3).sum
theorem DpC.next {N i d x} (h : DpC N i d) (hi : i < N.length) (hx : x = c3 N[i]) : DpC N (i + 1) (d + x) := ⟨by
  rw [← List.take_append_getElem hi, List.map_append, List.sum_append, ← h.out, hx]; simp⟩
theorem DpC.fin {i d n m : Nat} {L : List Nd} (h : DpC L i d) (hi : L.length ≤ i) (hn : L.length ≤ n) (hm : m = d * n) (hR : m ≤ 16777216) : (L.map c3).sum * L.length ≤ 16777216 := by
  have e := h.out
  rw [List.take_of_length_le hi] at e
  rw [← e]
  have := Nat.mul_le_mul_left d hn
  omega

set_option maxRecDepth 10000 in
set_option maxHeartbeats 4000000 in
theorem fits3_deep (w : World) (no : Option Addr) (nc nn : Nat) (fo : Option Addr) (fc fn : Nat) (N : List Nd) (hnn : nn = N.length) (hN : Nodes w no nc N) (hR : Rch N) (hn1 : nn ≤ 140737488351232) (hf1 : fn ≤ 140737488351232) :
    Calls Tryd.prog 6 #[.agg #[.slice no nn nc, .slice fo fn fc]] w fun e w' => FitD nn fn N e ∧ Below w.heap.size w w' := by
  have HNN : Hid (nn = N.length) := hnn
  have hl : nn ≤ nc := by have := hN.le; omega
  clear hnn
  go_enter Tryd.func6, Tryd.ntmps6
  go_wp2_with fail
  go_loopw [3, 4, 5] (fun a b c wr => ∃ i n d q : Nat, i ≤ nn ∧ a = .int .i64 n ∧ b = .int .i64 d ∧ c = .int .i64 i ∧ d ≤ i ∧ nn + fn ≤ n ∧ n ≤ 120000 + 422212465053696 ∧ KLe N i n ∧ DpC N i d ∧ wr = (w.alloc (.cells #[.slice no nn nc, .slice fo fn fc] 25)).drewN q) (fun _ _ c _ => nn - (intOf c).toNat)
  case atStart => exact ⟨0, nn + fn, 0, 0, by omega, by go_num, rfl, rfl, by omega, by omega, by omega, ⟨fun j hj h => by omega⟩, ⟨by simp⟩, rfl⟩
  case round =>
    obtain ⟨i, n, d, q, hi, rfl, rfl, rfl, hd, hnf, hnm, HKE, HDP, rfl⟩ := hrel
    by_cases hc : i < nn ∧ n ≤ 120000
    · obtain ⟨hlt, hn2⟩ := hc
      obtain ⟨b, o, rfl, hbl, hAt⟩ := hN.out (by intro e; have := HNN.out; simp [e] at this; omega)
      obtain ⟨ka, kc, c0, c1, c2, c3, c4, c5, c6, c7, c8, c9, hK⟩ := (hAt i (HNN.out ▸ hlt)).out
      have hr := hR.out i (HNN.out ▸ hlt)
      obtain ⟨nd, hnd⟩ : ∃ nd, nd = N[i]'(HNN.out ▸ hlt) := ⟨_, rfl⟩
      rw [← hnd] at c0 c8 c9 hr
      obtain ⟨s, hs⟩ : ∃ s, s = bs nd.name := ⟨_, rfl⟩
      have hsz : s.size = nd.name.length := by rw [hs, bs_size]
      rw [← hs] at c8
      obtain ⟨nl, hnl⟩ : ∃ nl, nl = nd.name.length := ⟨_, rfl⟩
      rw [← hnl] at hsz hr
      obtain ⟨kl, hkl⟩ : ∃ kl, kl = nd.kids.length := ⟨_, rfl⟩
      rw [← hkl] at c9 hr
      obtain ⟨hr1, hr2⟩ := hr
      have HKE2 : KLe N (i + 1) (n + kl + nl / 64) := HKE.next (kl := kl) (HNN.out ▸ hlt) (by rw [hkl, hnd]) (by omega)
      obtain ⟨kk, hkk⟩ : ∃ kk, kk = nd.kind := ⟨_, rfl⟩
      rw [← hkk] at c0
      have hb1 : b < w.heap.size := hbl
      have HDN : DpC N (i + 1) (d + if kk = 3 then 1 else 0) := HDP.next (HNN.out ▸ hlt) (by rw [hkk, hnd]; rfl)
      clear hnd hs hnl hkl hkk hAt hK c1 c2 c3 c4 c5 c6 c7
      have hq1 : nl / 64 ≤ 140737488351232 := by omega
      by_cases hk3 : kk = 3
      · subst hk3
        have HDN2 : DpC N (i + 1) (d + 1) := HDN
        go_wp2_with fail
        go_quiet (fail)
        go_wp2_with fail
        go_roundw
        case rel => exact ⟨i + 1, n + kl + nl / 64, d + 1, _, by omega, by go_num, by go_num, by go_num, by omega, by omega, by omega, HKE2, HDN2, by first | rfl | exact World.drewN_drewN _ _ _⟩
        case measure => simp [intOf]; omega
      · have HDN2 : DpC N (i + 1) d := (by have h := HDN; rw [if_neg hk3] at h; exact h)
        go_wp2_with fail
        go_quiet (fail)
        go_wp2_with fail
        go_roundw
        case rel => exact ⟨i + 1, n + kl + nl / 64, d, _, by omega, by go_num, by go_num, by go_num, by omega, by omega, by omega, HKE2, HDN2, by first | rfl | exact World.drewN_drewN _ _ _⟩
        case measure => simp [intOf]; omega
    · by_cases hbig : 120000 < n
      · have hf : ¬ (n : Int) ≤ 120000 := by omega
        by_cases him : i < nn
        all_goals
          go_wp2_with fail
          go_ret
          exact ⟨⟨⟨false, rfl, fun h => by cases h⟩⟩, below_drewN ((Below.refl _ _).alloc (Nat.le_refl _) _) _⟩
      · have him : nn = i := by omega
        subst him
        have hn3 : n ≤ 120000 := by omega
        have hd3 : d ≤ 120000 := by omega
        have hdn : d * n ≤ 14400000000 := Nat.mul_le_mul hd3 hn3
        obtain ⟨m, hm⟩ : ∃ m, m = d * n := ⟨_, rfl⟩
        have hmI : (d : Int) * (n : Int) = (m : Int) := by rw [hm]; simp
        rw [← hm] at hdn
        have HM : Hid (m = d * n) := hm
        clear hm hc
        go_wp2_with fail
        go_ret
        exact ⟨⟨⟨_, rfl, fun hR => ⟨by omega, HKE.fin (by have := HNN.out; omega) hn3, HDP.fin (by have := HNN.out; omega) (by have := HNN.out; omega) HM.out (by have h : (m : Int) ≤ 16777216 := (by simpa using hR); omega)⟩⟩⟩, below_drewN ((Below.refl _ _).alloc (Nat.le_refl _) _) _⟩

end Go.Proofs.YtjepkcebfojiaaaDoor
namespace Go.Proofs.YtjepkcebfojiaaaDoor
open Go.ChangeShapes Go.WideShapes Go.ChangeAt Go.RowKit

theorem toInt_wrap (x : BitVec 64) : IntKind.i64.wrap (x.toNat : Int) = x.toInt := by
  have h := x.isLt
  rw [IntKind.wrap_i64, BitVec.toInt_eq_toNat_cond]
  split <;> omega
theorem and_bv (a b : Int) : bits .and .i64 a b = (BitVec.ofInt 64 a &&& BitVec.ofInt 64 b).toInt := toInt_wrap _
theorem and_small (a : Int) (m : Nat) (hm : m < 9223372036854775808) : ∃ i : Nat, i ≤ m ∧ bits .and .i64 a (m : Int) = (i : Int) := by
  have h1 : (BitVec.ofInt 64 a &&& BitVec.ofInt 64 (m : Int)).toNat ≤ m := by
    rw [BitVec.toNat_and]
    refine Nat.le_trans Nat.and_le_right ?_
    rw [BitVec.toNat_ofInt]
    omega
  refine ⟨_, h1, ?_⟩
  rw [and_bv, BitVec.toInt_eq_toNat_cond, if_pos (by omega)]

theorem Alk.kd {N N'} (h : Alk N N') (x : Int) : kd N x = kd N' x := by
  unfold Go.Proofs.YtjepkcebfojiaaaDoor.kd
  by_cases hx : x.toNat < N.length
  · have hx' : x.toNat < N'.length := by rw [← h.len]; exact hx
    rw [List.getElem?_eq_getElem hx, List.getElem?_eq_getElem hx']
    simp [(h.out _ hx hx').1]
  · have hx' : ¬ x.toNat < N'.length := by rw [← h.len]; exact hx
    rw [List.getElem?_eq_none (by omega), List.getElem?_eq_none (by omega)]
theorem Alk.allK {N N'} (h : Alk N N') (p : Int → Bool) (l : List Int) : allK N p l = allK N' p l := by
  unfold Go.Proofs.YtjepkcebfojiaaaDoor.allK
  simp only [h.kd]
theorem Alk.kfit {N N'} (h : Alk N N') (n n' : Nd) (h1 : n.kind = n'.kind) (h2 : n.kids = n'.kids) : kfit N n = kfit N' n' := by
  unfold Go.Proofs.YtjepkcebfojiaaaDoor.kfit
  simp only [h1, h2, h.allK]
theorem Alk.map {N N'} (h : Alk N N') {α : Type} (f : Nd → α) (hf : ∀ (i : Nat) (h : i < N.length) (h' : i < N'.length), f N[i] = f N'[i]) : N.map f = N'.map f := by
  refine List.ext_getElem (by simpa using h.len) fun i h1 h2 => ?_
  simp at h1 h2
  simpa using hf i h1 h2
theorem chk_alk {N N' : List Nd} {F : List Int} (hc : chk ⟨N, F⟩ = true) (h : Alk N N') (hf : ∀ n ∈ N', ffit n = true) : chk ⟨N', F⟩ = true := by
  obtain ⟨h1, h2, h3⟩ := chk_stk hc
  have e := h.map Nd.kids (fun i a b => (h.out i a b).2.2.2.2.2)
  simp only at h1 h2 h3
  rw [e] at h1
  have hl := cloop_of N' [] 0 F h1 (fun n hn => by
    obtain ⟨i, hi, rfl⟩ := List.mem_iff_getElem.1 hn
    have hi' : i < N.length := by rw [h.len]; exact hi
    refine ⟨hf _ hn, ?_⟩
    rw [← h.kfit N[i] N'[i] (h.out i hi' hi).1 (h.out i hi' hi).2.2.2.2.2]
    exact (h2 _ (List.getElem_mem hi')).2)
  unfold chk
  simp only [hl]
  rw [← h.allK]
  simp [h3]
theorem Alk.refl (N : List Nd) : Alk N N := ⟨rfl, fun _ _ _ => ⟨rfl, rfl, rfl, rfl, rfl, rfl⟩⟩
theorem Alk.set {N N'} (h : Alk N N') (m : Nat) (hm : m < N'.length) (nd : Nd) (e1 : nd.kind = N'[m].kind) (e2 : nd.decl = N'[m].decl) (e3 : nd.op = N'[m].op) (e4 : nd.val = N'[m].val) (e5 : nd.name = N'[m].name) (e6 : nd.kids = N'[m].kids) : Alk N (N'.set m nd) := by
  refine ⟨by simpa using h.len, fun i h1 h2 => ?_⟩
  have h3 : i < N'.length := by simpa using h2
  obtain ⟨q1, q2, q3, q4, q5, q6⟩ := h.out i h1 h3
  by_cases e : m = i
  · subst e
    simp only [List.getElem_set_self]
    exact ⟨q1.trans e1.symm, q2.trans e2.symm, q3.trans e3.symm, q4.trans e4.symm, q5.trans e5.symm, q6.trans e6.symm⟩
  · rw [List.getElem_set_ne e]
    exact ⟨q1, q2, q3, q4, q5, q6⟩

/-- One number of a node set. -/
theorem ncs_setF (P : List (Nd × Value)) (j : Nat) (hj : j < 10) (u : Value) (p : Nd × Value) : ∀ (i : Nat) (h : i < P.length), nc p.1 p.2 = (nc (P[i]).1 (P[i]).2).set j u → ncs (P.set i p) = (ncs P).set (i * 10 + j) u := by
  induction P with
  | nil => intro i h; simp at h
  | cons t ts ih =>
    intro i h he
    have e : ∀ (a : Nd × Value) l, ncs (a :: l) = nc a.1 a.2 ++ ncs l := fun a l => by simp [ncs]
    have hl : (nc t.1 t.2).length = 10 := by simp [nc]
    cases i with
    | zero =>
      rw [List.set_cons_zero, e, e, List.set_append_left _ _ (by omega), he]
      simp
    | succ i =>
      rw [List.set_cons_succ, e, e, set_shift hl, ih i (by simpa using h) (by simpa using he)]
theorem CN.fld {w : World} {B g c n P} (h : CN w B (.slice (some ⟨g, 0, none⟩) n c) n P) (m : Nat) (hm : m < P.length) (j : Nat) (hj : j < 10) (v : Int) (nd : Nd) (he : nc nd (P[m]).2 = (nc (P[m]).1 (P[m]).2).set j (.int .i64 v)) (hk : nd.kids = (P[m]).1.kids) :
    CN (w.setCell ⟨g, m * 10 + j, none⟩ (.int .i64 v)).drew B (.slice (some ⟨g, 0, none⟩) n c) n (P.set m (nd, (P[m]).2)) := by
  have hrow : (w.setCell ⟨g, m * 10 + j, none⟩ (.int .i64 v)).ownsRow B 39 10 (.slice (some ⟨g, 0, none⟩) n c) n (ncs (P.set m (nd, (P[m]).2))) := by
    rw [ncs_setF P j hj (.int .i64 v) (nd, (P[m]).2) m hm he]
    exact own_set h.own _ _
  have hko := h.kid P[m] (List.getElem_mem hm)
  have hc := h.upd (w' := w.setCell ⟨g, m * 10 + j, none⟩ (.int .i64 v)) m hm nd (P[m]).2 hrow ⟨rfl, by rw [hk]; exact own_move hko.out fun b hb => heap_set_other fun e => own_apart hko.out h.own (by decide) b hb (by rw [e]; rfl)⟩ (fun b _ _ h2 => heap_set_other fun e => h2 (by rw [e]; rfl))
  have hc := hc.drew
  refine ⟨hc.len, hc.own, hc.kid, ?_⟩
  have hv : (P.set m (nd, (P[m]).2)).map Prod.snd = P.map Prod.snd := by
    rw [List.map_set]
    refine List.ext_getElem (by simp) fun q h1 h2 => ?_
    rw [List.getElem_set]
    split
    · next e => subst e; simp
    · rfl
  have ha := h.apt
  have hp : ∀ Q : List (Nd × Value), (Q.Pairwise fun p q => ∀ g, p.2.ownBlock = some g → q.2.ownBlock ≠ some g) ↔ (Q.map Prod.snd).Pairwise fun p q => ∀ g, p.ownBlock = some g → q.ownBlock ≠ some g := fun Q => by rw [List.pairwise_map]
  rw [hp] at ha ⊢
  rw [hv]
  exact ha

/-- What ffit asks of a node's places and type. -/
theorem ffit_at {n : Nd} (h : ffit n = true) (v : Int) : ffit { n with at_ := v } = true := h
theorem ffit_wh {n : Nd} (h : ffit n = true) (hc : n.name ≠ [] ∨ n.kind = 31) (v : Int) : ffit { n with wh := v } = true := by
  have hw : (mayOf n.kind).wh = true := by
    rcases hc with hc | hc
    · simp only [ffit, Bool.and_eq_true] at h
      have hn := h.2
      have : (mayOf n.kind).name = true := by
        apply Classical.byContradiction
        intro hh
        rw [nmFits, if_neg hh] at hn
        exact hc (of_decide_eq_true hn)
      revert this
      unfold mayOf
      simp only
      repeat' split
      all_goals simp
    · simp [mayOf, hc]
  simp only [ffit, Bool.and_eq_true, Bool.or_eq_true] at h ⊢
  obtain ⟨⟨⟨⟨⟨⟨h1, h2⟩, h3⟩, h4⟩, h5⟩, h6⟩, h7⟩ := h
  exact ⟨⟨⟨⟨⟨⟨.inl hw, h2⟩, h3⟩, h4⟩, h5⟩, h6⟩, h7⟩
theorem ffit_close {n : Nd} (h : ffit n = true) (hc : n.kind = 1) (v : Int) : ffit { n with close := v } = true := by
  have hw : (mayOf n.kind).close = true := by simp [mayOf, hc]
  simp only [ffit, Bool.and_eq_true, Bool.or_eq_true] at h ⊢
  obtain ⟨⟨⟨⟨⟨⟨h1, h2⟩, h3⟩, h4⟩, h5⟩, h6⟩, h7⟩ := h
  exact ⟨⟨⟨⟨⟨⟨h1, .inl hw⟩, h3⟩, h4⟩, h5⟩, h6⟩, h7⟩
theorem ffit_typ {n : Nd} (h : ffit n = true) (h20 : 20 ≤ n.kind) (h31 : n.kind ≤ 31) (v : Int) (v0 : 0 ≤ v) (v3 : v ≤ 3) : ffit { n with typ := v } = true := by
  have hx : isEx n.kind = true := by simp [isEx]; omega
  have hw : (mayOf n.kind).t0 = 0 ∧ (mayOf n.kind).t1 = 3 := by
    unfold mayOf
    simp only [hx]
    repeat' split
    all_goals first | (simp; done) | (exfalso; simp_all; done) | (exfalso; omega)
  simp only [ffit, Bool.and_eq_true, Bool.or_eq_true] at h ⊢
  obtain ⟨⟨⟨⟨⟨⟨h1, h2⟩, h3⟩, h4⟩, h5⟩, h6⟩, h7⟩ := h
  exact ⟨⟨⟨⟨⟨⟨h1, h2⟩, h3⟩, by rw [hw.1, hw.2]; simp [inR]; omega⟩, h5⟩, h6⟩, h7⟩
end Go.Proofs.YtjepkcebfojiaaaDoor
