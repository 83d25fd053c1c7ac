import Derived.Test.YtjepkcebfojiaaaDoorLzG
import Derived.Test.YtjepkcebfojiaaaDoorLzO
set_option linter.unusedVariables false
set_option linter.unusedSimpArgs false
namespace Go.Proofs.YtjepkcebfojiaaaDoor
open Go.ChangeShapes Go.WideShapes Go.ChangeAt Go.RowKit

/-- Printing goes on from here to its end. -/
def Goes (N : List Nd) (S' : Ps) (s : Ps) : Prop := ∃ k, RunsOKx N k s S'
def OKs (N : List Nd) : Prop := ∀ (i : Nat) (h : i < N.length), NdOKx N N[i]
/-- A node's printing adds X, with room for d. -/
def Mk (N : List Nd) (x : Nat) (o : Nat) (X : List UInt8) (d : Nat) : Prop := ∀ (t : List UInt8) (r : List Pt) (S' : Ps), t.length + X.length ≤ 900000000 → r.length + d ≤ 90000000 → o + d ≤ 90000000 → Goes N S' ⟨t ++ X, r, o⟩ → Goes N S' ⟨t, wp x :: r, o⟩
theorem g_tp {N : List Nd} {S' : Ps} {t s : List UInt8} {r : List Pt} {o : Nat} (hl : t.length + s.length ≤ 1000000000) (hr : r.length ≤ 100000000) (h : Goes N S' ⟨t ++ s, r, o⟩) : Goes N S' ⟨t, tp s :: r, o⟩ := by
  obtain ⟨k, h⟩ := h
  exact ⟨k + 1, .more rfl (.inl ⟨rfl, hl⟩) hr (by simpa [pstep, tp] using h)⟩
theorem g_np {N : List Nd} {S' : Ps} {t : List UInt8} {r : List Pt} {o : Nat} (hl : t.length + o + 1 ≤ 1000000000) (hr : r.length ≤ 100000000) (h : Goes N S' ⟨t ++ tabs o, r, o⟩) : Goes N S' ⟨t, np :: r, o⟩ := by
  obtain ⟨k, h⟩ := h
  exact ⟨k + 1, .more rfl (.inr (.inr (.inr (.inl ⟨rfl, hl⟩)))) hr (by simpa [pstep, np] using h)⟩
theorem g_ep {N : List Nd} {S' : Ps} {t : List UInt8} {r : List Pt} {o : Nat} (hl : t.length + o + 2 ≤ 1000000000) (hr : r.length ≤ 100000000) (h : Goes N S' ⟨t ++ (tabs o ++ [125]), r, o⟩) : Goes N S' ⟨t, ep :: r, o + 1⟩ := by
  obtain ⟨k, h⟩ := h
  exact ⟨k + 1, .more rfl (.inr (.inr (.inr (.inr ⟨rfl, o, rfl, hl⟩)))) hr (by simpa [pstep, ep] using h)⟩
theorem ndOf_at {N : List Nd} {x : Nat} {nd : Nd} (hn : N[x]? = some nd) : ndOf N (x : Int) = nd := by simp [ndOf, List.getD, hn]
theorem kd_of {N : List Nd} {x : Nat} {nd : Nd} (hn : N[x]? = some nd) : kd N (x : Int) = nd.kind := by simp [kd, hn]
theorem g_wp {N : List Nd} {S' : Ps} {t : List UInt8} {r : List Pt} {o x : Nat} {nd : Nd} (hn : N[x]? = some nd) (hOK : OKs N) (hk : nd.kids.length ≤ 3) (hr : r.length + 14 ≤ 100000000) (ho : o + 1 ≤ 1000000000) (h : Goes N S' ⟨t, ndParts N nd ++ r, if nd.kind = 3 then o + 1 else o⟩) : Goes N S' ⟨t, wp x :: r, o⟩ := by
  obtain ⟨k, h⟩ := h
  obtain ⟨hx, e⟩ := List.getElem?_eq_some_iff.1 hn
  refine ⟨k + 1, .more rfl (.inr (.inl ⟨rfl, x, rfl, hx, hOK x hx, ?_, ho⟩)) (by omega) ?_⟩
  · rw [e]; show r.length + _ + 8 ≤ _; omega
  · have e2 : pstep N ⟨t, wp x :: r, o⟩ = ⟨t, ndParts N nd ++ r, if nd.kind = 3 then o + 1 else o⟩ := by simp [pstep, wp, ndOf_at hn]
    rw [e2]; exact h
theorem mk_leaf {N : List Nd} {x o : Nat} {X : List UInt8} {nd : Nd} (hOK : OKs N) (hn : N[x]? = some nd) (h3 : nd.kind ≠ 3) (hk : nd.kids = []) (hp : ndParts N nd = [tp X]) : Mk N x o X 20 := fun t r S' h1 h2 h3' h => by
  refine g_wp hn hOK (by simp [hk]) (by omega) (by omega) ?_
  rw [hp, if_neg h3]
  simp only [List.cons_append, List.nil_append]
  exact g_tp (by omega) (by omega) h
theorem vp_wp {N : List Nd} {y l : Int} (h : l ≤ lv (ndOf N y)) : vp N y l = wp y := by
  unfold vp
  rw [if_neg (by omega)]

def nA : Nd := ⟨24, 0, 0, 0, 0, 0, 0, 0, [97], []⟩
def nNum (v : Int) : Nd := ⟨20, 0, 0, 0, 0, 0, 0, v, [], []⟩
def nTrue : Nd := ⟨21, 0, 0, 0, 0, 0, 0, 0, [], []⟩
def nBk (l : List Int) : Nd := ⟨3, 0, 0, 0, 0, 0, 0, 0, [], l⟩
def nIf (l : List Int) : Nd := ⟨10, 0, 0, 0, 0, 0, 0, 0, [], l⟩
def nPr (l : List Int) : Nd := ⟨8, 0, 0, 0, 0, 0, 0, 0, [], l⟩
def nFn (s : List UInt8) (l : List Int) : Nd := ⟨1, 0, 0, 0, 0, 0, 0, 0, s, l⟩
def nUn (p : Int) (l : List Int) : Nd := ⟨30, 0, 0, 0, 0, 0, p, 0, [], l⟩
def nLen (l : List Int) : Nd := ⟨27, 0, 0, 0, 0, 0, 0, 0, [], l⟩
def nMin (l : List Int) : Nd := ⟨31, 0, 0, 0, 0, 0, 2, 0, [], l⟩
def nIx (l : List Int) : Nd := ⟨29, 0, 0, 0, 0, 0, 0, 0, [], l⟩
def nCall (s : List UInt8) (l : List Int) : Nd := ⟨25, 0, 0, 0, 0, 0, 0, 0, s, l⟩

theorem mk_name {N : List Nd} {x o : Nat} (hOK : OKs N) (hn : N[x]? = some nA) : Mk N x o [97] 20 := mk_leaf hOK hn (by simp [nA]) rfl (by simp [nA, ndParts, isSt, exParts])
theorem mk_num {N : List Nd} {x o v : Nat} (hOK : OKs N) (hn : N[x]? = some (nNum (v : Int))) : Mk N x o (dcm v) 20 := mk_leaf hOK hn (by simp [nNum]) rfl (by simp [nNum, ndParts, isSt, exParts])
theorem mk_true {N : List Nd} {x o : Nat} (hOK : OKs N) (hn : N[x]? = some nTrue) : Mk N x o [116, 114, 117, 101] 20 := mk_leaf hOK hn (by simp [nTrue]) rfl (by simp [nTrue, ndParts, isSt, exParts])
theorem mk_unary {N : List Nd} {x y o d : Nat} {p : Int} {Y : List UInt8} (hOK : OKs N) (hn : N[x]? = some (nUn p [(y : Int)])) (hl : 6 ≤ lv (ndOf N (y : Int))) (hy : Mk N y o Y d) : Mk N x o (opT p ++ Y) (d + 20) := fun t r S' h1 h2 h3 h => by
  simp only [List.length_append] at h1
  refine g_wp hn hOK (by simp [nUn]) (by omega) (by omega) ?_
  rw [show ndParts N (nUn p [(y : Int)]) = [tp (opT p), vp N (y : Int) 6] by simp [nUn, ndParts, isSt, exParts], vp_wp hl, if_neg (by simp [nUn])]
  simp only [List.cons_append, List.nil_append]
  refine g_tp (by omega) (by first | omega | (simp; done) | (simp; omega)) (hy _ _ _ (by simp only [List.length_append]; omega) (by omega) (by omega) (by simpa using h))
theorem mk_len {N : List Nd} {x y o d : Nat} {Y : List UInt8} (hOK : OKs N) (hn : N[x]? = some (nLen [(y : Int)])) (hy : Mk N y o Y d) : Mk N x o ([108, 101, 110, 40] ++ Y ++ [41]) (d + 20) := fun t r S' h1 h2 h3 h => by
  simp only [List.length_append, List.length_cons, List.length_nil] at h1
  refine g_wp hn hOK (by simp [nLen]) (by omega) (by omega) ?_
  rw [show ndParts N (nLen [(y : Int)]) = [tp [108, 101, 110, 40], wp y, tp [41]] by simp [nLen, ndParts, isSt, exParts], if_neg (by simp [nLen])]
  simp only [List.cons_append, List.nil_append]
  refine g_tp (by first | omega | (simp; done) | (simp; omega)) (by first | omega | (simp; done) | (simp; omega)) (hy _ _ _ (by first | omega | (simp; done) | (simp; omega)) (by first | omega | (simp; done) | (simp; omega)) (by omega) (g_tp (by first | omega | (simp; done) | (simp; omega)) (by first | omega | (simp; done) | (simp; omega)) (by simpa using h)))
theorem mk_call {N : List Nd} {x y o d : Nat} {nm Y : List UInt8} (hOK : OKs N) (hn : N[x]? = some (nCall nm [(y : Int)])) (hy : Mk N y o Y d) : Mk N x o (nm ++ [40] ++ Y ++ [41]) (d + 20) := fun t r S' h1 h2 h3 h => by
  simp only [List.length_append, List.length_cons, List.length_nil] at h1
  refine g_wp hn hOK (by simp [nCall]) (by omega) (by omega) ?_
  rw [show ndParts N (nCall nm [(y : Int)]) = [tp (nm ++ [40]), wp y, tp [41]] by simp [nCall, ndParts, isSt, exParts, jn], if_neg (by simp [nCall])]
  simp only [List.cons_append, List.nil_append]
  refine g_tp (by first | omega | (simp; done) | (simp; omega)) (by first | omega | (simp; done) | (simp; omega)) (hy _ _ _ (by first | omega | (simp; done) | (simp; omega)) (by first | omega | (simp; done) | (simp; omega)) (by omega) (g_tp (by first | omega | (simp; done) | (simp; omega)) (by first | omega | (simp; done) | (simp; omega)) (by simpa using h)))
theorem mk_minus {N : List Nd} {x y z o d : Nat} {Y Z : List UInt8} (hOK : OKs N) (hn : N[x]? = some (nMin [(y : Int), (z : Int)])) (hl : 4 ≤ lv (ndOf N (y : Int))) (hl2 : 5 ≤ lv (ndOf N (z : Int))) (hy : Mk N y o Y d) (hz : Mk N z o Z 20) : Mk N x o (Y ++ [32, 45, 32] ++ Z) (d + 40) := fun t r S' h1 h2 h3 h => by
  simp only [List.length_append, List.length_cons, List.length_nil] at h1
  refine g_wp hn hOK (by simp [nMin]) (by omega) (by omega) ?_
  have e : ndParts N (nMin [(y : Int), (z : Int)]) = [vp N (y : Int) 4, tp [32, 45, 32], vp N (z : Int) 5] := by simp [nMin, ndParts, isSt, exParts, lv, lvOp, opT, OPS]
  rw [e, vp_wp hl, vp_wp hl2, if_neg (by simp [nMin])]
  simp only [List.cons_append, List.nil_append]
  exact hy _ _ _ (by omega) (by first | omega | (simp; done) | (simp; omega)) (by omega) (g_tp (by first | omega | (simp; done) | (simp; omega)) (by first | omega | (simp; done) | (simp; omega)) (hz _ _ _ (by first | omega | (simp; done) | (simp; omega)) (by omega) (by omega) (by simpa using h)))
theorem mk_index {N : List Nd} {x y z o d : Nat} {Y Z : List UInt8} (hOK : OKs N) (hn : N[x]? = some (nIx [(y : Int), (z : Int)])) (hl : 7 ≤ lv (ndOf N (y : Int))) (hy : Mk N y o Y d) (hz : Mk N z o Z 20) : Mk N x o (Y ++ [91] ++ Z ++ [93]) (d + 40) := fun t r S' h1 h2 h3 h => by
  simp only [List.length_append, List.length_cons, List.length_nil] at h1
  refine g_wp hn hOK (by simp [nIx]) (by omega) (by omega) ?_
  have e : ndParts N (nIx [(y : Int), (z : Int)]) = [vp N (y : Int) 7, tp [91], wp z, tp [93]] := by simp [nIx, ndParts, isSt, exParts]
  rw [e, vp_wp hl, if_neg (by simp [nIx])]
  simp only [List.cons_append, List.nil_append]
  exact hy _ _ _ (by omega) (by first | omega | (simp; done) | (simp; omega)) (by omega) (g_tp (by first | omega | (simp; done) | (simp; omega)) (by first | omega | (simp; done) | (simp; omega)) (hz _ _ _ (by first | omega | (simp; done) | (simp; omega)) (by first | omega | (simp; done) | (simp; omega)) (by omega) (g_tp (by first | omega | (simp; done) | (simp; omega)) (by first | omega | (simp; done) | (simp; omega)) (by simpa using h))))
theorem mk_print {N : List Nd} {x y o d : Nat} {Y : List UInt8} (hOK : OKs N) (hn : N[x]? = some (nPr [(y : Int)])) (hy : Mk N y o Y d) : Mk N x o ([112, 114, 105, 110, 116, 40] ++ Y ++ [41, 59]) (d + 20) := fun t r S' h1 h2 h3 h => by
  simp only [List.length_append, List.length_cons, List.length_nil] at h1
  refine g_wp hn hOK (by simp [nPr]) (by omega) (by omega) ?_
  rw [show ndParts N (nPr [(y : Int)]) = [tp [112, 114, 105, 110, 116, 40], wp y, tp [41, 59]] by simp [nPr, ndParts, isSt, stParts], if_neg (by simp [nPr])]
  simp only [List.cons_append, List.nil_append]
  refine g_tp (by first | omega | (simp; done) | (simp; omega)) (by first | omega | (simp; done) | (simp; omega)) (hy _ _ _ (by first | omega | (simp; done) | (simp; omega)) (by first | omega | (simp; done) | (simp; omega)) (by omega) (g_tp (by first | omega | (simp; done) | (simp; omega)) (by first | omega | (simp; done) | (simp; omega)) (by simpa using h)))
theorem tabs_len (o : Nat) : (tabs o).length = o + 1 := by simp [tabs]
theorem mk_block1 {N : List Nd} {x y o d : Nat} {Y : List UInt8} (hOK : OKs N) (hn : N[x]? = some (nBk [(y : Int)])) (hy : Mk N y (o + 1) Y d) : Mk N x o ([123] ++ tabs (o + 1) ++ Y ++ tabs o ++ [125]) (d + 20) := fun t r S' h1 h2 h3 h => by
  simp only [List.length_append, List.length_cons, List.length_nil, tabs_len] at h1
  refine g_wp hn hOK (by simp [nBk]) (by omega) (by omega) ?_
  rw [show ndParts N (nBk [(y : Int)]) = [tp [123], np, wp y, ep] by simp [nBk, ndParts, blParts], if_pos (show (nBk _).kind = 3 from rfl)]
  simp only [List.cons_append, List.nil_append]
  refine g_tp (by first | omega | (simp; done) | (simp; omega)) (by first | omega | (simp; done) | (simp; omega)) (g_np (by first | omega | (simp; done) | (simp; omega)) (by first | omega | (simp; done) | (simp; omega)) (hy _ _ _ (by simp only [List.length_append, List.length_cons, List.length_nil, tabs_len]; omega) (by first | omega | (simp; done) | (simp; omega)) (by omega) (g_ep (by simp only [List.length_append, List.length_cons, List.length_nil, tabs_len]; omega) (by first | omega | (simp; done) | (simp; omega)) (by simpa using h))))
theorem mk_block0 {N : List Nd} {x o : Nat} (hOK : OKs N) (hn : N[x]? = some (nBk [])) : Mk N x o ([123] ++ tabs o ++ [125]) 20 := fun t r S' h1 h2 h3 h => by
  simp only [List.length_append, List.length_cons, List.length_nil, tabs_len] at h1
  refine g_wp hn hOK (by simp [nBk]) (by omega) (by omega) ?_
  rw [show ndParts N (nBk []) = [tp [123], ep] by simp [nBk, ndParts, blParts], if_pos (show (nBk _).kind = 3 from rfl)]
  simp only [List.cons_append, List.nil_append]
  refine g_tp (by first | omega | (simp; done) | (simp; omega)) (by first | omega | (simp; done) | (simp; omega)) (g_ep (by first | omega | (simp; done) | (simp; omega)) (by omega) (by simpa using h))
theorem mk_func {N : List Nd} {x y d : Nat} {nm Y : List UInt8} (hOK : OKs N) (hn : N[x]? = some (nFn nm [(y : Int)])) (hy : Mk N y 0 Y d) : Mk N x 0 ([102, 117, 110, 99, 32] ++ nm ++ [40] ++ [41, 32] ++ Y ++ [10]) (d + 20) := fun t r S' h1 h2 h3 h => by
  simp only [List.length_append, List.length_cons, List.length_nil] at h1
  refine g_wp hn hOK (by simp [nFn]) (by omega) (by omega) ?_
  have e : ndParts N (nFn nm [(y : Int)]) = [tp ([102, 117, 110, 99, 32] ++ nm ++ [40]), tp [41, 32], wp y, tp [10]] := by simp [nFn, ndParts, fnParts, jn]
  rw [e, if_neg (by simp [nFn])]
  simp only [List.cons_append, List.nil_append]
  refine g_tp (by first | omega | (simp; done) | (simp; omega)) (by first | omega | (simp; done) | (simp; omega)) (g_tp (by first | omega | (simp; done) | (simp; omega)) (by first | omega | (simp; done) | (simp; omega)) (hy _ _ _ (by first | omega | (simp; done) | (simp; omega)) (by first | omega | (simp; done) | (simp; omega)) (by omega) (g_tp (by first | omega | (simp; done) | (simp; omega)) (by first | omega | (simp; done) | (simp; omega)) (by simpa using h))))
theorem mk_if3 {N : List Nd} {x c y z o d : Nat} {C Y Z : List UInt8} (hOK : OKs N) (hn : N[x]? = some (nIf [(c : Int), (y : Int), (z : Int)])) (hc : Mk N c o C 20) (hy : Mk N y o Y 20) (hz : Mk N z o Z d) : Mk N x o ([105, 102, 32] ++ C ++ [32] ++ Y ++ [32, 101, 108, 115, 101, 32] ++ Z) (d + 40) := fun t r S' h1 h2 h3 h => by
  simp only [List.length_append, List.length_cons, List.length_nil] at h1
  refine g_wp hn hOK (by simp [nIf]) (by omega) (by omega) ?_
  have e : ndParts N (nIf [(c : Int), (y : Int), (z : Int)]) = [tp [105, 102, 32], wp c, tp [32], wp y, tp [32, 101, 108, 115, 101, 32], wp z] := by simp [nIf, ndParts, isSt, stParts]
  rw [e, if_neg (by simp [nIf])]
  simp only [List.cons_append, List.nil_append]
  refine g_tp (by first | omega | (simp; done) | (simp; omega)) (by first | omega | (simp; done) | (simp; omega)) (hc _ _ _ (by first | omega | (simp; done) | (simp; omega)) (by first | omega | (simp; done) | (simp; omega)) (by omega) (g_tp (by first | omega | (simp; done) | (simp; omega)) (by first | omega | (simp; done) | (simp; omega)) (hy _ _ _ (by first | omega | (simp; done) | (simp; omega)) (by first | omega | (simp; done) | (simp; omega)) (by omega) (g_tp (by first | omega | (simp; done) | (simp; omega)) (by first | omega | (simp; done) | (simp; omega)) (hz _ _ _ (by first | omega | (simp; done) | (simp; omega)) (by omega) (by omega) (by simpa using h))))))
theorem mk_if2 {N : List Nd} {x c y o : Nat} {C Y : List UInt8} (hOK : OKs N) (hn : N[x]? = some (nIf [(c : Int), (y : Int)])) (hc : Mk N c o C 20) (hy : Mk N y o Y 20) : Mk N x o ([105, 102, 32] ++ C ++ [32] ++ Y) 60 := fun t r S' h1 h2 h3 h => by
  simp only [List.length_append, List.length_cons, List.length_nil] at h1
  refine g_wp hn hOK (by simp [nIf]) (by omega) (by omega) ?_
  have e : ndParts N (nIf [(c : Int), (y : Int)]) = [tp [105, 102, 32], wp c, tp [32], wp y] := by simp [nIf, ndParts, isSt, stParts]
  rw [e, if_neg (by simp [nIf])]
  simp only [List.cons_append, List.nil_append]
  refine g_tp (by first | omega | (simp; done) | (simp; omega)) (by first | omega | (simp; done) | (simp; omega)) (hc _ _ _ (by first | omega | (simp; done) | (simp; omega)) (by first | omega | (simp; done) | (simp; omega)) (by omega) (g_tp (by first | omega | (simp; done) | (simp; omega)) (by first | omega | (simp; done) | (simp; omega)) (hy _ _ _ (by first | omega | (simp; done) | (simp; omega)) (by omega) (by omega) (by simpa using h))))
/-- The whole text of a tree of one function. -/
theorem mk_prints {N : List Nd} {f d : Nat} {X : List UInt8} (hf : Mk N f 0 X d) (hd : d ≤ 90000000) (hX : X.length ≤ 900000000) : PrintsOKx N [(f : Int)] ⟨[], [], 0⟩ ⟨X, [], 0⟩ := by
  obtain ⟨k, h⟩ := hf [] [] ⟨X, [], 0⟩ (by simpa using hX) (by simpa using hd) (by simpa using hd) ⟨0, by simpa using RunsOKx.fin _ rfl⟩
  exact .cons h rfl (.nil _)
end Go.Proofs.YtjepkcebfojiaaaDoor
namespace Go.Proofs.YtjepkcebfojiaaaDoor
open Go.ChangeShapes Go.WideShapes Go.ChangeAt Go.RowKit

/-- A list that grows step by step. -/
def bld {α : Type} (a : List α) (s : Nat → List α) : Nat → List α
  | 0 => a
  | i + 1 => bld a s i ++ s i
theorem bld_len {α : Type} {a : List α} {s : Nat → List α} {c : Nat} (hs : ∀ i, (s i).length = c) : ∀ n, (bld a s n).length = a.length + c * n
  | 0 => by simp [bld]
  | n + 1 => by rw [bld, List.length_append, bld_len hs n, hs, Nat.mul_succ]; omega
theorem bld_at {α : Type} {a : List α} {s : Nat → List α} {c : Nat} (hs : ∀ i, (s i).length = c) {i j : Nat} (hj : j < c) : ∀ n, i < n → (bld a s n)[a.length + c * i + j]? = (s i)[j]?
  | 0, h => by omega
  | n + 1, h => by
    have hl := bld_len (a := a) hs n
    rw [bld]
    by_cases e : i = n
    · subst e
      rw [List.getElem?_append_right (by omega), hl, show a.length + c * i + j - (a.length + c * i) = j by omega]
    · have hm : c * i + c ≤ c * n := by
        have := Nat.mul_le_mul_left c (show i + 1 ≤ n by omega)
        rw [Nat.mul_succ] at this
        exact this
      rw [List.getElem?_append_left (by omega)]
      exact bld_at hs hj n (by omega)
theorem bld_pre {α : Type} {a : List α} {s : Nat → List α} {j : Nat} (hj : j < a.length) : ∀ n, (bld a s n)[j]? = a[j]?
  | 0 => rfl
  | n + 1 => by
    have h := bld_pre (s := s) hj n
    have hl : j < (bld a s n).length := by
      have := List.getElem?_eq_getElem hj
      rw [← h] at this
      exact (List.getElem?_eq_some_iff.1 this).1
    rw [bld, List.getElem?_append_left hl]; exact h
theorem bld_mem {α : Type} {a : List α} {s : Nat → List α} {P : α → Prop} (ha : ∀ x ∈ a, P x) (hs : ∀ i, ∀ x ∈ s i, P x) : ∀ n, ∀ x ∈ bld a s n, P x
  | 0 => ha
  | n + 1 => by
    intro x hx
    rcases List.mem_append.1 hx with h | h
    · exact bld_mem ha hs n x h
    · exact hs n x h

theorem cloop_app (N : List Nd) : ∀ (a b : List Nd) (l : List Int) (i : Nat), cloop N l i (a ++ b) = (cloop N l i a).bind fun l' => cloop N l' (i + a.length) b
  | [], b, l, i => by simp [cloop]
  | n :: a, b, l, i => by
    simp only [List.cons_append, cloop, List.length_cons]
    cases cstep N l i n with
    | none => rfl
    | some l' => simp only [Option.bind_some]; rw [cloop_app N a b l' (i + 1), show i + 1 + a.length = i + (a.length + 1) by omega]
theorem cloop_bld {N a : List Nd} {s : Nat → List Nd} {c : Nat} (hc : ∀ i, (s i).length = c) {st : Nat → List Int} {l0 : List Int} {i0 : Nat} (h0 : cloop N l0 i0 a = some (st 0)) : ∀ n, (∀ i, i < n → cloop N (st i) (i0 + (a.length + c * i)) (s i) = some (st (i + 1))) → cloop N l0 i0 (bld a s n) = some (st n)
  | 0, _ => h0
  | n + 1, hs => by
    rw [bld, cloop_app, cloop_bld hc h0 n (fun i hi => hs i (by omega)), Option.bind_some, bld_len hc]
    exact hs n (by omega)
theorem cst {N : List Nd} {l : List Int} {i : Nat} {nd : Nd} (a : List Int) (hl : l = a ++ nd.kids) (hf : ffit nd = true) (hk : kfit N nd = true) : cstep N l i nd = some (a ++ [(i : Int)]) := by
  subst hl
  unfold cstep
  rw [if_pos ⟨by simp, by simp, hf, hk⟩]
  simp
theorem cl1 {N : List Nd} {l : List Int} {i : Nat} {nd : Nd} (a : List Int) (hl : l = a ++ nd.kids) (hf : ffit nd = true) (hk : kfit N nd = true) : cloop N l i [nd] = some (a ++ [(i : Int)]) := by
  simp only [cloop, cst a hl hf hk, Option.bind_some]
theorem cl2 {N : List Nd} {l : List Int} {i : Nat} {n1 n2 : Nd} (a b : List Int) (h1 : n1.kids = []) (hf : ffit n1 = true) (hk : kfit N n1 = true) (hl : l ++ [(i : Int)] = b ++ n2.kids) (hf2 : ffit n2 = true) (hk2 : kfit N n2 = true) : cloop N l i [n1, n2] = some (b ++ [((i + 1 : Nat) : Int)]) := by
  have e1 : cstep N l i n1 = some (l ++ [(i : Int)]) := cst l (by simp [h1]) hf hk
  have e2 : cstep N (l ++ [(i : Int)]) (i + 1) n2 = some (b ++ [((i + 1 : Nat) : Int)]) := cst b hl hf2 hk2
  simp only [cloop, e1, e2, Option.bind_some]
theorem chk_of {N : List Nd} {f : Nat} (h : cloop N [] 0 N = some [(f : Int)]) (hk : kd N (f : Int) = 1) : chk ⟨N, [(f : Int)]⟩ = true := by
  unfold chk
  simp only [h, decide_true, Bool.true_and, allK, List.all_cons, List.all_nil, Bool.and_true, hk, isK]

/-- All that is printed of a tree of one function. -/
theorem deep_done {N : List Nd} {f d : Nat} {X : List UInt8} (hc : chk ⟨N, [(f : Int)]⟩ = true) (hv : ∀ n ∈ N, n.val ≤ 9223372036854775807) (hn : N.length ≤ 1000000) (hM : OKs N → Mk N f 0 X d) (hd : d ≤ 90000000) (hX : X.length ≤ 900000000) :
    PrintsOKx N [(f : Int)] ⟨[], [], 0⟩ ⟨X, [], 0⟩ := mk_prints (hM (chk_ok hc hv hn)) hd hX

/-- What a text of a function f with one great statement looks like. -/
structure Fx (n : Nat) (X : List UInt8) : Prop where
  len : 12 ≤ X.length
  opn : X.count 123 = n + 2
  fst : X.take 10 = [102, 117, 110, 99, 32, 102, 40, 41, 32, 123]
  lst : X.drop (X.length - 3) = [10, 125, 10]
theorem tabs_cnt (o : Nat) : (tabs o).count 123 = 0 := by
  simp [tabs, List.count_cons, List.count_replicate]
theorem fx_of {n : Nat} {M : List UInt8} (h : M.count 123 = n + 1) : Fx n ([102, 117, 110, 99, 32] ++ [102] ++ [40] ++ [41, 32] ++ ([123] ++ tabs 1 ++ M ++ tabs 0 ++ [125]) ++ [10]) := by
  have e : ([102, 117, 110, 99, 32] ++ [102] ++ [40] ++ [41, 32] ++ ([123] ++ tabs 1 ++ M ++ tabs 0 ++ [125]) ++ [10] : List UInt8) = [102, 117, 110, 99, 32, 102, 40, 41, 32, 123] ++ ((tabs 1 ++ M) ++ [10, 125, 10]) := by simp [tabs]
  rw [e]
  refine ⟨by simp [tabs], ?_, by simp, ?_⟩
  · simp only [List.count_append, tabs_cnt, h]
    simp [List.count_cons]
    omega
  · rw [← List.append_assoc, List.length_append, List.drop_append_of_le_length (by simp), show ([10, 125, 10] : List UInt8).length = 3 from rfl, Nat.add_sub_cancel, List.drop_length]
    rfl

theorem fn_f (l : List Int) : ffit (nFn [102] l) = true := by show ffit (nFn [102] []) = true; decide
theorem fn_m (l : List Int) : ffit (nFn [109, 97, 105, 110] l) = true := by show ffit (nFn [109, 97, 105, 110] []) = true; decide
theorem call_f (l : List Int) : ffit (nCall [103] l) = true := by show ffit (nCall [103] []) = true; decide
/-- Blocks in blocks. -/
def bkS (i : Nat) : List Nd := [nBk [(i : Int)]]
def bkN (n : Nat) : List Nd := bld [nBk []] bkS (n + 1) ++ [nFn [102] [((n + 1 : Nat) : Int)]]
def bkX (o : Nat) : Nat → List UInt8 := fun n => Nat.rec (motive := fun _ => Nat → List UInt8) (fun o => [123] ++ tabs o ++ [125]) (fun _ f o => [123] ++ tabs (o + 1) ++ f (o + 1) ++ tabs o ++ [125]) n o
theorem bkX_cnt : ∀ (n o : Nat), (bkX o n).count 123 = n + 1
  | 0, o => by
    show ([123] ++ tabs o ++ [125] : List UInt8).count 123 = 1
    simp [List.count_cons, tabs_cnt]
  | n + 1, o => by
    show ([123] ++ tabs (o + 1) ++ bkX (o + 1) n ++ tabs o ++ [125] : List UInt8).count 123 = n + 2
    simp only [List.count_append, tabs_cnt, bkX_cnt n (o + 1)]
    simp [List.count_cons]
    omega
theorem bkX_len : ∀ (n o : Nat), (bkX o n).length ≤ (n + 1) * (2 * o + 2 * n + 6)
  | 0, o => by
    show ([123] ++ tabs o ++ [125] : List UInt8).length ≤ _
    simp [tabs]; omega
  | n + 1, o => by
    show ([123] ++ tabs (o + 1) ++ bkX (o + 1) n ++ tabs o ++ [125] : List UInt8).length ≤ _
    have := bkX_len n (o + 1)
    have e : 2 * (o + 1) + 2 * n + 6 = 2 * o + 2 * (n + 1) + 6 := by omega
    rw [e] at this
    simp only [List.length_append, tabs_len, List.length_cons, List.length_nil]
    rw [Nat.add_mul (n + 1) 1]
    omega
theorem bkN_len (n : Nat) : (bkN n).length = n + 3 := by
  simp only [bkN, List.length_append, bld_len (c := 1) (s := bkS) (fun _ => rfl), List.length_cons, List.length_nil]; omega
theorem bkN_0 (n : Nat) : (bkN n)[0]? = some (nBk []) := by
  rw [bkN, List.getElem?_append_left (by rw [bld_len (c := 1) (s := bkS) (fun _ => rfl)]; simp; omega), bld_pre (by simp)]; rfl
theorem bkN_at {n i : Nat} (hi : i ≤ n) : (bkN n)[i + 1]? = some (nBk [(i : Int)]) := by
  have h := bld_at (a := [nBk []]) (s := bkS) (c := 1) (fun _ => rfl) (i := i) (j := 0) (by omega) (n + 1) (by omega)
  rw [show [nBk []].length + 1 * i + 0 = i + 1 by simp; omega] at h
  rw [bkN, List.getElem?_append_left (by rw [bld_len (c := 1) (s := bkS) (fun _ => rfl)]; simp; omega), h]
  rfl
theorem bkN_f (n : Nat) : (bkN n)[n + 2]? = some (nFn [102] [((n + 1 : Nat) : Int)]) := by
  have hl := bld_len (a := [nBk []]) (c := 1) (s := bkS) (fun _ => rfl) (n + 1)
  rw [bkN, List.getElem?_append_right (by rw [hl]; simp; omega), hl]
  rw [show n + 2 - ([nBk []].length + 1 * (n + 1)) = 0 by simp; omega]
  rfl
theorem bkN_3 {n i : Nat} (hi : i ≤ n + 1) : kd (bkN n) (i : Int) = 3 := by
  cases i with
  | zero => exact kd_of (bkN_0 n)
  | succ i => exact kd_of (bkN_at (by omega))
theorem bkN_chk (n : Nat) : chk ⟨bkN n, [((n + 2 : Nat) : Int)]⟩ = true := by
  refine chk_of ?_ (kd_of (bkN_f n))
  have h1 : cloop (bkN n) [] 0 (bld [nBk []] bkS (n + 1)) = some [((n + 1 : Nat) : Int)] := by
    refine cloop_bld (c := 1) (fun _ => rfl) (st := fun i => [(i : Int)]) (by exact cl1 (nd := nBk []) [] rfl rfl (by simp [kfit, nBk, allK])) (n + 1) fun i hi => ?_
    rw [show 0 + ([nBk []].length + 1 * i) = i + 1 by simp; omega]
    refine cl1 [] rfl rfl ?_
    simp [kfit, nBk, allK, bkN_3 (show i ≤ n + 1 by omega), isSt]
  rw [bkN, cloop_app, ← bkN, h1, Option.bind_some, bld_len (c := 1) (s := bkS) (fun _ => rfl)]
  rw [show 0 + ([nBk []].length + 1 * (n + 1)) = n + 2 by simp; omega]
  refine cl1 [] rfl (fn_f _) ?_
  have := bkN_3 (n := n) (Nat.le_refl _)
  generalize ((n + 1 : Nat) : Int) = K at this ⊢
  simp [kfit, nFn, allK, this, isK]
theorem bkN_mk {n : Nat} (hOK : OKs (bkN n)) : ∀ i, i ≤ n + 1 → ∀ o, Mk (bkN n) i o (bkX o i) (20 * i + 20)
  | 0, _, o => mk_block0 hOK (bkN_0 n)
  | i + 1, hi, o => by
    have := mk_block1 hOK (bkN_at (show i ≤ n by omega)) (bkN_mk hOK i (by omega) (o + 1))
    exact this
theorem bkN_prints {n : Nat} (hn : n ≤ 1023) : ∃ X, PrintsOKx (bkN n) [((n + 2 : Nat) : Int)] ⟨[], [], 0⟩ ⟨X, [], 0⟩ ∧ Fx n X := by
  have hl := bkX_len n 1
  have hb : (n + 1) * (2 * 1 + 2 * n + 6) ≤ 1024 * 2054 := Nat.mul_le_mul (by omega) (by omega)
  refine ⟨_, deep_done (bkN_chk n) ?_ (by rw [bkN_len]; omega) (fun hOK => mk_func hOK (bkN_f n) (bkN_mk hOK (n + 1) (Nat.le_refl _) 0)) (d := 20 * (n + 1) + 20 + 20) (by omega) ?_, fx_of (M := bkX 1 n) (bkX_cnt n 1)⟩
  · intro x hx
    rcases List.mem_append.1 hx with h | h
    · exact bld_mem (P := fun x : Nd => x.val ≤ 9223372036854775807) (by simp [nBk]) (by simp [bkS, nBk]) _ x h
    · simp at h; subst h; simp [nFn]
  · show ([102, 117, 110, 99, 32] ++ [102] ++ [40] ++ [41, 32] ++ ([123] ++ tabs 1 ++ bkX 1 n ++ tabs 0 ++ [125]) ++ [10] : List UInt8).length ≤ _
    simp only [List.length_append, List.length_cons, List.length_nil, tabs_len]
    omega
end Go.Proofs.YtjepkcebfojiaaaDoor
namespace Go.Proofs.YtjepkcebfojiaaaDoor
open Go.ChangeShapes Go.WideShapes Go.ChangeAt Go.RowKit

/-- Ifs behind else. -/
def iaS (i : Nat) : List Nd := [nTrue, nBk []]
def ifS (k : Int) (i : Nat) : List Nd := [nIf [k - 2 * ((i : Int) + 1) - 2, k - 2 * ((i : Int) + 1) - 1, k + (i : Int)]]
def if0 (k : Int) : List Nd := [nIf [k - 2, k - 1]]
def ifN (n : Nat) : List Nd := bld [] iaS (n + 1) ++ (bld (if0 ((2 * n + 2 : Nat) : Int)) (ifS ((2 * n + 2 : Nat) : Int)) n ++ [nBk [((3 * n + 2 : Nat) : Int)], nFn [102] [((3 * n + 3 : Nat) : Int)]])
theorem ia_len (n : Nat) : (bld [] iaS n).length = 2 * n := by rw [bld_len (c := 2) (fun _ => rfl)]; simp
theorem if_len (k : Int) (n : Nat) : (bld (if0 k) (ifS k) n).length = n + 1 := by rw [bld_len (c := 1) (fun _ => rfl)]; simp [if0]; omega
theorem ifN_len (n : Nat) : (ifN n).length = 3 * n + 5 := by
  simp only [ifN, List.length_append, ia_len, if_len, List.length_cons, List.length_nil]; omega
theorem ifN_t {n i : Nat} (hi : i ≤ n) : (ifN n)[2 * i]? = some nTrue := by
  have h := bld_at (a := []) (s := iaS) (c := 2) (fun _ => rfl) (i := i) (j := 0) (by omega) (n + 1) (by omega)
  rw [show ([] : List Nd).length + 2 * i + 0 = 2 * i by simp] at h
  rw [ifN, List.getElem?_append_left (by rw [ia_len]; omega), h]
  rfl
theorem ifN_b {n i : Nat} (hi : i ≤ n) : (ifN n)[2 * i + 1]? = some (nBk []) := by
  have h := bld_at (a := []) (s := iaS) (c := 2) (fun _ => rfl) (i := i) (j := 1) (by omega) (n + 1) (by omega)
  rw [show ([] : List Nd).length + 2 * i + 1 = 2 * i + 1 by simp] at h
  rw [ifN, List.getElem?_append_left (by rw [ia_len]; omega), h]
  rfl
theorem ifN_0 (n : Nat) : (ifN n)[2 * n + 2]? = some (nIf [((2 * n : Nat) : Int), ((2 * n + 1 : Nat) : Int)]) := by
  rw [ifN, List.getElem?_append_right (by rw [ia_len]; omega), ia_len, show 2 * n + 2 - 2 * (n + 1) = 0 by omega, List.getElem?_append_left (by rw [if_len]; omega), bld_pre (by simp [if0])]
  simp only [if0, List.getElem?_cons_zero]
  rw [show ((2 * n + 2 : Nat) : Int) - 2 = ((2 * n : Nat) : Int) by omega, show ((2 * n + 2 : Nat) : Int) - 1 = ((2 * n + 1 : Nat) : Int) by omega]
theorem ifN_i {n i : Nat} (hi : i < n) : (ifN n)[2 * n + 2 + (i + 1)]? = some (nIf [((2 * (n - 1 - i) : Nat) : Int), ((2 * (n - 1 - i) + 1 : Nat) : Int), ((2 * n + 2 + i : Nat) : Int)]) := by
  have h := bld_at (a := if0 ((2 * n + 2 : Nat) : Int)) (s := ifS ((2 * n + 2 : Nat) : Int)) (c := 1) (fun _ => rfl) (i := i) (j := 0) (by omega) n hi
  rw [show (if0 ((2 * n + 2 : Nat) : Int)).length + 1 * i + 0 = i + 1 by simp [if0]; omega] at h
  rw [ifN, List.getElem?_append_right (by rw [ia_len]; omega), ia_len, show 2 * n + 2 + (i + 1) - 2 * (n + 1) = i + 1 by omega, List.getElem?_append_left (by rw [if_len]; omega), h]
  simp only [ifS, List.getElem?_cons_zero]
  rw [show ((2 * n + 2 : Nat) : Int) - 2 * ((i : Int) + 1) - 2 = ((2 * (n - 1 - i) : Nat) : Int) by omega, show ((2 * n + 2 : Nat) : Int) - 2 * ((i : Int) + 1) - 1 = ((2 * (n - 1 - i) + 1 : Nat) : Int) by omega, show ((2 * n + 2 : Nat) : Int) + (i : Int) = ((2 * n + 2 + i : Nat) : Int) by omega]
theorem ifN_bk (n : Nat) : (ifN n)[3 * n + 3]? = some (nBk [((3 * n + 2 : Nat) : Int)]) := by
  rw [ifN, List.getElem?_append_right (by rw [ia_len]; omega), ia_len, List.getElem?_append_right (by rw [if_len]; omega), if_len, show 3 * n + 3 - 2 * (n + 1) - (n + 1) = 0 by omega]
  rfl
theorem ifN_f (n : Nat) : (ifN n)[3 * n + 4]? = some (nFn [102] [((3 * n + 3 : Nat) : Int)]) := by
  rw [ifN, List.getElem?_append_right (by rw [ia_len]; omega), ia_len, List.getElem?_append_right (by rw [if_len]; omega), if_len, show 3 * n + 4 - 2 * (n + 1) - (n + 1) = 1 by omega]
  rfl
theorem ifN_10 {n i : Nat} (hi : i ≤ n) : kd (ifN n) ((2 * n + 2 + i : Nat) : Int) = 10 := by
  cases i with
  | zero => exact kd_of (ifN_0 n)
  | succ i => exact kd_of (ifN_i (by omega))
def rng (m : Nat) : List Int := (List.range m).map fun i : Nat => (i : Int)
theorem rng_2 (m : Nat) : rng (m + 2) = rng m ++ [(m : Int), ((m + 1 : Nat) : Int)] := by
  simp only [rng, List.range_succ, List.map_append, List.map_cons, List.map_nil, List.append_assoc, List.cons_append, List.nil_append]
theorem ifN_chk (n : Nat) : chk ⟨ifN n, [((3 * n + 4 : Nat) : Int)]⟩ = true := by
  refine chk_of ?_ (kd_of (ifN_f n))
  have h1 : cloop (ifN n) [] 0 (bld [] iaS (n + 1)) = some (rng (2 * (n + 1))) := by
    refine cloop_bld (c := 2) (fun _ => rfl) (st := fun i => rng (2 * i)) rfl (n + 1) fun i hi => ?_
    rw [show 0 + (([] : List Nd).length + 2 * i) = 2 * i by simp]
    rw [show 2 * (i + 1) = 2 * i + 2 by omega, rng_2]
    have := cl2 (N := ifN n) (l := rng (2 * i)) (i := 2 * i) (n1 := nTrue) (n2 := nBk []) [] (rng (2 * i) ++ [((2 * i : Nat) : Int)]) rfl rfl (by simp [kfit, nTrue]) (by simp [nBk]) rfl (by simp [kfit, nBk, allK])
    rw [List.append_assoc] at this
    exact this
  have h2 : cloop (ifN n) (rng (2 * (n + 1))) (2 * (n + 1)) (bld (if0 ((2 * n + 2 : Nat) : Int)) (ifS ((2 * n + 2 : Nat) : Int)) n) = some (rng (2 * (n - n)) ++ [((2 * n + 2 + n : Nat) : Int)]) := by
    refine cloop_bld (c := 1) (fun _ => rfl) (st := fun i => rng (2 * (n - i)) ++ [((2 * n + 2 + i : Nat) : Int)]) ?_ n fun i hi => ?_
    · refine cl1 (rng (2 * n)) ?_ rfl ?_
      · rw [show 2 * (n + 1) = 2 * n + 2 by omega, rng_2]
        simp only [if0, nIf]
        rw [show ((2 * n + 2 : Nat) : Int) - 2 = ((2 * n : Nat) : Int) by omega, show ((2 * n + 2 : Nat) : Int) - 1 = ((2 * n + 1 : Nat) : Int) by omega]
      · have e1 := kd_of (ifN_t (Nat.le_refl n))
        have e2 := kd_of (ifN_b (Nat.le_refl n))
        rw [show ((2 * n : Nat) : Int) = ((2 * n + 2 : Nat) : Int) - 2 by omega] at e1
        rw [show ((2 * n + 1 : Nat) : Int) = ((2 * n + 2 : Nat) : Int) - 1 by omega] at e2
        generalize ((2 * n + 2 : Nat) : Int) = K at e1 e2 ⊢
        simp [kfit, nIf, allK, e1, e2, isK, isEx, nTrue, nBk]
    · have hl : (if0 ((2 * n + 2 : Nat) : Int)).length = 1 := rfl
      rw [hl, show 2 * (n + 1) + (1 + 1 * i) = 2 * n + 2 + (i + 1) by omega]
      refine cl1 (rng (2 * (n - (i + 1)))) ?_ rfl ?_
      · rw [show 2 * (n - i) = 2 * (n - (i + 1)) + 2 by omega, rng_2]
        simp only [nIf]
        rw [show ((2 * n + 2 : Nat) : Int) - 2 * ((i : Int) + 1) - 2 = ((2 * (n - (i + 1)) : Nat) : Int) by omega, show ((2 * n + 2 : Nat) : Int) - 2 * ((i : Int) + 1) - 1 = ((2 * (n - (i + 1)) + 1 : Nat) : Int) by omega, show ((2 * n + 2 : Nat) : Int) + (i : Int) = ((2 * n + 2 + i : Nat) : Int) by omega]
        simp
      · have e1 := kd_of (ifN_t (n := n) (i := n - (i + 1)) (by omega))
        have e2 := kd_of (ifN_b (n := n) (i := n - (i + 1)) (by omega))
        have e3 := ifN_10 (n := n) (i := i) (by omega)
        rw [show ((2 * (n - (i + 1)) : Nat) : Int) = ((2 * n + 2 : Nat) : Int) - 2 * ((i : Int) + 1) - 2 by omega] at e1
        rw [show ((2 * (n - (i + 1)) + 1 : Nat) : Int) = ((2 * n + 2 : Nat) : Int) - 2 * ((i : Int) + 1) - 1 by omega] at e2
        rw [show ((2 * n + 2 + i : Nat) : Int) = ((2 * n + 2 : Nat) : Int) + (i : Int) by omega] at e3
        generalize ((2 * n + 2 : Nat) : Int) - 2 * ((i : Int) + 1) - 2 = K1 at e1 ⊢
        generalize ((2 * n + 2 : Nat) : Int) - 2 * ((i : Int) + 1) - 1 = K2 at e2 ⊢
        generalize ((2 * n + 2 : Nat) : Int) + (i : Int) = K3 at e3 ⊢
        simp [kfit, nIf, allK, e1, e2, e3, isK, isEx, isEl, nTrue, nBk]
  rw [show ifN n = bld [] iaS (n + 1) ++ (bld (if0 ((2 * n + 2 : Nat) : Int)) (ifS ((2 * n + 2 : Nat) : Int)) n ++ [nBk [((3 * n + 2 : Nat) : Int)], nFn [102] [((3 * n + 3 : Nat) : Int)]]) from rfl] at h1 h2 ⊢
  rw [cloop_app, ← ifN] at *
  rw [h1, Option.bind_some, ia_len, Nat.zero_add, cloop_app, h2, Option.bind_some, if_len, Nat.sub_self]
  have e3 := ifN_10 (n := n) (i := n) (Nat.le_refl _)
  have e4 := kd_of (ifN_bk n)
  rw [show 2 * n + 2 + n = 3 * n + 2 by omega] at *
  rw [show 2 * (n + 1) + (n + 1) = 3 * n + 3 by omega]
  have s1 : cstep (ifN n) (rng (2 * 0) ++ [((3 * n + 2 : Nat) : Int)]) (3 * n + 3) (nBk [((3 * n + 2 : Nat) : Int)]) = some [((3 * n + 3 : Nat) : Int)] := cst (nd := nBk [((3 * n + 2 : Nat) : Int)]) [] rfl rfl (by generalize ((3 * n + 2 : Nat) : Int) = K at e3 ⊢; simp [kfit, nBk, allK, e3, isSt])
  have s2 : cstep (ifN n) [((3 * n + 3 : Nat) : Int)] (3 * n + 3 + 1) (nFn [102] [((3 * n + 3 : Nat) : Int)]) = some [((3 * n + 4 : Nat) : Int)] := cst (nd := nFn [102] [((3 * n + 3 : Nat) : Int)]) [] rfl (fn_f _) (by generalize ((3 * n + 3 : Nat) : Int) = K at e4 ⊢; simp [kfit, nFn, allK, e4, isK, nBk])
  simp only [cloop, s1, s2, Option.bind_some]
def ifT (o : Nat) : List UInt8 := [105, 102, 32] ++ [116, 114, 117, 101] ++ [32] ++ ([123] ++ tabs o ++ [125])
def ifX (o : Nat) : Nat → List UInt8
  | 0 => ifT o
  | i + 1 => ifT o ++ [32, 101, 108, 115, 101, 32] ++ ifX o i
theorem ifT_cnt (o : Nat) : (ifT o).count 123 = 1 := by
  simp only [ifT, List.count_append, tabs_cnt]
  simp [List.count_cons]
theorem ifX_cnt (o : Nat) : ∀ n, (ifX o n).count 123 = n + 1
  | 0 => ifT_cnt o
  | n + 1 => by
    simp only [ifX, List.count_append, ifT_cnt, ifX_cnt o n]
    simp [List.count_cons]
    omega
theorem ifX_len (o : Nat) : ∀ n, (ifX o n).length = n * (o + 17) + (o + 11)
  | 0 => by simp only [ifX, ifT, List.length_append, tabs_len, List.length_cons, List.length_nil]; omega
  | n + 1 => by
    simp only [ifX, ifT, List.length_append, ifX_len o n, tabs_len, List.length_cons, List.length_nil, Nat.add_mul, Nat.one_mul]
    omega
theorem ifN_mk {n : Nat} (hOK : OKs (ifN n)) (o : Nat) : ∀ i, i ≤ n → Mk (ifN n) (2 * n + 2 + i) o (ifX o i) (40 * i + 60)
  | 0, _ => mk_if2 hOK (ifN_0 n) (mk_true hOK (ifN_t (Nat.le_refl _))) (mk_block0 hOK (ifN_b (Nat.le_refl _)))
  | i + 1, hi => by
    have := mk_if3 hOK (ifN_i (show i < n by omega)) (mk_true (o := o) hOK (ifN_t (by omega))) (mk_block0 hOK (ifN_b (by omega))) (ifN_mk hOK o i (by omega))
    rw [show 40 * (i + 1) + 60 = 40 * i + 60 + 40 by omega]
    exact this
theorem ifN_prints {n : Nat} (hn : n ≤ 16383) : ∃ X, PrintsOKx (ifN n) [((3 * n + 4 : Nat) : Int)] ⟨[], [], 0⟩ ⟨X, [], 0⟩ ∧ Fx n X := by
  have hl := ifX_len 1 n
  refine ⟨_, deep_done (ifN_chk n) ?_ (by rw [ifN_len]; omega) (fun hOK => mk_func hOK (ifN_f n) (mk_block1 hOK (ifN_bk n) (by have := ifN_mk hOK (0 + 1) n (Nat.le_refl _); rw [show 2 * n + 2 + n = 3 * n + 2 by omega] at this; exact this))) (d := 40 * n + 60 + 20 + 20) (by omega) ?_, fx_of (M := ifX 1 n) (ifX_cnt 1 n)⟩
  · intro x hx
    rcases List.mem_append.1 hx with h | h
    · exact bld_mem (P := fun x : Nd => x.val ≤ 9223372036854775807) (by simp) (by simp [iaS, nTrue, nBk]) _ x h
    · rcases List.mem_append.1 h with h | h
      · exact bld_mem (P := fun x : Nd => x.val ≤ 9223372036854775807) (by simp [if0, nIf]) (by simp [ifS, nIf]) _ x h
      · simp at h; rcases h with rfl | rfl <;> simp [nFn, nBk]
  · show ([102, 117, 110, 99, 32] ++ [102] ++ [40] ++ [41, 32] ++ ([123] ++ tabs 1 ++ ifX 1 n ++ tabs 0 ++ [125]) ++ [10] : List UInt8).length ≤ _
    simp only [List.length_append, List.length_cons, List.length_nil, tabs_len]
    omega
end Go.Proofs.YtjepkcebfojiaaaDoor
namespace Go.Proofs.YtjepkcebfojiaaaDoor
open Go.ChangeShapes Go.WideShapes Go.ChangeAt Go.RowKit

/-- Values in values: how many nodes a step has, the nodes, what stands ahead (turned) and behind. -/
def vD (how : Nat) : Nat := if how = 4 ∨ how = 5 then 2 else 1
def vS (how i : Nat) : List Nd :=
  if how = 2 then [nUn (20 + ((i % 3 : Nat) : Int)) [(i : Int)]]
  else if how = 3 then [nLen [(i : Int)]]
  else if how = 4 then [nNum 7, nMin [((2 * i : Nat) : Int), ((2 * i + 1 : Nat) : Int)]]
  else if how = 5 then [nNum 0, nIx [((2 * i : Nat) : Int), ((2 * i + 1 : Nat) : Int)]]
  else [nCall [103] [(i : Int)]]
def vA (how i : Nat) : List UInt8 :=
  if how = 2 then [([45, 33, 94] : List UInt8).getD (i % 3) 0]
  else if how = 3 then [40, 110, 101, 108]
  else if how = 4 then [] else if how = 5 then []
  else [40, 103]
def vB (how i : Nat) : List UInt8 :=
  if how = 2 then [] else if how = 3 then [41]
  else if how = 4 then [32, 45, 32, 55] else if how = 5 then [91, 48, 93]
  else [41]
def vN (how n : Nat) : List Nd := bld [nA] (vS how) n ++ [nPr [((vD how * n : Nat) : Int)], nBk [((vD how * n + 1 : Nat) : Int)], nFn [109, 97, 105, 110] [((vD how * n + 2 : Nat) : Int)]]
def vX (how n : Nat) : List UInt8 := (bld [] (vA how) n).reverse ++ [97] ++ bld [] (vB how) n
theorem vS_len (how i : Nat) : (vS how i).length = vD how := by
  unfold vS vD
  repeat' split
  all_goals first | rfl | omega
theorem vL_len (how n : Nat) : (bld [nA] (vS how) n).length = vD how * n + 1 := by rw [bld_len (vS_len how)]; simp; omega
theorem vN_len (how n : Nat) : (vN how n).length = vD how * n + 4 := by
  simp only [vN, List.length_append, vL_len, List.length_cons, List.length_nil]
theorem vN_0 (how n : Nat) : (vN how n)[0]? = some nA := by
  rw [vN, List.getElem?_append_left (by rw [vL_len]; omega), bld_pre (by simp)]; rfl
theorem vN_at {how n i j : Nat} (hi : i < n) (hj : j < vD how) : (vN how n)[vD how * i + j + 1]? = (vS how i)[j]? := by
  have h := bld_at (a := [nA]) (vS_len how) hj n hi
  rw [show [nA].length + vD how * i + j = vD how * i + j + 1 by simp; omega] at h
  have hm : vD how * i + vD how ≤ vD how * n := by
    have := Nat.mul_le_mul_left (vD how) (show i + 1 ≤ n by omega)
    rw [Nat.mul_succ] at this
    exact this
  rw [vN, List.getElem?_append_left (by rw [vL_len]; omega), h]
theorem vN_p (how n : Nat) : (vN how n)[vD how * n + 1]? = some (nPr [((vD how * n : Nat) : Int)]) := by
  rw [vN, List.getElem?_append_right (by rw [vL_len]; omega), vL_len, Nat.sub_self]; rfl
theorem vN_b (how n : Nat) : (vN how n)[vD how * n + 2]? = some (nBk [((vD how * n + 1 : Nat) : Int)]) := by
  rw [vN, List.getElem?_append_right (by rw [vL_len]; omega), vL_len, show vD how * n + 2 - (vD how * n + 1) = 1 by omega]; rfl
theorem vN_f (how n : Nat) : (vN how n)[vD how * n + 3]? = some (nFn [109, 97, 105, 110] [((vD how * n + 2 : Nat) : Int)]) := by
  rw [vN, List.getElem?_append_right (by rw [vL_len]; omega), vL_len, show vD how * n + 3 - (vD how * n + 1) = 2 by omega]; rfl
theorem vN_ex {how n x : Nat} (hx : x ≤ vD how * n) : isEx (kd (vN how n) (x : Int)) = true := by
  have hl : x < (bld [nA] (vS how) n).length := by rw [vL_len]; omega
  have h : (vN how n)[x]? = some (bld [nA] (vS how) n)[x] := by
    rw [vN, List.getElem?_append_left hl, List.getElem?_eq_getElem hl]
  rw [kd_of h]
  refine bld_mem (P := fun x : Nd => isEx x.kind = true) (by simp [nA, isEx]) ?_ n _ (List.getElem_mem hl)
  intro i x hx
  unfold vS at hx
  repeat' split at hx
  all_goals (simp at hx; try (rcases hx with rfl | rfl)) <;> first | (subst hx; rfl) | rfl
theorem vN_loop (how n : Nat) : cloop (vN how n) [] 0 (bld [nA] (vS how) n) = some [((vD how * n : Nat) : Int)] := by
  refine cloop_bld (vS_len how) (st := fun i => [((vD how * i : Nat) : Int)]) (by exact cl1 (nd := nA) [] rfl (by decide) (by simp [kfit, nA])) n fun i hi => ?_
  rw [show 0 + ([nA].length + vD how * i) = vD how * i + 1 by simp; omega]
  have hx : ∀ y, y ≤ vD how * i + 1 → vD how = 2 → isEx (kd (vN how n) (y : Int)) = true := fun y hy hd => vN_ex (by
    have := Nat.mul_le_mul_left (vD how) (show i + 1 ≤ n by omega)
    rw [Nat.mul_succ] at this
    omega)
  have hx1 : isEx (kd (vN how n) ((vD how * i : Nat) : Int)) = true := vN_ex (Nat.mul_le_mul_left _ (by omega))
  rw [Nat.mul_succ]
  by_cases h2 : how = 2
  · subst h2
    have hd : vD 2 = 1 := rfl
    rw [hd, Nat.one_mul] at hx1
    have e : vS 2 i = [nUn (20 + ((i % 3 : Nat) : Int)) [(i : Int)]] := rfl
    rw [e, hd, Nat.one_mul]
    refine cl1 [] rfl ?_ (by simp [kfit, nUn, allK, hx1])
    have hr : i % 3 < 3 := Nat.mod_lt _ (by omega)
    simp [ffit, nUn, mayOf, isEx, inR, nmFits]
    omega
  · by_cases h3 : how = 3
    · subst h3
      have hd : vD 3 = 1 := rfl
      rw [hd, Nat.one_mul] at hx1
      have e : vS 3 i = [nLen [(i : Int)]] := rfl
      rw [e, hd, Nat.one_mul]
      exact cl1 [] rfl rfl (by simp [kfit, nLen, allK, hx1])
    · by_cases h4 : how = 4
      · subst h4
        have hd : vD 4 = 2 := rfl
        have e : vS 4 i = [nNum 7, nMin [((2 * i : Nat) : Int), ((2 * i + 1 : Nat) : Int)]] := rfl
        have h1 := hx (2 * i) (by rw [hd]; omega) hd
        have h2 := hx (2 * i + 1) (by rw [hd]; omega) hd
        rw [e, hd]
        generalize hN : vN 4 n = N at *
        exact cl2 [] [] rfl (by decide) (by simp [kfit, nNum]) rfl rfl (by
          generalize ((2 * i : Nat) : Int) = K1 at *
          generalize ((2 * i + 1 : Nat) : Int) = K2 at *
          simp [kfit, nMin, allK, h1, h2])
      · by_cases h5 : how = 5
        · subst h5
          have hd : vD 5 = 2 := rfl
          have e : vS 5 i = [nNum 0, nIx [((2 * i : Nat) : Int), ((2 * i + 1 : Nat) : Int)]] := rfl
          have h1 := hx (2 * i) (by rw [hd]; omega) hd
          have h2 := hx (2 * i + 1) (by rw [hd]; omega) hd
          rw [e, hd]
          generalize hN : vN 5 n = N at *
          exact cl2 [] [] rfl (by decide) (by simp [kfit, nNum]) rfl rfl (by
            generalize ((2 * i : Nat) : Int) = K1 at *
            generalize ((2 * i + 1 : Nat) : Int) = K2 at *
            simp [kfit, nIx, allK, h1, h2])
        · have hd : vD how = 1 := by simp [vD, h4, h5]
          rw [hd, Nat.one_mul] at hx1
          have e : vS how i = [nCall [103] [(i : Int)]] := by simp [vS, h2, h3, h4, h5]
          rw [e, hd, Nat.one_mul]
          exact cl1 [] rfl (call_f _) (by simp [kfit, nCall, allK, hx1])
theorem vN_chk (how n : Nat) : chk ⟨vN how n, [((vD how * n + 3 : Nat) : Int)]⟩ = true := by
  refine chk_of ?_ (kd_of (vN_f how n))
  have h1 := vN_loop how n
  have e2 := vN_ex (how := how) (n := n) (Nat.le_refl _)
  have e3 := kd_of (vN_p how n)
  have e4 := kd_of (vN_b how n)
  rw [show vN how n = bld [nA] (vS how) n ++ [nPr [((vD how * n : Nat) : Int)], nBk [((vD how * n + 1 : Nat) : Int)], nFn [109, 97, 105, 110] [((vD how * n + 2 : Nat) : Int)]] from rfl] at h1 ⊢
  rw [cloop_app, ← vN] at *
  rw [h1, Option.bind_some, vL_len, Nat.zero_add]
  generalize hq : vD how * n = q at *
  have s1 : cstep (vN how n) [(q : Int)] (q + 1) (nPr [(q : Int)]) = some [((q + 1 : Nat) : Int)] := cst (nd := nPr [(q : Int)]) [] rfl rfl (by simp [kfit, nPr, allK, e2])
  have s2 : cstep (vN how n) [((q + 1 : Nat) : Int)] (q + 1 + 1) (nBk [((q + 1 : Nat) : Int)]) = some [((q + 2 : Nat) : Int)] := cst (nd := nBk [((q + 1 : Nat) : Int)]) [] rfl rfl (by generalize ((q + 1 : Nat) : Int) = K at e3 ⊢; simp [kfit, nBk, allK, e3, isSt, nPr])
  have s3 : cstep (vN how n) [((q + 2 : Nat) : Int)] (q + 1 + 1 + 1) (nFn [109, 97, 105, 110] [((q + 2 : Nat) : Int)]) = some [((q + 3 : Nat) : Int)] := cst (nd := nFn [109, 97, 105, 110] [((q + 2 : Nat) : Int)]) [] rfl (fn_m _) (by generalize ((q + 2 : Nat) : Int) = K at e4 ⊢; simp [kfit, nFn, allK, e4, isK, nBk])
  simp only [cloop, s1, s2, s3, Option.bind_some]
theorem vX_succ (how i : Nat) : vX how (i + 1) = (vA how i).reverse ++ vX how i ++ vB how i := by simp [vX, bld]
theorem vN_lv2 {n i : Nat} (hi : i ≤ n) : 6 ≤ lv (ndOf (vN 2 n) (i : Int)) := by
  cases i with
  | zero => rw [ndOf_at (vN_0 2 n)]; simp [lv, nA]
  | succ i =>
    have h : (vN 2 n)[i + 1]? = some (nUn (20 + ((i % 3 : Nat) : Int)) [(i : Int)]) := by
      have := vN_at (how := 2) (n := n) (i := i) (j := 0) (by omega) (by decide)
      rw [show vD 2 * i + 0 + 1 = i + 1 by simp [vD]] at this
      rw [this]; rfl
    rw [ndOf_at h]; simp [lv, nUn]
theorem vN_lv4 {n i : Nat} (hi : i ≤ n) : 4 ≤ lv (ndOf (vN 4 n) ((2 * i : Nat) : Int)) := by
  cases i with
  | zero => rw [ndOf_at (vN_0 4 n)]; simp [lv, nA]
  | succ i =>
    have h : (vN 4 n)[2 * (i + 1)]? = some (nMin [((2 * i : Nat) : Int), ((2 * i + 1 : Nat) : Int)]) := by
      have := vN_at (how := 4) (n := n) (i := i) (j := 1) (by omega) (by decide)
      rw [show vD 4 * i + 1 + 1 = 2 * (i + 1) by simp [vD]; omega] at this
      rw [this]; rfl
    rw [ndOf_at h]; simp [lv, nMin, lvOp]
theorem vN_lv5 {n i : Nat} (hi : i ≤ n) : 7 ≤ lv (ndOf (vN 5 n) ((2 * i : Nat) : Int)) := by
  cases i with
  | zero => rw [ndOf_at (vN_0 5 n)]; simp [lv, nA]
  | succ i =>
    have h : (vN 5 n)[2 * (i + 1)]? = some (nIx [((2 * i : Nat) : Int), ((2 * i + 1 : Nat) : Int)]) := by
      have := vN_at (how := 5) (n := n) (i := i) (j := 1) (by omega) (by decide)
      rw [show vD 5 * i + 1 + 1 = 2 * (i + 1) by simp [vD]; omega] at this
      rw [this]; rfl
    rw [ndOf_at h]; simp [lv, nIx]
theorem Mk.to {N : List Nd} {x y o d : Nat} {X Y : List UInt8} (h : Mk N x o X d) (e : x = y) (e2 : X = Y) : Mk N y o Y d := by subst e e2; exact h
theorem Mk.up {N : List Nd} {x o d d' : Nat} {X : List UInt8} (h : Mk N x o X d) (hd : d ≤ d') : Mk N x o X d' := fun t r S' h1 h2 h3 h4 => h t r S' h1 (by omega) (by omega) h4
theorem vN_mk {how n : Nat} (hOK : OKs (vN how n)) (o : Nat) : ∀ i, i ≤ n → Mk (vN how n) (vD how * i) o (vX how i) (40 * i + 20)
  | 0, _ => (mk_name hOK (vN_0 how n)).to (by simp) rfl
  | i + 1, hi => by
    have ih := vN_mk hOK o i (by omega)
    have h0 := vN_at (how := how) (n := n) (i := i) (j := 0) (by omega) (by unfold vD; split <;> omega)
    rw [vX_succ]
    by_cases h2 : how = 2
    · subst h2
      have hd : vD 2 = 1 := rfl
      rw [hd, Nat.one_mul] at ih h0 ⊢
      have hr : i % 3 < 3 := Nat.mod_lt _ (by omega)
      refine ((mk_unary hOK h0 (vN_lv2 (by omega)) ih).to (by omega) ?_).up (by omega)
      have e : opT (20 + ((i % 3 : Nat) : Int)) = vA 2 i := by
        simp only [vA, if_true]
        generalize i % 3 = q at hr ⊢
        have : q = 0 ∨ q = 1 ∨ q = 2 := by omega
        rcases this with rfl | rfl | rfl <;> rfl
      rw [e, show (vA 2 i).reverse = vA 2 i by simp [vA], show vB 2 i = [] from rfl, List.append_nil]
    · by_cases h3 : how = 3
      · subst h3
        have hd : vD 3 = 1 := rfl
        rw [hd, Nat.one_mul] at ih h0 ⊢
        exact ((mk_len hOK h0 ih).to (by omega) rfl).up (by omega)
      · by_cases h4 : how = 4
        · subst h4
          have hd : vD 4 = 2 := rfl
          have h1 := vN_at (how := 4) (n := n) (i := i) (j := 1) (by omega) (by decide)
          rw [hd] at ih h0 h1 ⊢
          have hn : (vN 4 n)[2 * i + 1]? = some (nNum ((7 : Nat) : Int)) := h0
          have l2 : 5 ≤ lv (ndOf (vN 4 n) ((2 * i + 1 : Nat) : Int)) := by rw [ndOf_at hn]; simp [lv, nNum]
          refine ((mk_minus hOK h1 (vN_lv4 (by omega)) l2 ih (mk_num hOK hn)).to (by omega) ?_).up (by omega)
          rw [show dcm 7 = [55] by rw [dcm]; rfl]
          simp [vA, vB]
        · by_cases h5 : how = 5
          · subst h5
            have hd : vD 5 = 2 := rfl
            have h1 := vN_at (how := 5) (n := n) (i := i) (j := 1) (by omega) (by decide)
            rw [hd] at ih h0 h1 ⊢
            have hn : (vN 5 n)[2 * i + 1]? = some (nNum ((0 : Nat) : Int)) := h0
            refine ((mk_index hOK h1 (vN_lv5 (by omega)) ih (mk_num hOK hn)).to (by omega) ?_).up (by omega)
            rw [show dcm 0 = [48] by rw [dcm]; rfl]
            simp [vA, vB]
          · have hd : vD how = 1 := by simp [vD, h4, h5]
            rw [hd, Nat.one_mul] at ih h0 ⊢
            have e : vS how i = [nCall [103] [(i : Int)]] := by simp [vS, h2, h3, h4, h5]
            rw [e] at h0
            refine ((mk_call hOK h0 ih).to (by omega) ?_).up (by omega)
            simp [vA, vB, h2, h3, h4, h5]
theorem vA_len (how i : Nat) : (vA how i).length ≤ 4 := by
  unfold vA
  repeat' split
  all_goals simp
theorem vB_len (how i : Nat) : (vB how i).length ≤ 4 := by
  unfold vB
  repeat' split
  all_goals simp
theorem bld_le {α : Type} {s : Nat → List α} {c : Nat} (hs : ∀ i, (s i).length ≤ c) : ∀ n, (bld [] s n).length ≤ c * n
  | 0 => by simp [bld]
  | n + 1 => by
    have := bld_le hs n
    have := hs n
    rw [bld, List.length_append, Nat.mul_succ]
    omega
def vT (how n : Nat) : List UInt8 := [102, 117, 110, 99, 32] ++ [109, 97, 105, 110] ++ [40] ++ [41, 32] ++ ([123] ++ tabs 1 ++ ([112, 114, 105, 110, 116, 40] ++ vX how n ++ [41, 59]) ++ tabs 0 ++ [125]) ++ [10]
theorem vN_prints {how n : Nat} (hn : n ≤ 16383) : PrintsOKx (vN how n) [((vD how * n + 3 : Nat) : Int)] ⟨[], [], 0⟩ ⟨vT how n, [], 0⟩ := by
  have ha := bld_le (vA_len how) n
  have hb := bld_le (vB_len how) n
  have hd : vD how ≤ 2 := by unfold vD; split <;> omega
  have hdn : vD how * n ≤ 2 * n := Nat.mul_le_mul_right _ hd
  refine deep_done (vN_chk how n) ?_ (by rw [vN_len]; omega) (fun hOK => mk_func hOK (vN_f how n) (mk_block1 hOK (vN_b how n) (mk_print hOK (vN_p how n) (vN_mk hOK (0 + 1) n (Nat.le_refl _))))) (d := 40 * n + 20 + 20 + 20 + 20) (by omega) ?_
  · intro x hx
    rcases List.mem_append.1 hx with h | h
    · refine bld_mem (P := fun x : Nd => x.val ≤ 9223372036854775807) (by simp [nA]) ?_ _ x h
      intro i x hx
      unfold vS at hx
      repeat' split at hx
      all_goals (simp at hx; try (rcases hx with rfl | rfl)) <;> simp [nUn, nLen, nCall, nNum, nMin, nIx]
    · simp at h; rcases h with rfl | rfl | rfl <;> simp [nFn, nBk, nPr]
  · simp only [vT, vX, List.length_append, List.length_cons, List.length_nil, tabs_len, List.length_reverse]
    omega
end Go.Proofs.YtjepkcebfojiaaaDoor
namespace Go.Proofs.YtjepkcebfojiaaaDoor
open Go.ChangeShapes Go.WideShapes Go.ChangeAt Go.RowKit

/-- What an append does to memory: its own row alone, or a new one. -/
structure GJ (B : Nat) (w0 w' : World) (v v' : Value) : Prop where
  bel : Below B w0 w'
  blk : ∀ g, g < w0.heap.size → v.ownBlock ≠ some g → w'.heap[g]? = w0.heap[g]?
  own : ∀ g, v'.ownBlock = some g → v.ownBlock = some g ∨ w0.heap.size ≤ g
theorem gj_of {w0 w' : World} {B : Nat} {v v' : Value} {n m : Nat} {e s xs} (hown : w0.ownsRow B e s v n xs) (hB : B ≤ w0.heap.size) (h2 : w0.grownBy w' v.ownBlock) (h3 : Grew w0 w' v v' n m) : GJ B w0 w' v v' := by
  refine ⟨(Below.refl _ _).grown h2 hB (fun k hk => (own_block hown hk).1), fun g h4 h5 => grown_at h2 h4 h5, fun g hg => ?_⟩
  cases h3 with
  | room g' cap e1 e2 => subst e1 e2; exact .inl hg
  | new e1 _ => rw [e1] at hg; cases hg; exact .inr (Nat.le_refl _)
/-- A row of numbers that was just built. -/
theorem OwnI.lit (w : World) (B : Nat) (hB : B ≤ w.heap.size) (l : List Int) (C : Array Value) (hC : C.toList = ivs l) (hl : l.length ≤ 1000) : OwnI (w.alloc (.cells C 3)) B (.slice (some ⟨w.heap.size, 0, none⟩) l.length l.length) l.length l := by
  have hs : C.size = l.length := by rw [← Array.length_toList, hC]; simp [ivs]
  refine ⟨rfl, by simp [ivs], .inr ⟨w.heap.size, l.length, C, rfl, hB, heap_alloc_last w _, Nat.le_refl _, by unfold maxLen; omega, by omega, ?_⟩⟩
  rw [hC, List.take_of_length_le (by simp [ivs])]
theorem OwnI.to {w w' : World} {B v n L} (h : OwnI w B v n L) (hb : Below w.heap.size w w') : OwnI w' B v n L := h.keep hb
/-- A list of nodes that grows. -/
structure NL (B : Nat) (w wr : World) (v : Value) (n : Nat) (L : List Nd) : Prop where
  out : ∃ P, CM wr B v n P ∧ P.map Prod.fst = L
  bel : Below B w wr
theorem CM.gj {B : Nat} {w0 w' : World} {v v' u : Value} {n : Nat} {P : List (Nd × Value)} (h : CM w0 B u n P) (g : GJ B w0 w' v v') (h1 : ∀ b, u.ownBlock = some b → v.ownBlock ≠ some b) (h2 : ∀ p ∈ P, ∀ b, p.2.ownBlock = some b → v.ownBlock ≠ some b) : CM w' B u n P :=
  ⟨h.len, own_move h.own fun b hb => g.blk b (own_block h.own hb).2 (h1 b hb), fun p hp => ⟨(h.kid p hp).len, own_move (h.kid p hp).out fun b hb => g.blk b (own_block (h.kid p hp).out hb).2 (h2 p hp b hb)⟩⟩
theorem ncs_one {Q : List (Nd × Value)} (h : ∀ q ∈ Q, ∃ a m c, q.2 = .slice a m c) : ∀ u ∈ ncs Q, u.oneCell' = true := by
  intro u hu
  obtain ⟨q, hq, hu⟩ := List.mem_flatMap.1 hu
  obtain ⟨a, m, c, e⟩ := h q hq
  rw [e] at hu
  exact nc_one q.1 a m c u hu
/-- append(nodes, ..): the new ones in a row behind all others. -/
theorem wpList_append_nodes {w0 : World} {ops : Array Oper} {rest : List Oper} {op : Oper} {a : Act} {Z : Exit → Act → World → Prop} {C : Array Value} (hgd : op.guard = none) (s x : Operand)
    (ho : op.op = .call { callee := .builtin .append, args := #[s, x], argTypes := #[22, 22] })
    (B : Nat) (v : Value) (n m g : Nat) (P Q : List (Nd × Value)) (hs : a.eval s = v) (hCM : CM w0 B v n P) (hx : a.eval x = .slice (some ⟨g, 0, none⟩) m m) (hg : g = w0.heap.size) (hm : m = Q.length) (hm0 : 0 < m) (hC : C.toList = ncs Q)
    (hQ : ∀ q ∈ Q, OwnI w0 B q.2 q.1.kids.length q.1.kids) (hl : n + m ≤ 1000000000) (hB : B ≤ w0.heap.size)
    (h : ∀ v' w', CM w' B v' (n + m) (P ++ Q) → GJ B w0 w' v v' → wpList Tryd.prog ops Z rest (a.put op.dst v') w') : wpList Tryd.prog ops Z (op :: rest) a (w0.alloc (.cells C 39)) := by
  subst hg
  obtain ⟨i0, hi, hz0, hz1, hz2⟩ := info_parts infoN
  have hba : Below w0.heap.size w0 (w0.alloc (.cells C 39)) := (Below.refl _ _).alloc (Nat.le_refl _) _
  have hCA := hCM.keep hba
  refine wpList_append_where hgd s x 22 ho B 39 i0 _ 10 104 Tryd.underlying22 hi hz0 hz1 hz2 rfl (by decide) v n (ncs P) hs hCA.own ⟨w0.heap.size, 0, none⟩ m m hm0 (ncs Q) hx (by rw [ncs_len, hm]) (fun j u hj => ?_) (ncs_one fun q hq => ⟨_, _, _, (own_slice (hQ q hq).out).choose_spec.choose_spec⟩) (by unfold maxLen; omega) (by omega) (by simp; omega) ?_
  · have e : (⟨w0.heap.size, 0, none⟩ : Addr).add j = ⟨w0.heap.size, j, none⟩ := by unfold Addr.add; split <;> simp_all
    rw [e, ← hC] at *
    simpa using hj
  · intro v' w' h1 h2 h3
    have hG := gj_of hCA.own (by simp; omega) h2 h3
    have hG0 : GJ B w0 w' v v' := ⟨(hba.mono hB).trans hG.bel, fun b h4 h5 => (hG.blk b (by simp; omega) h5).trans (hba.block b h4), fun b hb => by
      rcases hG.own b hb with h | h
      · exact .inl h
      · right; simp at h; omega⟩
    refine h v' w' ⟨by simp; rw [← hCM.len, ← hm], by rw [ncs_app]; exact h1, fun p hp => ?_⟩ hG0
    rcases List.mem_append.1 hp with hp | hp
    · exact ⟨(hCM.kid p hp).len, own_move (hCM.kid p hp).out fun b hb => hG0.blk b (own_block (hCM.kid p hp).out hb).2 (own_apart (hCM.kid p hp).out hCM.own (by decide) b hb)⟩
    · exact ⟨(hQ p hp).len, own_move (hQ p hp).out fun b hb => hG0.blk b (own_block (hQ p hp).out hb).2 (own_apart (hQ p hp).out hCM.own (by decide) b hb)⟩
/-- The same, of a list that grows. -/
theorem wpList_append_nl {w wr w0 : World} {ops : Array Oper} {rest : List Oper} {op : Oper} {a : Act} {Z : Exit → Act → World → Prop} {C : Array Value} (hgd : op.guard = none) (s x : Operand)
    (ho : op.op = .call { callee := .builtin .append, args := #[s, x], argTypes := #[22, 22] })
    (B : Nat) (v : Value) (n m g : Nat) (L : List Nd) (Q : List (Nd × Value)) (hs : a.eval s = v) (H : NL B w wr v n L) (hb : Below wr.heap.size wr w0) (hx : a.eval x = .slice (some ⟨g, 0, none⟩) m m) (hg : g = w0.heap.size) (hm : m = Q.length) (hm0 : 0 < m) (hC : C.toList = ncs Q)
    (hQ : ∀ q ∈ Q, OwnI w0 B q.2 q.1.kids.length q.1.kids) (hl : n + m ≤ 1000000000) (hB : B ≤ wr.heap.size)
    (h : ∀ v' w', NL B w w' v' (n + m) (L ++ Q.map Prod.fst) → wpList Tryd.prog ops Z rest (a.put op.dst v') w') : wpList Tryd.prog ops Z (op :: rest) a (w0.alloc (.cells C 39)) := by
  obtain ⟨P, hP, hL⟩ := H.out
  have hs0 := hb.size
  refine wpList_append_nodes hgd s x ho B v n m g P Q hs (hP.keep hb) hx hg hm hm0 hC hQ hl (by omega) fun v' w' h1 h2 => h v' w' ⟨⟨_, h1, by rw [List.map_append, hL]⟩, (H.bel.trans (hb.mono hB)).trans h2.bel⟩
theorem NL.slice {B w wr v n L} (H : NL B w wr v n L) : ∃ ao cap, v = .slice ao n cap := by
  obtain ⟨P, hP, _⟩ := H.out
  exact own_slice hP.own
theorem NL.le {B w wr v n L} (H : NL B w wr v n L) : n = L.length := by
  obtain ⟨P, hP, hL⟩ := H.out
  rw [hP.len, ← hL]; simp
theorem NL.nodes {B w wr ao cap n L} (H : NL B w wr (.slice ao n cap) n L) : Nodes wr ao cap L := by
  obtain ⟨P, hP, hL⟩ := H.out
  obtain ⟨ao', cap', e, h⟩ := hP.nodes
  cases e
  rw [← hL]; exact h
theorem NL.keep {B w wr w' v n L} (H : NL B w wr v n L) (hb : Below wr.heap.size wr w') (hB : B ≤ wr.heap.size) : NL B w w' v n L := by
  obtain ⟨P, hP, hL⟩ := H.out
  exact ⟨⟨P, hP.keep hb, hL⟩, H.bel.trans (hb.mono hB)⟩
end Go.Proofs.YtjepkcebfojiaaaDoor
