import Derived.Test.YtjepkcebfojiaaaDoorLzG
set_option linter.unusedVariables false
set_option linter.unusedSimpArgs false
namespace Go.Proofs.YtjepkcebfojiaaaDoor
open Go.ChangeShapes Go.WideShapes Go.ChangeAt Go.RowKit

/-- Printing goes on from here to its end. -/
def Goes (N : List Nd) (S' : Ps) (s : Ps) : Prop := ∃ k, RunsOKx N k s S'
def OKs (N : List Nd) : Prop := ∀ (i : Nat) (h : i < N.length), NdOKx N N[i]
/-- A node's printing adds X, with room for d. -/
def Mk (N : List Nd) (x : Nat) (o : Nat) (X : List UInt8) (d : Nat) : Prop := ∀ (t : List UInt8) (r : List Pt) (S' : Ps), t.length + X.length ≤ 900000000 → r.length + d ≤ 90000000 → o + d ≤ 90000000 → Goes N S' ⟨t ++ X, r, o⟩ → Goes N S' ⟨t, wp x :: r, o⟩
theorem g_tp {N : List Nd} {S' : Ps} {t s : List UInt8} {r : List Pt} {o : Nat} (hl : t.length + s.length ≤ 1000000000) (hr : r.length ≤ 100000000) (h : Goes N S' ⟨t ++ s, r, o⟩) : Goes N S' ⟨t, tp s :: r, o⟩ := by
  obtain ⟨k, h⟩ := h
  exact ⟨k + 1, .more rfl (.inl ⟨rfl, hl⟩) hr (by simpa [pstep, tp] using h)⟩
theorem g_np {N : List Nd} {S' : Ps} {t : List UInt8} {r : List Pt} {o : Nat} (hl : t.length + o + 1 ≤ 1000000000) (hr : r.length ≤ 100000000) (h : Goes N S' ⟨t ++ tabs o, r, o⟩) : Goes N S' ⟨t, np :: r, o⟩ := by
  obtain ⟨k, h⟩ := h
  exact ⟨k + 1, .more rfl (.inr (.inr (.inr (.inl ⟨rfl, hl⟩)))) hr (by simpa [pstep, np] using h)⟩
theorem g_ep {N : List Nd} {S' : Ps} {t : List UInt8} {r : List Pt} {o : Nat} (hl : t.length + o + 2 ≤ 1000000000) (hr : r.length ≤ 100000000) (h : Goes N S' ⟨t ++ (tabs o ++ [125]), r, o⟩) : Goes N S' ⟨t, ep :: r, o + 1⟩ := by
  obtain ⟨k, h⟩ := h
  exact ⟨k + 1, .more rfl (.inr (.inr (.inr (.inr ⟨rfl, o, rfl, hl⟩)))) hr (by simpa [pstep, ep] using h)⟩
theorem ndOf_at {N : List Nd} {x : Nat} {nd : Nd} (hn : N[x]? = some nd) : ndOf N (x : Int) = nd := by simp [ndOf, List.getD, hn]
theorem kd_of {N : List Nd} {x : Nat} {nd : Nd} (hn : N[x]? = some nd) : kd N (x : Int) = nd.kind := by simp [kd, hn]
theorem g_wp {N : List Nd} {S' : Ps} {t : List UInt8} {r : List Pt} {o x : Nat} {nd : Nd} (hn : N[x]? = some nd) (hOK : OKs N) (hk : nd.kids.length ≤ 3) (hr : r.length + 14 ≤ 100000000) (ho : o + 1 ≤ 1000000000) (h : Goes N S' ⟨t, ndParts N nd ++ r, if nd.kind = 3 then o + 1 else o⟩) : Goes N S' ⟨t, wp x :: r, o⟩ := by
  obtain ⟨k, h⟩ := h
  obtain ⟨hx, e⟩ := List.getElem?_eq_some_iff.1 hn
  refine ⟨k + 1, .more rfl (.inr (.inl ⟨rfl, x, rfl, hx, hOK x hx, ?_, ho⟩)) (by omega) ?_⟩
  · rw [e]; show r.length + _ + 8 ≤ _; omega
  · have e2 : pstep N ⟨t, wp x :: r, o⟩ = ⟨t, ndParts N nd ++ r, if nd.kind = 3 then o + 1 else o⟩ := by simp [pstep, wp, ndOf_at hn]
    rw [e2]; exact h
theorem mk_leaf {N : List Nd} {x o : Nat} {X : List UInt8} {nd : Nd} (hOK : OKs N) (hn : N[x]? = some nd) (h3 : nd.kind ≠ 3) (hk : nd.kids = []) (hp : ndParts N nd = [tp X]) : Mk N x o X 20 := fun t r S' h1 h2 h3' h => by
  refine g_wp hn hOK (by simp [hk]) (by omega) (by omega) ?_
  rw [hp, if_neg h3]
  simp only [List.cons_append, List.nil_append]
  exact g_tp (by omega) (by omega) h
theorem vp_wp {N : List Nd} {y l : Int} (h : l ≤ lv (ndOf N y)) : vp N y l = wp y := by
  unfold vp
  rw [if_neg (by omega)]

def nA : Nd := ⟨24, 0, 0, 0, 0, 0, 0, 0, [97], []⟩
def nNum (v : Int) : Nd := ⟨20, 0, 0, 0, 0, 0, 0, v, [], []⟩
def nTrue : Nd := ⟨21, 0, 0, 0, 0, 0, 0, 0, [], []⟩
def nBk (l : List Int) : Nd := ⟨3, 0, 0, 0, 0, 0, 0, 0, [], l⟩
def nIf (l : List Int) : Nd := ⟨10, 0, 0, 0, 0, 0, 0, 0, [], l⟩
def nPr (l : List Int) : Nd := ⟨8, 0, 0, 0, 0, 0, 0, 0, [], l⟩
def nFn (s : List UInt8) (l : List Int) : Nd := ⟨1, 0, 0, 0, 0, 0, 0, 0, s, l⟩
def nUn (p : Int) (l : List Int) : Nd := ⟨30, 0, 0, 0, 0, 0, p, 0, [], l⟩
def nLen (l : List Int) : Nd := ⟨27, 0, 0, 0, 0, 0, 0, 0, [], l⟩
def nMin (l : List Int) : Nd := ⟨31, 0, 0, 0, 0, 0, 2, 0, [], l⟩
def nIx (l : List Int) : Nd := ⟨29, 0, 0, 0, 0, 0, 0, 0, [], l⟩
def nCall (s : List UInt8) (l : List Int) : Nd := ⟨25, 0, 0, 0, 0, 0, 0, 0, s, l⟩

theorem mk_name {N : List Nd} {x o : Nat} (hOK : OKs N) (hn : N[x]? = some nA) : Mk N x o [97] 20 := mk_leaf hOK hn (by simp [nA]) rfl (by simp [nA, ndParts, isSt, exParts])
theorem mk_num {N : List Nd} {x o v : Nat} (hOK : OKs N) (hn : N[x]? = some (nNum (v : Int))) : Mk N x o (dcm v) 20 := mk_leaf hOK hn (by simp [nNum]) rfl (by simp [nNum, ndParts, isSt, exParts])
theorem mk_true {N : List Nd} {x o : Nat} (hOK : OKs N) (hn : N[x]? = some nTrue) : Mk N x o [116, 114, 117, 101] 20 := mk_leaf hOK hn (by simp [nTrue]) rfl (by simp [nTrue, ndParts, isSt, exParts])
theorem mk_unary {N : List Nd} {x y o d : Nat} {p : Int} {Y : List UInt8} (hOK : OKs N) (hn : N[x]? = some (nUn p [(y : Int)])) (hl : 6 ≤ lv (ndOf N (y : Int))) (hy : Mk N y o Y d) : Mk N x o (opT p ++ Y) (d + 20) := fun t r S' h1 h2 h3 h => by
  simp only [List.length_append] at h1
  refine g_wp hn hOK (by simp [nUn]) (by omega) (by omega) ?_
  rw [show ndParts N (nUn p [(y : Int)]) = [tp (opT p), vp N (y : Int) 6] by simp [nUn, ndParts, isSt, exParts], vp_wp hl, if_neg (by simp [nUn])]
  simp only [List.cons_append, List.nil_append]
  refine g_tp (by omega) (by first | omega | (simp; done) | (simp; omega)) (hy _ _ _ (by simp only [List.length_append]; omega) (by omega) (by omega) (by simpa using h))
theorem mk_len {N : List Nd} {x y o d : Nat} {Y : List UInt8} (hOK : OKs N) (hn : N[x]? = some (nLen [(y : Int)])) (hy : Mk N y o Y d) : Mk N x o ([108, 101, 110, 40] ++ Y ++ [41]) (d + 20) := fun t r S' h1 h2 h3 h => by
  simp only [List.length_append, List.length_cons, List.length_nil] at h1
  refine g_wp hn hOK (by simp [nLen]) (by omega) (by omega) ?_
  rw [show ndParts N (nLen [(y : Int)]) = [tp [108, 101, 110, 40], wp y, tp [41]] by simp [nLen, ndParts, isSt, exParts], if_neg (by simp [nLen])]
  simp only [List.cons_append, List.nil_append]
  refine g_tp (by first | omega | (simp; done) | (simp; omega)) (by first | omega | (simp; done) | (simp; omega)) (hy _ _ _ (by first | omega | (simp; done) | (simp; omega)) (by first | omega | (simp; done) | (simp; omega)) (by omega) (g_tp (by first | omega | (simp; done) | (simp; omega)) (by first | omega | (simp; done) | (simp; omega)) (by simpa using h)))
theorem mk_call {N : List Nd} {x y o d : Nat} {nm Y : List UInt8} (hOK : OKs N) (hn : N[x]? = some (nCall nm [(y : Int)])) (hy : Mk N y o Y d) : Mk N x o (nm ++ [40] ++ Y ++ [41]) (d + 20) := fun t r S' h1 h2 h3 h => by
  simp only [List.length_append, List.length_cons, List.length_nil] at h1
  refine g_wp hn hOK (by simp [nCall]) (by omega) (by omega) ?_
  rw [show ndParts N (nCall nm [(y : Int)]) = [tp (nm ++ [40]), wp y, tp [41]] by simp [nCall, ndParts, isSt, exParts, jn], if_neg (by simp [nCall])]
  simp only [List.cons_append, List.nil_append]
  refine g_tp (by first | omega | (simp; done) | (simp; omega)) (by first | omega | (simp; done) | (simp; omega)) (hy _ _ _ (by first | omega | (simp; done) | (simp; omega)) (by first | omega | (simp; done) | (simp; omega)) (by omega) (g_tp (by first | omega | (simp; done) | (simp; omega)) (by first | omega | (simp; done) | (simp; omega)) (by simpa using h)))
theorem mk_minus {N : List Nd} {x y z o d : Nat} {Y Z : List UInt8} (hOK : OKs N) (hn : N[x]? = some (nMin [(y : Int), (z : Int)])) (hl : 4 ≤ lv (ndOf N (y : Int))) (hl2 : 5 ≤ lv (ndOf N (z : Int))) (hy : Mk N y o Y d) (hz : Mk N z o Z 20) : Mk N x o (Y ++ [32, 45, 32] ++ Z) (d + 40) := fun t r S' h1 h2 h3 h => by
  simp only [List.length_append, List.length_cons, List.length_nil] at h1
  refine g_wp hn hOK (by simp [nMin]) (by omega) (by omega) ?_
  have e : ndParts N (nMin [(y : Int), (z : Int)]) = [vp N (y : Int) 4, tp [32, 45, 32], vp N (z : Int) 5] := by simp [nMin, ndParts, isSt, exParts, lv, lvOp, opT, OPS]
  rw [e, vp_wp hl, vp_wp hl2, if_neg (by simp [nMin])]
  simp only [List.cons_append, List.nil_append]
  exact hy _ _ _ (by omega) (by first | omega | (simp; done) | (simp; omega)) (by omega) (g_tp (by first | omega | (simp; done) | (simp; omega)) (by first | omega | (simp; done) | (simp; omega)) (hz _ _ _ (by first | omega | (simp; done) | (simp; omega)) (by omega) (by omega) (by simpa using h)))
theorem mk_index {N : List Nd} {x y z o d : Nat} {Y Z : List UInt8} (hOK : OKs N) (hn : N[x]? = some (nIx [(y : Int), (z : Int)])) (hl : 7 ≤ lv (ndOf N (y : Int))) (hy : Mk N y o Y d) (hz : Mk N z o Z 20) : Mk N x o (Y ++ [91] ++ Z ++ [93]) (d + 40) := fun t r S' h1 h2 h3 h => by
  simp only [List.length_append, List.length_cons, List.length_nil] at h1
  refine g_wp hn hOK (by simp [nIx]) (by omega) (by omega) ?_
  have e : ndParts N (nIx [(y : Int), (z : Int)]) = [vp N (y : Int) 7, tp [91], wp z, tp [93]] := by simp [nIx, ndParts, isSt, exParts]
  rw [e, vp_wp hl, if_neg (by simp [nIx])]
  simp only [List.cons_append, List.nil_append]
  exact hy _ _ _ (by omega) (by first | omega | (simp; done) | (simp; omega)) (by omega) (g_tp (by first | omega | (simp; done) | (simp; omega)) (by first | omega | (simp; done) | (simp; omega)) (hz _ _ _ (by first | omega | (simp; done) | (simp; omega)) (by first | omega | (simp; done) | (simp; omega)) (by omega) (g_tp (by first | omega | (simp; done) | (simp; omega)) (by first | omega | (simp; done) | (simp; omega)) (by simpa using h))))
theorem mk_print {N : List Nd} {x y o d : Nat} {Y : List UInt8} (hOK : OKs N) (hn : N[x]? = some (nPr [(y : Int)])) (hy : Mk N y o Y d) : Mk N x o ([112, 114, 105, 110, 116, 40] ++ Y ++ [41, 59]) (d + 20) := fun t r S' h1 h2 h3 h => by
  simp only [List.length_append, List.length_cons, List.length_nil] at h1
  refine g_wp hn hOK (by simp [nPr]) (by omega) (by omega) ?_
  rw [show ndParts N (nPr [(y : Int)]) = [tp [112, 114, 105, 110, 116, 40], wp y, tp [41, 59]] by simp [nPr, ndParts, isSt, stParts], if_neg (by simp [nPr])]
  simp only [List.cons_append, List.nil_append]
  refine g_tp (by first | omega | (simp; done) | (simp; omega)) (by first | omega | (simp; done) | (simp; omega)) (hy _ _ _ (by first | omega | (simp; done) | (simp; omega)) (by first | omega | (simp; done) | (simp; omega)) (by omega) (g_tp (by first | omega | (simp; done) | (simp; omega)) (by first | omega | (simp; done) | (simp; omega)) (by simpa using h)))
theorem tabs_len (o : Nat) : (tabs o).length = o + 1 := by simp [tabs]
theorem mk_block1 {N : List Nd} {x y o d : Nat} {Y : List UInt8} (hOK : OKs N) (hn : N[x]? = some (nBk [(y : Int)])) (hy : Mk N y (o + 1) Y d) : Mk N x o ([123] ++ tabs (o + 1) ++ Y ++ tabs o ++ [125]) (d + 20) := fun t r S' h1 h2 h3 h => by
  simp only [List.length_append, List.length_cons, List.length_nil, tabs_len] at h1
  refine g_wp hn hOK (by simp [nBk]) (by omega) (by omega) ?_
  rw [show ndParts N (nBk [(y : Int)]) = [tp [123], np, wp y, ep] by simp [nBk, ndParts, blParts], if_pos (show (nBk _).kind = 3 from rfl)]
  simp only [List.cons_append, List.nil_append]
  refine g_tp (by first | omega | (simp; done) | (simp; omega)) (by first | omega | (simp; done) | (simp; omega)) (g_np (by first | omega | (simp; done) | (simp; omega)) (by first | omega | (simp; done) | (simp; omega)) (hy _ _ _ (by simp only [List.length_append, List.length_cons, List.length_nil, tabs_len]; omega) (by first | omega | (simp; done) | (simp; omega)) (by omega) (g_ep (by simp only [List.length_append, List.length_cons, List.length_nil, tabs_len]; omega) (by first | omega | (simp; done) | (simp; omega)) (by simpa using h))))
theorem mk_block0 {N : List Nd} {x o : Nat} (hOK : OKs N) (hn : N[x]? = some (nBk [])) : Mk N x o ([123] ++ tabs o ++ [125]) 20 := fun t r S' h1 h2 h3 h => by
  simp only [List.length_append, List.length_cons, List.length_nil, tabs_len] at h1
  refine g_wp hn hOK (by simp [nBk]) (by omega) (by omega) ?_
  rw [show ndParts N (nBk []) = [tp [123], ep] by simp [nBk, ndParts, blParts], if_pos (show (nBk _).kind = 3 from rfl)]
  simp only [List.cons_append, List.nil_append]
  refine g_tp (by first | omega | (simp; done) | (simp; omega)) (by first | omega | (simp; done) | (simp; omega)) (g_ep (by first | omega | (simp; done) | (simp; omega)) (by omega) (by simpa using h))
theorem mk_func {N : List Nd} {x y d : Nat} {nm Y : List UInt8} (hOK : OKs N) (hn : N[x]? = some (nFn nm [(y : Int)])) (hy : Mk N y 0 Y d) : Mk N x 0 ([102, 117, 110, 99, 32] ++ nm ++ [40] ++ [41, 32] ++ Y ++ [10]) (d + 20) := fun t r S' h1 h2 h3 h => by
  simp only [List.length_append, List.length_cons, List.length_nil] at h1
  refine g_wp hn hOK (by simp [nFn]) (by omega) (by omega) ?_
  have e : ndParts N (nFn nm [(y : Int)]) = [tp ([102, 117, 110, 99, 32] ++ nm ++ [40]), tp [41, 32], wp y, tp [10]] := by simp [nFn, ndParts, fnParts, jn]
  rw [e, if_neg (by simp [nFn])]
  simp only [List.cons_append, List.nil_append]
  refine g_tp (by first | omega | (simp; done) | (simp; omega)) (by first | omega | (simp; done) | (simp; omega)) (g_tp (by first | omega | (simp; done) | (simp; omega)) (by first | omega | (simp; done) | (simp; omega)) (hy _ _ _ (by first | omega | (simp; done) | (simp; omega)) (by first | omega | (simp; done) | (simp; omega)) (by omega) (g_tp (by first | omega | (simp; done) | (simp; omega)) (by first | omega | (simp; done) | (simp; omega)) (by simpa using h))))
theorem mk_if3 {N : List Nd} {x c y z o d : Nat} {C Y Z : List UInt8} (hOK : OKs N) (hn : N[x]? = some (nIf [(c : Int), (y : Int), (z : Int)])) (hc : Mk N c o C 20) (hy : Mk N y o Y 20) (hz : Mk N z o Z d) : Mk N x o ([105, 102, 32] ++ C ++ [32] ++ Y ++ [32, 101, 108, 115, 101, 32] ++ Z) (d + 40) := fun t r S' h1 h2 h3 h => by
  simp only [List.length_append, List.length_cons, List.length_nil] at h1
  refine g_wp hn hOK (by simp [nIf]) (by omega) (by omega) ?_
  have e : ndParts N (nIf [(c : Int), (y : Int), (z : Int)]) = [tp [105, 102, 32], wp c, tp [32], wp y, tp [32, 101, 108, 115, 101, 32], wp z] := by simp [nIf, ndParts, isSt, stParts]
  rw [e, if_neg (by simp [nIf])]
  simp only [List.cons_append, List.nil_append]
  refine g_tp (by first | omega | (simp; done) | (simp; omega)) (by first | omega | (simp; done) | (simp; omega)) (hc _ _ _ (by first | omega | (simp; done) | (simp; omega)) (by first | omega | (simp; done) | (simp; omega)) (by omega) (g_tp (by first | omega | (simp; done) | (simp; omega)) (by first | omega | (simp; done) | (simp; omega)) (hy _ _ _ (by first | omega | (simp; done) | (simp; omega)) (by first | omega | (simp; done) | (simp; omega)) (by omega) (g_tp (by first | omega | (simp; done) | (simp; omega)) (by first | omega | (simp; done) | (simp; omega)) (hz _ _ _ (by first | omega | (simp; done) | (simp; omega)) (by omega) (by omega) (by simpa using h))))))
theorem mk_if2 {N : List Nd} {x c y o : Nat} {C Y : List UInt8} (hOK : OKs N) (hn : N[x]? = some (nIf [(c : Int), (y : Int)])) (hc : Mk N c o C 20) (hy : Mk N y o Y 20) : Mk N x o ([105, 102, 32] ++ C ++ [32] ++ Y) 60 := fun t r S' h1 h2 h3 h => by
  simp only [List.length_append, List.length_cons, List.length_nil] at h1
  refine g_wp hn hOK (by simp [nIf]) (by omega) (by omega) ?_
  have e : ndParts N (nIf [(c : Int), (y : Int)]) = [tp [105, 102, 32], wp c, tp [32], wp y] := by simp [nIf, ndParts, isSt, stParts]
  rw [e, if_neg (by simp [nIf])]
  simp only [List.cons_append, List.nil_append]
  refine g_tp (by first | omega | (simp; done) | (simp; omega)) (by first | omega | (simp; done) | (simp; omega)) (hc _ _ _ (by first | omega | (simp; done) | (simp; omega)) (by first | omega | (simp; done) | (simp; omega)) (by omega) (g_tp (by first | omega | (simp; done) | (simp; omega)) (by first | omega | (simp; done) | (simp; omega)) (hy _ _ _ (by first | omega | (simp; done) | (simp; omega)) (by omega) (by omega) (by simpa using h))))
/-- The whole text of a tree of one function. -/
theorem mk_prints {N : List Nd} {f d : Nat} {X : List UInt8} (hf : Mk N f 0 X d) (hd : d ≤ 90000000) (hX : X.length ≤ 900000000) : PrintsOKx N [(f : Int)] ⟨[], [], 0⟩ ⟨X, [], 0⟩ := by
  obtain ⟨k, h⟩ := hf [] [] ⟨X, [], 0⟩ (by simpa using hX) (by simpa using hd) (by simpa using hd) ⟨0, by simpa using RunsOKx.fin _ rfl⟩
  exact .cons h rfl (.nil _)
end Go.Proofs.YtjepkcebfojiaaaDoor
