import Derived.Test.YtchobeakieljpaaGreatDoorLuC
import Derived.Test.YtchobeakieljpaaGreatDoorTrO
import Derived.Test.YtchobeakieljpaaGreatDoorLuA
import Derived.Test.YtchobeakieljpaaGreatDoorTrC
import Derived.Test.YtchobeakieljpaaGreatDoorTrM
import Derived.Test.YtchobeakieljpaaGreatDoorLyM
import Derived.Deep.RegionHeld
import Derived.Test.YtchobeakieljpaaGreatDoorTrL
import Derived.Test.YtchobeakieljpaaGreatDoorLyN
import Derived.Lib.ConvBytes
set_option linter.unusedVariables false
set_option linter.unusedSimpArgs false
namespace Go.Proofs.YtchobeakieljpaaGreatDoor
open Go.ChangeShapes Go.WideShapes Go.ChangeAt Go.RowKit

set_option maxRecDepth 20000 in
theorem rTypeName_any (w : World) (t : Nat) (ht : t < 4) : Calls Tryz.prog 39 #[.int .i64 t] w fun e w' => e = .returned (.string (bs (typeT t))) ∧ Below w.heap.size w w' := by
  have hc : t = 0 ∨ t = 1 ∨ t = 2 ∨ t = 3 := by omega
  clear ht
  rcases hc with rfl | rfl | rfl | rfl
  all_goals
    go_enter Tryz.func39, Tryz.ntmps39
    go_wp2_with fail
    go_ret
    exact ⟨rfl, (Below.refl _ _).alloc (Nat.le_refl _) _⟩
def oArr : Array Value := (OPS.map fun s => Value.string (bs s)).toArray
theorem oArr_at (i : Nat) (hi : i < 23) : oArr[i]? = some (.string (bs (OPS.getD i []))) := by
  have hl : i < OPS.length := hi
  simp [oArr, List.getD, List.getElem?_eq_getElem hl]
set_option maxRecDepth 20000 in
theorem rSign_any (w : World) (t : Nat) (ht : t < 23) : Calls Tryz.prog 41 #[.int .i64 t] w fun e w' => e = .returned (.string (bs (opT t))) ∧ Below w.heap.size w w' := by
  have hgW : (w.alloc (.cells oArr 89)).heap[w.heap.size]? = some (.cells oArr 89 (0, 0)) := heap_alloc_last _ _
  have hcl := cell_arr hgW (oArr_at t ht)
  have hB : Below w.heap.size w (w.alloc (.cells oArr 89)) := (Below.refl _ _).alloc (Nat.le_refl _) _
  have hu : opT (t : Int) = OPS.getD t [] := by simp [opT]
  rw [hu]
  clear hu
  generalize OPS.getD t [] = u at *
  go_enter Tryz.func41, Tryz.ntmps41
  go_wp2_with (first | (refine wpList_store_row rfl 89 _ _ rfl _ _ rfl rfl 89 _ (heap_alloc_last _ _) (by kernel_rfl) rfl (by kernel_rfl) ?_; rw [World.setRow_alloc_new]; generalize hwl : w.alloc (Obj.cells _ _) = wl; have hcl2 : wl.cell? ⟨w.heap.size, t, none⟩ = some (.string (bs u)) := (by rw [← hwl]; exact hcl); have hB2 : Below w.heap.size w wl := (by rw [← hwl]; exact hB); clear hwl hcl hB hgW) | fail)
  go_ret
  exact ⟨rfl, hB2⟩
set_option maxRecDepth 10000 in
theorem rLevel_any (w : World) (nd : Nd) (s : ByteArray) (ka : Option Addr) (kl kc : Nat) : Calls Tryz.prog 38 #[.agg #[.int .i64 nd.kind, .int .i64 nd.at_, .int .i64 nd.wh, .int .i64 nd.close, .int .i64 nd.decl, .int .i64 nd.typ, .int .i64 nd.op, .int .i64 nd.val, .string s, .slice ka kl kc]] w fun e w' => e = .returned (.int .i64 (lv nd)) ∧ Below w.heap.size w w' := by
  have hB : Below w.heap.size w (w.alloc (.cells #[.int .i64 nd.kind, .int .i64 nd.at_, .int .i64 nd.wh, .int .i64 nd.close, .int .i64 nd.decl, .int .i64 nd.typ, .int .i64 nd.op, .int .i64 nd.val, .string s, .slice ka kl kc] 39)) := (Below.refl _ _).alloc (Nat.le_refl _) _
  obtain ⟨r, hr⟩ : ∃ r, r = lv nd := ⟨_, rfl⟩
  rw [← hr]
  obtain ⟨k, hk⟩ : ∃ k, k = nd.kind := ⟨_, rfl⟩
  obtain ⟨op, hop⟩ : ∃ op, op = nd.op := ⟨_, rfl⟩
  rw [← hk, ← hop] at hB ⊢
  have hr2 : r = if k = 30 then 6 else if k = 31 then lvOp op else 7 := by rw [hr, lv, hk, hop]
  clear hr hk hop
  by_cases h30 : k = 30
  · subst h30
    have : r = 6 := by simpa using hr2
    subst this
    clear hr2
    go_enter Tryz.func38, Tryz.ntmps38
    go_wp2_with fail
    go_ret
    exact ⟨rfl, hB⟩
  by_cases h31 : k = 31
  · subst h31
    have hc : op = 19 ∨ op = 18 ∨ op = 1 ∨ op = 2 ∨ op = 7 ∨ op = 8 ∨ (12 ≤ op ∧ op ≤ 17) ∨ (¬ op = 19 ∧ ¬ op = 18 ∧ ¬ op = 1 ∧ ¬ op = 2 ∧ ¬ op = 7 ∧ ¬ op = 8 ∧ op < 12) ∨ (¬ op = 19 ∧ ¬ op = 18 ∧ ¬ op = 1 ∧ ¬ op = 2 ∧ ¬ op = 7 ∧ ¬ op = 8 ∧ 12 ≤ op ∧ 17 < op) := by omega
    simp at hr2
    rcases hc with h | h | h | h | h | h | ⟨h1, h2⟩ | ⟨n1, n2, n3, n4, n5, n6, n7⟩ | ⟨n1, n2, n3, n4, n5, n6, n7, n8⟩
    case inr.inr.inr.inr.inr.inr.inl =>
      have : r = 3 := by rw [hr2, lvOp, if_neg (by omega), if_neg (by omega), if_pos (by omega)]
      subst this
      have n1 : ¬ op = 19 := by omega
      have n2 : ¬ op = 18 := by omega
      have n3 : ¬ op = 1 := by omega
      have n4 : ¬ op = 2 := by omega
      have n5 : ¬ op = 7 := by omega
      have n6 : ¬ op = 8 := by omega
      clear hr2
      go_enter Tryz.func38, Tryz.ntmps38
      go_wp2_with fail
      go_ret
      exact ⟨rfl, hB⟩
    case inr.inr.inr.inr.inr.inr.inr.inl =>
      have : r = 5 := by rw [hr2, lvOp, if_neg (by omega), if_neg (by omega), if_neg (by omega), if_neg (by omega)]
      subst this
      clear hr2
      go_enter Tryz.func38, Tryz.ntmps38
      go_wp2_with fail
      go_ret
      exact ⟨rfl, hB⟩
    case inr.inr.inr.inr.inr.inr.inr.inr =>
      have : r = 5 := by rw [hr2, lvOp, if_neg (by omega), if_neg (by omega), if_neg (by omega), if_neg (by omega)]
      subst this
      clear hr2
      go_enter Tryz.func38, Tryz.ntmps38
      go_wp2_with fail
      go_ret
      exact ⟨rfl, hB⟩
    all_goals
      subst h
      have hr3 : r = _ := hr2
      simp [lvOp] at hr3
      subst hr3
      clear hr2
      go_enter Tryz.func38, Tryz.ntmps38
      go_wp2_with fail
      go_ret
      exact ⟨rfl, hB⟩
  · have : r = 7 := by rw [hr2, if_neg h30, if_neg h31]
    subst this
    clear hr2
    go_enter Tryz.func38, Tryz.ntmps38
    go_wp2_with fail
    go_ret
    exact ⟨rfl, hB⟩
end Go.Proofs.YtchobeakieljpaaGreatDoor
namespace Go.Proofs.YtchobeakieljpaaGreatDoor
open Go.ChangeShapes Go.WideShapes Go.ChangeAt Go.RowKit

/-- Is the i-th kid put into parentheses? -/
def ard (N : List Nd) (n : Nd) (i : Nat) : Bool :=
  if n.kind = 31 then (if i = 0 then decide (lv (ndOf N (n.kids.getD i 0)) < if lv n = 3 then lv n + 1 else lv n) else decide (lv (ndOf N (n.kids.getD i 0)) < lv n + 1))
  else if n.kind = 30 then decide (lv (ndOf N (n.kids.getD i 0)) < 6) else if n.kind = 29 then decide (i = 0) && decide (lv (ndOf N (n.kids.getD i 0)) < 7) else false
/-- What stands ahead of the i-th kid. -/
def pre (n : Nd) (i : Nat) : List Pt :=
  if n.kind = 1 then
    (if i = 0 then [tp (([102, 117, 110, 99, 32] : List UInt8) ++ n.name ++ ([40] : List UInt8))] else if i + 1 = n.kids.length then [] else [tp ([44, 32] : List UInt8)])
    ++ (if i + 1 = n.kids.length then [tp (if n.decl = 0 then ([41, 32] : List UInt8) else ([41, 32] : List UInt8) ++ typeT n.decl ++ ([32] : List UInt8))] else [])
  else if n.kind = 3 then (if i = 0 then [tp ([123] : List UInt8), np] else [np])
  else if n.kind = 4 then [tp (([118, 97, 114, 32] : List UInt8) ++ n.name ++ ([32] : List UInt8) ++ typeT n.decl), tp ([32, 61, 32] : List UInt8)]
  else if n.kind = 5 then [tp n.name, tp ([32, 61, 32] : List UInt8)]
  else if n.kind = 6 then (if i = 0 then [tp (n.name ++ ([91] : List UInt8))] else [tp ([93, 32, 61, 32] : List UInt8)])
  else if n.kind = 8 then [tp ([112, 114, 105, 110, 116, 40] : List UInt8)]
  else if n.kind = 9 then [tp ([112, 97, 110, 105, 99, 40] : List UInt8)]
  else if n.kind = 10 then (if i = 0 then [tp ([105, 102, 32] : List UInt8)] else if i = 1 then [tp ([32] : List UInt8)] else [tp ([32, 101, 108, 115, 101, 32] : List UInt8)])
  else if n.kind = 11 then (if i = 0 then [tp ([102, 111, 114] : List UInt8), tp ([32] : List UInt8)] else [tp ([32] : List UInt8)])
  else if n.kind = 12 then [tp ([114, 101, 116, 117, 114, 110] : List UInt8), tp ([32] : List UInt8)]
  else if n.kind = 25 then (if i = 0 then [tp (n.name ++ ([40] : List UInt8))] else [tp ([44, 32] : List UInt8)])
  else if n.kind = 27 then [tp ([108, 101, 110, 40] : List UInt8)]
  else if n.kind = 28 then [tp ([109, 97, 107, 101, 40, 91, 93, 105, 110, 116, 44, 32] : List UInt8)]
  else if n.kind = 29 then (if i = 0 then [] else [tp ([91] : List UInt8)])
  else if n.kind = 30 then [tp (opT n.op)]
  else if n.kind = 31 then (if i = 0 then [] else [tp (([32] : List UInt8) ++ opT n.op ++ ([32] : List UInt8))])
  else []
/-- What stands behind all kids. -/
def tl (n : Nd) : List Pt :=
  if n.kind = 1 then [tp ([10] : List UInt8)]
  else if n.kind = 2 then [tp (n.name ++ ([32] : List UInt8) ++ typeT n.decl)]
  else if n.kind = 3 then (if n.kids = [] then [tp ([123] : List UInt8), ep] else [ep])
  else if n.kind = 4 then (if n.kids = [] then [tp (([118, 97, 114, 32] : List UInt8) ++ n.name ++ ([32] : List UInt8) ++ typeT n.decl), tp ([59] : List UInt8)] else [tp ([59] : List UInt8)])
  else if n.kind = 5 ∨ n.kind = 6 ∨ n.kind = 7 then [tp ([59] : List UInt8)]
  else if n.kind = 8 ∨ n.kind = 9 then [tp ([41, 59] : List UInt8)]
  else if n.kind = 12 then (if n.kids = [] then [tp ([114, 101, 116, 117, 114, 110] : List UInt8), tp ([59] : List UInt8)] else [tp ([59] : List UInt8)])
  else if n.kind = 13 then [tp ([98, 114, 101, 97, 107, 59] : List UInt8)]
  else if n.kind = 14 then [tp ([99, 111, 110, 116, 105, 110, 117, 101, 59] : List UInt8)]
  else if n.kind = 20 then [tp (dcm n.val.toNat)]
  else if n.kind = 21 then [tp ([116, 114, 117, 101] : List UInt8)]
  else if n.kind = 22 then [tp ([102, 97, 108, 115, 101] : List UInt8)]
  else if n.kind = 23 then [tp ([110, 105, 108] : List UInt8)]
  else if n.kind = 24 then [tp n.name]
  else if n.kind = 25 then (if n.kids = [] then [tp (n.name ++ ([40] : List UInt8)), tp ([41] : List UInt8)] else [tp ([41] : List UInt8)])
  else if n.kind = 26 then [tp ([105, 110, 112, 117, 116, 40, 41] : List UInt8)]
  else if n.kind = 27 ∨ n.kind = 28 then [tp ([41] : List UInt8)]
  else if n.kind = 29 then [tp ([93] : List UInt8)]
  else []
def kp (N : List Nd) (n : Nd) (i : Nat) : Pt := if ard N n i = true then xp (n.kids.getD i 0) else wp (n.kids.getD i 0)
def seg (N : List Nd) (n : Nd) (i : Nat) : List Pt := pre n i ++ [kp N n i]
/-- All that is printed of a node, from its i-th kid on. -/
def segs (N : List Nd) (n : Nd) (i : Nat) : List Pt := (List.range' i (n.kids.length - i)).flatMap (seg N n) ++ tl n
theorem segs_next {N n i} (h : i < n.kids.length) : segs N n i = pre n i ++ (kp N n i :: segs N n (i + 1)) := by
  unfold segs
  obtain ⟨m, hm⟩ : ∃ m, n.kids.length - i = m + 1 := ⟨n.kids.length - i - 1, by omega⟩
  have hm2 : n.kids.length - (i + 1) = m := by omega
  rw [hm, hm2, List.range'_succ, List.flatMap_cons, seg]
  simp
theorem segs_end {N n i} (h : n.kids.length ≤ i) : segs N n i = tl n := by
  unfold segs
  rw [show n.kids.length - i = 0 by omega]
  rfl
theorem flat_range (f : Nat → List Pt) (g : Int → List Pt) : ∀ (l : List Int) (i : Nat), (∀ j (h : j < l.length), f (i + j) = g l[j]) → (List.range' i l.length).flatMap f = l.flatMap g
  | [], i, _ => rfl
  | a :: l, i, h => by
    rw [List.length_cons, List.range'_succ, List.flatMap_cons, List.flatMap_cons, flat_range f g l (i + 1) (fun j hj => by
      have := h (j + 1) (by simpa using hj)
      rw [show i + 1 + j = i + (j + 1) by omega, this]
      simp), show f i = g a from h 0 (by simp)]
theorem kp_plain {N n i} (h1 : n.kind ≠ 29) (h2 : n.kind ≠ 30) (h3 : n.kind ≠ 31) : kp N n i = wp (n.kids.getD i 0) := by
  unfold kp ard
  rw [if_neg h3, if_neg h2, if_neg h1]
  rfl
theorem kp_vp (N : List Nd) (n : Nd) (i : Nat) (l : Int) (h : ard N n i = decide (lv (ndOf N (n.kids.getD i 0)) < l)) : kp N n i = vp N (n.kids.getD i 0) l := by
  unfold kp vp
  rw [h]
  simp
theorem kids_len {N : List Nd} {n : Nd} (hk : kfit N n = true) :
    ((n.kind = 2 ∨ n.kind = 13 ∨ n.kind = 14 ∨ n.kind = 20 ∨ n.kind = 21 ∨ n.kind = 22 ∨ n.kind = 23 ∨ n.kind = 24 ∨ n.kind = 26) → n.kids.length = 0) ∧ ((n.kind = 5 ∨ n.kind = 7 ∨ n.kind = 8 ∨ n.kind = 9 ∨ n.kind = 27 ∨ n.kind = 28 ∨ n.kind = 30) → n.kids.length = 1) ∧ ((n.kind = 6 ∨ n.kind = 29 ∨ n.kind = 31) → n.kids.length = 2) ∧ ((n.kind = 4 ∨ n.kind = 12) → n.kids.length ≤ 1) ∧ (n.kind = 10 → n.kids.length = 2 ∨ n.kids.length = 3) ∧ (n.kind = 11 → n.kids.length = 1 ∨ n.kids.length = 2) ∧ (n.kind = 1 → 0 < n.kids.length) := by
  unfold kfit at hk
  refine ⟨?_, ?_, ?_, ?_, ?_, ?_, ?_⟩
  · intro h
    rcases h with h | h | h | h | h | h | h | h | h <;> (simp only [h] at hk; simp at hk; simp [hk])
  · intro h
    rcases h with h | h | h | h | h | h | h <;> (simp only [h] at hk; simp at hk; omega)
  · intro h
    rcases h with h | h | h <;> (simp only [h] at hk; simp at hk; omega)
  · intro h
    rcases h with h | h <;> (simp only [h] at hk; simp at hk; omega)
  · intro h
    simp only [h] at hk
    simp at hk
    omega
  · intro h
    simp only [h] at hk
    simp at hk
    omega
  · intro h
    simp only [h] at hk
    simp at hk
    have := hk.1.1
    omega
theorem len0 {l : List Int} (h : l.length = 0) : l = [] := List.length_eq_zero_iff.1 h
theorem len1 {l : List Int} (h : l.length = 1) : ∃ a, l = [a] := List.length_eq_one_iff.1 h
theorem len2 {l : List Int} (h : l.length = 2) : ∃ a b, l = [a, b] := by
  match l, h with
  | [a, b], _ => exact ⟨a, b, rfl⟩
theorem len3 {l : List Int} (h : l.length = 3) : ∃ a b c, l = [a, b, c] := by
  match l, h with
  | [a, b, c], _ => exact ⟨a, b, c, rfl⟩
theorem parts_block {N : List Nd} {n : Nd} (h : n.kind = 3) : ndParts N n = segs N n 0 := by
  have e : ndParts N n = blParts n := by simp [ndParts, h]
  rw [e]
  unfold blParts
  match hkk : n.kids with
  | [] => simp [segs, tl, h, hkk]
  | a :: l =>
    have h1 : segs N n 0 = pre n 0 ++ (kp N n 0 :: segs N n 1) := segs_next (by rw [hkk]; simp)
    have h2 : segs N n 1 = l.flatMap (fun x => [np, wp x]) ++ [ep] := by
      unfold segs
      have : n.kids.length - 1 = l.length := by rw [hkk]; simp
      rw [this, flat_range (seg N n) (fun x => [np, wp x]) l 1 (fun j hj => by
        unfold seg
        rw [kp_plain (by omega) (by omega) (by omega)]
        simp [pre, h, hkk, List.getD, hj, Nat.add_comm 1 j])]
      simp [tl, h, hkk]
    rw [h1, h2, kp_plain (by omega) (by omega) (by omega)]
    simp [pre, h, hkk]
theorem parts_call {N : List Nd} {n : Nd} (h : n.kind = 25) : ndParts N n = segs N n 0 := by
  have e : ndParts N n = [tp (n.name ++ ([40] : List UInt8))] ++ jn n.kids ++ [tp ([41] : List UInt8)] := by simp [ndParts, h, isSt, exParts]
  rw [e]
  match hkk : n.kids with
  | [] => simp [segs, tl, h, hkk, jn]
  | a :: l =>
    have h1 : segs N n 0 = pre n 0 ++ (kp N n 0 :: segs N n 1) := segs_next (by rw [hkk]; simp)
    have h2 : segs N n 1 = l.flatMap (fun x => [tp ([44, 32] : List UInt8), wp x]) ++ [tp ([41] : List UInt8)] := by
      unfold segs
      have : n.kids.length - 1 = l.length := by rw [hkk]; simp
      rw [this, flat_range (seg N n) (fun x => [tp ([44, 32] : List UInt8), wp x]) l 1 (fun j hj => by
        unfold seg
        rw [kp_plain (by omega) (by omega) (by omega)]
        simp [pre, h, hkk, List.getD, hj, Nat.add_comm 1 j])]
      simp [tl, h, hkk]
    rw [h1, h2, kp_plain (by omega) (by omega) (by omega)]
    simp [pre, h, hkk, jn]
theorem parts_func {N : List Nd} {n : Nd} (h : n.kind = 1) (hl : 0 < n.kids.length) : ndParts N n = segs N n 0 := by
  have e : ndParts N n = fnParts n := by simp [ndParts, h]
  rw [e]
  obtain ⟨ks, b, hkk⟩ : ∃ ks b, n.kids = ks ++ [b] := ⟨n.kids.dropLast, n.kids.getLast (by intro e; rw [e] at hl; simp at hl), (List.dropLast_concat_getLast _).symm⟩
  have hlen : n.kids.length = ks.length + 1 := by rw [hkk]; simp
  have hlast : n.kids.getD ks.length 0 = b := by rw [hkk]; simp [List.getD]
  have hend : segs N n (ks.length + 1) = [tp ([10] : List UInt8)] := by rw [segs_end (by omega)]; simp [tl, h]
  have hbody : segs N n ks.length = pre n ks.length ++ [wp b, tp ([10] : List UInt8)] := by
    rw [segs_next (by omega), hend, kp_plain (by omega) (by omega) (by omega), hlast]
  unfold fnParts
  have e1 : n.kids.length - 1 = ks.length := by omega
  have e2 : n.kids.take ks.length = ks := by rw [hkk]; simp
  rw [e1, e2, hlast]
  cases ks with
  | nil =>
    rw [show segs N n 0 = pre n 0 ++ [wp b, tp ([10] : List UInt8)] from hbody]
    simp [pre, h, hlen, jn]
  | cons a l =>
    have h1 : segs N n 0 = pre n 0 ++ (kp N n 0 :: segs N n 1) := segs_next (by omega)
    have h2 : segs N n 1 = l.flatMap (fun x => [tp ([44, 32] : List UInt8), wp x]) ++ segs N n (a :: l).length := by
      unfold segs
      have : n.kids.length - 1 = l.length + 1 := by rw [hlen]; simp
      have e3 : n.kids.length - (a :: l).length = 1 := by omega
      rw [this, e3, show List.range' 1 (l.length + 1) = List.range' 1 l.length ++ [1 + l.length] by rw [List.range'_concat]; simp, List.flatMap_append, flat_range (seg N n) (fun x => [tp ([44, 32] : List UInt8), wp x]) l 1 (fun j hj => by
        unfold seg
        rw [kp_plain (by omega) (by omega) (by omega)]
        have hg : n.kids.getD (1 + j) 0 = l[j] := by
          rw [hkk, show 1 + j = j + 1 by omega]
          simp [List.getD, List.getElem?_append_left, hj]
        rw [hg]
        have q1 : ¬ 1 + j = 0 := by omega
        have q2 : ¬ 1 + j + 1 = n.kids.length := by rw [hlen]; simp; omega
        simp [pre, h, q1, q2])]
      simp [Nat.add_comm 1 l.length]
    rw [h1, h2, hbody, kp_plain (by omega) (by omega) (by omega)]
    have hg0 : n.kids.getD 0 0 = a := by rw [hkk]; simp
    have q2 : ¬ 0 + 1 = n.kids.length := by rw [hlen]; simp
    have q3 : ¬ (a :: l).length = 0 := by simp
    rw [hg0]
    simp [pre, h, hlen, jn]
theorem parts_eq {N : List Nd} {n : Nd} (hv : VK n.kind) (hk : kfit N n = true) : ndParts N n = segs N n 0 := by
  obtain ⟨l0, l1, l2, l3, l4, l5, l6⟩ := kids_len hk
  have hc : n.kind = 1 ∨ n.kind = 3 ∨ n.kind = 25 ∨ (n.kind = 2 ∨ n.kind = 13 ∨ n.kind = 14 ∨ n.kind = 20 ∨ n.kind = 21 ∨ n.kind = 22 ∨ n.kind = 23 ∨ n.kind = 24 ∨ n.kind = 26) ∨ (n.kind = 5 ∨ n.kind = 7 ∨ n.kind = 8 ∨ n.kind = 9 ∨ n.kind = 27 ∨ n.kind = 28 ∨ n.kind = 30) ∨ (n.kind = 6 ∨ n.kind = 29 ∨ n.kind = 31) ∨ (n.kind = 4 ∨ n.kind = 12) ∨ n.kind = 10 ∨ n.kind = 11 := by
    rcases hv with h | h <;> omega
  rcases hc with h | h | h | h | h | h | h | h | h
  · exact parts_func h (l6 h)
  · exact parts_block h
  · exact parts_call h
  · have hkk := len0 (l0 h)
    rcases h with h | h | h | h | h | h | h | h | h <;> simp [ndParts, segs, tl, h, hkk, stParts, exParts, isSt]
  · obtain ⟨a, hkk⟩ := len1 (l1 h)
    rcases h with h | h | h | h | h | h | h
    case inr.inr.inr.inr.inr.inr =>
      rw [segs_next (by rw [hkk]; simp), segs_end (by rw [hkk]; simp), kp_vp N n 0 6 (by simp [ard, h])]
      simp [ndParts, pre, tl, h, hkk, stParts, exParts, isSt]
    all_goals
      rw [segs_next (by rw [hkk]; simp), segs_end (by rw [hkk]; simp), kp_plain (by omega) (by omega) (by omega)]
      simp [ndParts, pre, tl, h, hkk, stParts, exParts, isSt, valParts]
  · obtain ⟨a, b, hkk⟩ := len2 (l2 h)
    rcases h with h | h | h
    · rw [segs_next (by rw [hkk]; simp), segs_next (by rw [hkk]; simp), segs_end (by rw [hkk]; simp), kp_plain (by omega) (by omega) (by omega), kp_plain (by omega) (by omega) (by omega)]
      simp [ndParts, pre, tl, h, hkk, stParts, exParts, isSt, valParts]
    · rw [segs_next (by rw [hkk]; simp), segs_next (by rw [hkk]; simp), segs_end (by rw [hkk]; simp), kp_vp N n 0 7 (by simp [ard, h])]
      have : kp N n (0 + 1) = wp b := by simp [kp, ard, h, hkk]
      rw [this]
      simp [ndParts, pre, tl, h, hkk, stParts, exParts, isSt, valParts]
    · rw [segs_next (by rw [hkk]; simp), segs_next (by rw [hkk]; simp), segs_end (by rw [hkk]; simp), kp_vp N n 0 (if lv n = 3 then lv n + 1 else lv n) (by simp [ard, h]), kp_vp N n (0 + 1) (lv n + 1) (by simp [ard, h])]
      simp [ndParts, pre, tl, h, hkk, stParts, exParts, isSt, valParts]
  · have hl := l3 h
    rcases (by omega : n.kids.length = 0 ∨ n.kids.length = 1) with hl | hl
    · have hkk := len0 hl
      rcases h with h | h <;> simp [ndParts, segs, tl, h, hkk, stParts, exParts, isSt, valParts]
    · obtain ⟨a, hkk⟩ := len1 hl
      rcases h with h | h
      all_goals
        rw [segs_next (by rw [hkk]; simp), segs_end (by rw [hkk]; simp), kp_plain (by omega) (by omega) (by omega)]
        simp [ndParts, pre, tl, h, hkk, stParts, exParts, isSt, valParts]
  · rcases l4 h with hl | hl
    · obtain ⟨a, b, hkk⟩ := len2 hl
      rw [segs_next (by rw [hkk]; simp), segs_next (by rw [hkk]; simp), segs_end (by rw [hkk]; simp), kp_plain (by omega) (by omega) (by omega), kp_plain (by omega) (by omega) (by omega)]
      simp [ndParts, pre, tl, h, hkk, stParts, exParts, isSt, valParts]
    · obtain ⟨a, b, c, hkk⟩ := len3 hl
      rw [segs_next (by rw [hkk]; simp), segs_next (by rw [hkk]; simp), segs_next (by rw [hkk]; simp), segs_end (by rw [hkk]; simp), kp_plain (by omega) (by omega) (by omega), kp_plain (by omega) (by omega) (by omega), kp_plain (by omega) (by omega) (by omega)]
      simp [ndParts, pre, tl, h, hkk, stParts, exParts, isSt, valParts]
  · rcases l5 h with hl | hl
    · obtain ⟨a, hkk⟩ := len1 hl
      rw [segs_next (by rw [hkk]; simp), segs_end (by rw [hkk]; simp), kp_plain (by omega) (by omega) (by omega)]
      simp [ndParts, pre, tl, h, hkk, stParts, exParts, isSt, valParts]
    · obtain ⟨a, b, hkk⟩ := len2 hl
      rw [segs_next (by rw [hkk]; simp), segs_next (by rw [hkk]; simp), segs_end (by rw [hkk]; simp), kp_plain (by omega) (by omega) (by omega), kp_plain (by omega) (by omega) (by omega)]
      simp [ndParts, pre, tl, h, hkk, stParts, exParts, isSt, valParts]
end Go.Proofs.YtchobeakieljpaaGreatDoor
namespace Go.Proofs.YtchobeakieljpaaGreatDoor
open Go.ChangeShapes Go.WideShapes Go.ChangeAt Go.RowKit

theorem ndOf_at {N : List Nd} (m : Nat) (h : m < N.length) : ndOf N (m : Int) = N[m] := by simp [ndOf, List.getD, h]
/-- What the i-th kid's parentheses hang on. -/
def ardL (k own kid : Int) (i : Nat) : Bool :=
  if k = 31 then (if i = 0 then decide (kid < own) || (decide (kid = 3) && decide (own = 3)) else decide (kid ≤ own)) else if k = 30 then decide (kid < 6) else if k = 29 then decide (i = 0) && decide (kid < 7) else false
theorem ard_L (N : List Nd) (n : Nd) (i : Nat) : ard N n i = ardL n.kind (lv n) (lv (ndOf N (n.kids.getD i 0))) i := by
  unfold ard ardL
  split
  · split
    · rw [Bool.eq_iff_iff]
      simp
      split <;> omega
    · rw [Bool.eq_iff_iff]
      simp
      omega
  · rfl
set_option maxRecDepth 10000 in
set_option maxHeartbeats 4000000 in
theorem rAround_any (w : World) (no : Option Addr) (nc nn : Nat) (fo : Option Addr) (fc fn : Nat) (N : List Nd) (hnn : nn = N.length) (hN : Nodes w no nc N) (nd : Nd) (ka : Option Addr) (kc kl : Nat) (s : ByteArray) (hK : Ints w ka kc nd.kids) (hkl : kl = nd.kids.length) (i : Nat) (hi : i < kl) (hrg : ∀ x ∈ nd.kids, 0 ≤ x ∧ x < nn) (hb : kl ≤ 1000000000) (hnb : nn ≤ 1000000000) (R : Bool) (hR : R = ard N nd i) :
    Calls Tryz.prog 23 #[.agg #[.slice no nn nc, .slice fo fn fc], .agg #[.int .i64 nd.kind, .int .i64 nd.at_, .int .i64 nd.wh, .int .i64 nd.close, .int .i64 nd.decl, .int .i64 nd.typ, .int .i64 nd.op, .int .i64 nd.val, .string s, .slice ka kl kc], .int .i64 i] w fun e w' => e = .returned (.bool R) ∧ Below w.heap.size w w' := by
  have hiK : i < nd.kids.length := by omega
  obtain ⟨kb, ko, rfl, hKA⟩ := hK.out (by intro e; rw [e] at hiK; simp at hiK)
  have kj := hKA.cell i hiK
  have hkbl := hKA.lt
  obtain ⟨x, hx⟩ : ∃ x, x = nd.kids[i] := ⟨_, rfl⟩
  rw [← hx] at kj
  have hxr := hrg x (by rw [hx]; exact List.getElem_mem hiK)
  obtain ⟨m, rfl⟩ : ∃ m : Nat, x = (m : Int) := ⟨x.toNat, by omega⟩
  have hmn : m < nn := by omega
  have hmN : m < N.length := by omega
  obtain ⟨b, o, rfl, hbl, hAt⟩ := hN.out (by intro e; rw [e] at hmN; simp at hmN)
  obtain ⟨ka2, kc2, c0, c1, c2, c3, c4, c5, c6, c7, c8, c9, hK2⟩ := (hAt m hmN).out
  obtain ⟨nk, hnk⟩ : ∃ nk, nk = N[m] := ⟨_, rfl⟩
  rw [← hnk] at c0 c1 c2 c3 c4 c5 c6 c7 c8 c9
  have hgd : nd.kids.getD i 0 = (m : Int) := by simp [List.getD, hiK, hx]
  have hR2 : R = ardL nd.kind (lv nd) (lv nk) i := by rw [hR, ard_L, hgd, ndOf_at m hmN, hnk]
  obtain ⟨s2, hs2⟩ : ∃ s, s = bs nk.name := ⟨_, rfl⟩
  rw [← hs2] at c8
  obtain ⟨kl2, hkl2⟩ : ∃ k, k = nk.kids.length := ⟨_, rfl⟩
  rw [← hkl2] at c9
  have hcap := hK.le
  have hncp := hN.le
  have hx1 := hK.mx
  have hx2 := hN.mx
  have OWN := fun w => rLevel_any w nd s (some ⟨kb, ko, none⟩) kl kc
  have KID := fun w => rLevel_any w nk s2 ka2 kl2 kc2
  generalize lv nd = own at OWN hR2
  generalize lv nk = kid at KID hR2
  have hq1 : kl ≤ kc := by omega
  have hq2 : nn ≤ nc := by omega
  have HR : Hid (R = ardL nd.kind own kid i) := hR2
  clear hR hR2 hgd hnk hx hs2 hkl2 hAt hK2 hKA hxr hrg hcap hncp hmN hiK hnn hkl
  obtain ⟨w0, hw0⟩ : ∃ w0, w0 = (w.alloc (.cells #[.slice (some ⟨b, o, none⟩) nn nc, .slice fo fn fc] 27)).alloc (.cells #[.int .i64 nd.kind, .int .i64 nd.at_, .int .i64 nd.wh, .int .i64 nd.close, .int .i64 nd.decl, .int .i64 nd.typ, .int .i64 nd.op, .int .i64 nd.val, .string s, .slice (some ⟨kb, ko, none⟩) kl kc] 39) := ⟨_, rfl⟩
  have hb0 : Below w.heap.size w w0 := by rw [hw0]; exact ((Below.refl _ _).alloc (Nat.le_refl _) _).alloc (by simp) _
  have hs0 : w.heap.size + 2 ≤ w0.heap.size := by rw [hw0]; simp
  have n9 : w0.cell? ⟨w.heap.size + 1, 9, none⟩ = some (.slice (some ⟨kb, ko, none⟩) kl kc) := by rw [hw0]; simp
  have n0 : w0.cell? ⟨w.heap.size + 1, 0, none⟩ = some (.int .i64 nd.kind) := by rw [hw0]; simp
  have t0 : w0.cell? ⟨w.heap.size, 0, none⟩ = some (.slice (some ⟨b, o, none⟩) nn nc) := by rw [hw0]; simp
  have HW0 : Hid _ := hw0
  clear hw0
  go_enter Tryz.func23, Tryz.ntmps23
  go_wp2_with (first | (go_at_call 38; rw [← HW0.out]; refine (OWN _).mono ?_; rintro e w1 ⟨rfl, hb1⟩))
  have hs1 := hb1.size
  have hb : Below w.heap.size w w1 := hb0.trans (hb1.mono (by omega))
  have f0 := cell_below hb1 (by omega) t0
  have f9 := cell_below hb1 (by omega) n9
  have fk := cell_below hb1 (by omega) n0
  have kj1 := cell_below hb hkbl kj
  have d0 := cell_below hb hbl c0
  have d1 := cell_below hb hbl c1
  have d2 := cell_below hb hbl c2
  have d3 := cell_below hb hbl c3
  have d4 := cell_below hb hbl c4
  have d5 := cell_below hb hbl c5
  have d6 := cell_below hb hbl c6
  have d7 := cell_below hb hbl c7
  have d8 := cell_below hb hbl c8
  have d9 := cell_below hb hbl c9
  have hq3 : w.heap.size < w1.drew.heap.size := by simp; omega
  have hq4 : w.heap.size + 1 < w1.drew.heap.size := by simp; omega
  have hq5 : kb < w1.drew.heap.size := by simp; omega
  have hq6 : b < w1.drew.heap.size := by simp; omega
  clear HW0 hs0 n0 n9 t0 c0 c1 c2 c3 c4 c5 c6 c7 c8 c9 kj
  go_region_held (fun w' => w'.cell? ⟨w.heap.size, 0, none⟩ = some (.slice (some ⟨b, o, none⟩) nn nc) ∧ w'.cell? ⟨w.heap.size + 1, 9, none⟩ = some (.slice (some ⟨kb, ko, none⟩) kl kc) ∧ w'.cell? ⟨kb, ko + i, none⟩ = some (.int .i64 (m : Int)) ∧ w'.cell? ⟨b, o + m * 10, none⟩ = some (.int .i64 nk.kind) ∧ w'.cell? ⟨b, o + m * 10 + 1, none⟩ = some (.int .i64 nk.at_) ∧ w'.cell? ⟨b, o + m * 10 + 2, none⟩ = some (.int .i64 nk.wh) ∧ w'.cell? ⟨b, o + m * 10 + 3, none⟩ = some (.int .i64 nk.close) ∧ w'.cell? ⟨b, o + m * 10 + 4, none⟩ = some (.int .i64 nk.decl) ∧ w'.cell? ⟨b, o + m * 10 + 5, none⟩ = some (.int .i64 nk.typ) ∧ w'.cell? ⟨b, o + m * 10 + 6, none⟩ = some (.int .i64 nk.op) ∧ w'.cell? ⟨b, o + m * 10 + 7, none⟩ = some (.int .i64 nk.val) ∧ w'.cell? ⟨b, o + m * 10 + 8, none⟩ = some (.string s2) ∧ w'.cell? ⟨b, o + m * 10 + 9, none⟩ = some (.slice ka2 kl2 kc2))
   (refine ⟨?_, ?_, ?_, ?_, ?_, ?_, ?_, ?_, ?_, ?_, ?_, ?_, ?_⟩ <;> first | with_reducible exact cellD f0 | with_reducible exact cellD f9 | with_reducible exact cellD kj1 | with_reducible exact cellD d0 | with_reducible exact cellD d1 | with_reducible exact cellD d2 | with_reducible exact cellD d3 | with_reducible exact cellD d4 | with_reducible exact cellD d5 | with_reducible exact cellD d6 | with_reducible exact cellD d7 | with_reducible exact cellD d8 | with_reducible exact cellD d9 | with_reducible exact cell_below hb2 hq3 (cellD f0) | with_reducible exact cell_below hb2 hq4 (cellD f9) | with_reducible exact cell_below hb2 hq5 (cellD kj1) | with_reducible exact cell_below hb2 hq6 (cellD d0) | with_reducible exact cell_below hb2 hq6 (cellD d1) | with_reducible exact cell_below hb2 hq6 (cellD d2) | with_reducible exact cell_below hb2 hq6 (cellD d3) | with_reducible exact cell_below hb2 hq6 (cellD d4) | with_reducible exact cell_below hb2 hq6 (cellD d5) | with_reducible exact cell_below hb2 hq6 (cellD d6) | with_reducible exact cell_below hb2 hq6 (cellD d7) | with_reducible exact cell_below hb2 hq6 (cellD d8) | with_reducible exact cell_below hb2 hq6 (cellD d9))
   (first | (go_at_call 38; refine (KID _).mono ?_; rintro e w2 ⟨rfl, hb2⟩))
  have gk : w2.cell? ⟨w.heap.size + 1, 0, none⟩ = some (.int .i64 nd.kind) := cell_below hb2 hq4 (cellD fk)
  have hB : Below w.heap.size w w2 := hb.trans (((Below.refl _ _).drew.trans hb2).mono hb.size)
  clear f0 f9 fk kj1 d0 d1 d2 d3 d4 d5 d6 d7 d8 d9 hq3 hq4 hq5 hq6 hb2 hb1 hb0 hb OWN KID hs1
  generalize nd.kind = k at *
  have c31 : k = 31 ∨ k = 30 ∨ k = 29 ∨ (¬ k = 31 ∧ ¬ k = 30 ∧ ¬ k = 29) := by omega
  rcases c31 with rfl | rfl | rfl | ⟨h1, h2, h3⟩
  · by_cases hi0 : i = 0
    · have hi1 : (i : Int) = 0 := by omega
      have HR1 : Hid (R = (decide (kid < own) || (decide (kid = 3) && decide (own = 3)))) := by show R = _; rw [HR.out, ardL, if_pos rfl, if_pos hi0]
      by_cases a1 : kid < own
      · go_wp2_with fail
        go_ret
        exact ⟨ret_b (by rw [HR1.out]; simp [a1]), hB⟩
      · have a2 : decide (kid < own) = false := by simpa using a1
        by_cases a3 : kid = 3
        · have a5 : ¬ (3 : Int) < own := by omega
          subst a3
          go_wp2_with fail
          go_ret
          exact ⟨ret_b (by rw [HR1.out, Bool.eq_iff_iff]; simp; omega), hB⟩
        · have a4 : (kid == 3) = false := by simpa using a3
          go_wp2_with fail
          go_ret
          exact ⟨ret_b (by rw [HR1.out]; simp [a1, a3]), hB⟩
    · have hi1 : ¬ (i : Int) = 0 := by omega
      have HR1 : Hid (R = decide (kid ≤ own)) := by show R = _; rw [HR.out, ardL, if_pos rfl, if_neg hi0]
      go_wp2_with fail
      go_ret
      exact ⟨ret_b HR1.out.symm, hB⟩
  · have HR1 : Hid (R = decide (kid < 6)) := by show R = _; rw [HR.out, ardL, if_neg (by decide), if_pos rfl]
    go_wp2_with fail
    go_ret
    exact ⟨ret_b HR1.out.symm, hB⟩
  · have HR1 : Hid (R = (decide (i = 0) && decide (kid < 7))) := by show R = _; rw [HR.out, ardL, if_neg (by decide), if_neg (by decide), if_pos rfl]
    by_cases hi0 : i = 0
    · have hi1 : (i : Int) = 0 := by omega
      go_wp2_with fail
      go_ret
      exact ⟨ret_b (by rw [HR1.out]; simp [hi0]), hB⟩
    · have hi1 : ¬ (i : Int) = 0 := by omega
      have hi2 : ((i : Int) == 0) = false := by simpa using hi1
      go_wp2_with fail
      go_ret
      exact ⟨ret_b (by rw [HR1.out]; simp [hi0]), hB⟩
  · have HR1 : Hid (R = false) := by show R = _; rw [HR.out, ardL, if_neg h1, if_neg h2, if_neg h3]
    go_wp2_with fail
    go_ret
    exact ⟨ret_b HR1.out.symm, hB⟩
end Go.Proofs.YtchobeakieljpaaGreatDoor
namespace Go.Proofs.YtchobeakieljpaaGreatDoor
open Go.ChangeShapes Go.WideShapes Go.ChangeAt Go.RowKit

theorem ret_s {a b : ByteArray} (h : a = b) : Ending.returned (.string a) = .returned (.string b) := by rw [h]
theorem OwnB.one (w : World) (B : Nat) (c : UInt8) (hB : B ≤ w.heap.size) : OwnB (w.alloc (.cells #[.int .u8 (c.toNat : Int)] 5)) B (.slice (some ⟨w.heap.size, 0, none⟩) 1 1) 1 [c] := by
  refine ⟨rfl, rfl, .inr ⟨w.heap.size, 1, #[.int .u8 (c.toNat : Int)], rfl, hB, heap_alloc_last w _, by omega, ?_, rfl, rfl⟩⟩
  decide
theorem tabs_succ (i : Nat) : tabs (i + 1) = tabs i ++ [9] := by
  unfold tabs
  rw [List.replicate_succ']
  rfl
structure LineR (w w' : World) (o : Nat) (e : Ending) : Prop where
  out : ∃ a c, e = .returned (.slice a (o + 1) c) ∧ OwnB w' w.heap.size (.slice a (o + 1) c) (o + 1) (tabs o)
  bel : Below w.heap.size w w'
set_option maxRecDepth 10000 in
set_option maxHeartbeats 2000000 in
theorem rLine_any (w : World) (o : Nat) (ho : o ≤ 100000000) : Calls Tryz.prog 40 #[.int .i64 o] w fun e w' => LineR w w' o e := by
  go_enter Tryz.func40, Tryz.ntmps40
  go_wp2_with fail
  have HO0 : OwnB (w.alloc (.cells #[.int .u8 10] 5)) w.heap.size (.slice (some ⟨w.heap.size, 0, none⟩) 1 1) 1 (tabs 0) := OwnB.one w w.heap.size 10 (Nat.le_refl _)
  have hb0 : Below w.heap.size w (w.alloc (.cells #[.int .u8 10] 5)) := (Below.refl _ _).alloc (Nat.le_refl _) _
  generalize w.alloc (.cells #[.int .u8 10] 5) = w0 at *
  go_loopw [3, 4] (fun v k wr => ∃ i : Nat, i ≤ o ∧ k = .int .i64 i ∧ OwnB wr w.heap.size v (i + 1) (tabs i) ∧ Below w.heap.size w wr) (fun _ k _ => o - (intOf k).toNat)
  case atStart => exact ⟨0, by omega, rfl, HO0, hb0⟩
  case round =>
    obtain ⟨i, hi, rfl, HO, hb⟩ := hrel
    have hs := hb.size
    obtain ⟨va, vc, rfl⟩ := own_slice HO.out
    by_cases hlt : i < o
    · have hA1 : i + 1 + 1 ≤ 1000000000 := by omega
      go_wp2_with (first | (at_builtin; refine wpList_append_byte rfl _ _ rfl w.heap.size _ (i + 1) (tabs i) 9 ?_ HO ?_ hA1 hs ?_; (next => rfl); (next => rfl); intro v5 w5 HO5 hG5))
      have HO6 : OwnB w5 w.heap.size v5 (i + 1 + 1) (tabs (i + 1)) := by rw [tabs_succ]; exact HO5
      have hb5 : Below w.heap.size w w5 := (hb.alloc hs _).grown hG5 (by simp; omega) (fun k hk => (own_block HO.out hk).1)
      go_roundw
      case rel => exact ⟨i + 1, by omega, by go_num, HO6, hb5⟩
      case measure => simp [intOf]; omega
    · obtain rfl : i = o := by omega
      go_wp2_with fail
      go_ret
      exact ⟨⟨va, vc, rfl, HO⟩, hb⟩
theorem OwnB.conv {w B a n c M} (h : OwnB w B (.slice a n c) n M) (q : Nat) : (convert 30 9 (.slice a n c)).run Tryz.prog (w.drewN q) = .ok (.string (bs M)) (w.drewN q) := by
  obtain ⟨ao, cap, e, _, hT⟩ := h.view
  cases e
  exact (hT.drewN q).conv n h.len
theorem OwnB.conv0 {w B a n c M} (h : OwnB w B (.slice a n c) n M) : (convert 30 9 (.slice a n c)).run Tryz.prog w = .ok (.string (bs M)) w := by
  obtain ⟨ao, cap, e, _, hT⟩ := h.view
  cases e
  exact hT.conv n h.len
/-- The digits ahead of m's last one are to come, S stands. -/
structure DcS (n0 m : Nat) (S : List UInt8) : Prop where
  out : dcm n0 = (if m < 10 then [] else dcm (m / 10)) ++ S
  pos : 1 ≤ S.length
  bnd : m * 10 ^ (S.length - 1) ≤ n0
theorem dcm_lt {n : Nat} (h : n < 10) : dcm n = [dg n] := by rw [dcm, dif_pos h]
theorem dcm_ge {n : Nat} (h : ¬ n < 10) : dcm n = dcm (n / 10) ++ [dg (n % 10)] := by rw [dcm, dif_neg h]
theorem DcS.first (n : Nat) : DcS n n [dg (n % 10)] := by
  refine ⟨?_, by simp, by simp⟩
  by_cases h : n < 10
  · rw [if_pos h, dcm_lt h, Nat.mod_eq_of_lt h]; rfl
  · rw [if_neg h, dcm_ge h]
theorem DcS.step {n0 m S} (h : DcS n0 m S) (hm : ¬ m < 10) : DcS n0 (m / 10) (dg (m / 10 % 10) :: S) := by
  refine ⟨?_, by simp, ?_⟩
  · rw [h.out, if_neg hm]
    by_cases h1 : m / 10 < 10
    · rw [if_pos h1, dcm_lt h1, Nat.mod_eq_of_lt h1]; rfl
    · rw [if_neg h1, dcm_ge h1]; simp
  · have h1 := h.bnd
    have h2 := h.pos
    simp only [List.length_cons, Nat.add_sub_cancel]
    have e : 10 ^ S.length = 10 * 10 ^ (S.length - 1) := by
      rw [← Nat.pow_succ', show (S.length - 1).succ = S.length by omega]
    rw [e, ← Nat.mul_assoc]
    refine Nat.le_trans (Nat.mul_le_mul_right _ ?_) h1
    omega
theorem DcS.fin {n0 m S} (h : DcS n0 m S) (hm : m < 10) : dcm n0 = S := by rw [h.out, if_pos hm]; rfl
theorem DcS.len {n0 m S} (h : DcS n0 m S) (hm : ¬ m < 10) (hn : n0 ≤ 9223372036854775807) : S.length ≤ 19 := by
  have h1 := h.bnd
  by_cases hc : S.length ≤ 19
  · exact hc
  · have h2 : 10 ^ 19 ≤ 10 ^ (S.length - 1) := Nat.pow_le_pow_right (by omega) (by omega)
    have h3 : 1 * 10 ^ (S.length - 1) ≤ m * 10 ^ (S.length - 1) := Nat.mul_le_mul_right _ (by omega)
    have h4 : (10 : Nat) ^ 19 = 10000000000000000000 := by decide
    omega
theorem dg_toNat (d : Nat) (h : d < 10) : ((dg d).toNat : Int) = 48 + (d : Int) := by
  unfold dg
  rw [UInt8.toNat_ofNat']
  omega
theorem conv_one (w : World) (c : UInt8) : (convert 30 9 (.slice (some ⟨w.heap.size, 0, none⟩) 1 1)).run Tryz.prog (w.alloc (.cells #[.int .u8 (c.toNat : Int)] 5)) = .ok (.string (bs [c])) (w.alloc (.cells #[.int .u8 (c.toNat : Int)] 5)) := by
  obtain ⟨ao, cap, e, _, hT⟩ := (OwnB.one w w.heap.size c (Nat.le_refl _)).view
  cases e
  exact hT.conv 1 rfl
theorem dg_mod (n : Nat) : ((dg (n % 10)).toNat : Int) = 48 + (n : Int) % 10 := by
  rw [dg_toNat (n % 10) (by omega)]
  omega
set_option maxRecDepth 10000 in
set_option maxHeartbeats 2000000 in
theorem rDecimal_any (w : World) (n : Nat) (hn : n ≤ 9223372036854775807) : Calls Tryz.prog 42 #[.int .i64 n] w fun e w' => e = .returned (.string (bs (dcm n))) ∧ Below w.heap.size w w' := by
  have hcv := conv_one w (dg (n % 10))
  rw [dg_mod] at hcv
  have hb0 : Below w.heap.size w (w.alloc (.cells #[.int .u8 (48 + (n : Int) % 10)] 5)) := (Below.refl _ _).alloc (Nat.le_refl _) _
  have hN : Hid (n ≤ 9223372036854775807) := hn
  have HD0 := DcS.first n
  generalize [dg (n % 10)] = S0 at *
  go_enter Tryz.func42, Tryz.ntmps42
  go_wp2_with fail
  clear hcv
  go_loopw [0, 3] (fun k v wr => ∃ (m : Nat) (S : List UInt8), k = .int .i64 m ∧ v = .string (bs S) ∧ m ≤ n ∧ DcS n m S ∧ Below w.heap.size w wr) (fun k _ _ => (intOf k).toNat)
  case atStart => exact ⟨n, S0, rfl, rfl, Nat.le_refl _, HD0, hb0⟩
  case round =>
    obtain ⟨m, S, rfl, rfl, hmn, HD, hb⟩ := hrel
    have hs := hb.size
    by_cases hlt : m < 10
    · have hE : Hid (dcm n = S) := HD.fin hlt
      go_wp2_with fail
      go_ret
      exact ⟨ret_s (by rw [hE.out]), hb⟩
    · have hl := HD.len hlt hN.out
      have hsz : (bs S).size ≤ 19 := by rw [bs_size]; exact hl
      have HD2 := HD.step hlt
      have hcv := conv_one wr (dg (m / 10 % 10))
      rw [dg_mod] at hcv
      have e10 : ((m / 10 : Nat) : Int) = (m : Int) / 10 := by omega
      rw [e10] at hcv
      have hb2 : Below w.heap.size w (wr.alloc (.cells #[.int .u8 (48 + (m : Int) / 10 % 10)] 5)) := hb.alloc hs _
      have hsg : (bs [dg (m / 10 % 10)]).size = 1 := by rw [bs_size]; rfl
      have HJ : Hid (bs [dg (m / 10 % 10)] ++ bs S = bs (dg (m / 10 % 10) :: S)) := by show _ = _; rw [← bs_app]; rfl
      generalize bs [dg (m / 10 % 10)] = u at *
      clear e10
      go_wp2_with fail
      go_roundw
      case rel => exact ⟨m / 10, _, by go_num, by rw [HJ.out], by omega, HD2, hb2⟩
      case measure => simp [intOf]; omega
end Go.Proofs.YtchobeakieljpaaGreatDoor
