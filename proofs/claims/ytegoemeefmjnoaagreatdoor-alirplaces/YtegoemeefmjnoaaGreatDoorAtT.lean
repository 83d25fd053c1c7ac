import Derived.Test.YtegoemeefmjnoaaGreatDoorAtQ
set_option linter.unusedVariables false
set_option linter.unusedSimpArgs false
namespace Go.Proofs.YtegoemeefmjnoaaGreatDoor
open Go.ChangeShapes Go.WideShapes Go.ChangeAt Go.RowKit Go.Maps

/-- Which registers are saved; what is held then. -/
def svS (bt : Nat → Bool) (i : Nat) : List Int := ((List.range i).filter bt).map fun (j : Nat) => (j : Int)
def svH (bt : Nat → Bool) (H : List Int) : Nat → List Int
  | 0 => H
  | i + 1 => if bt i then svH bt H i else (svH bt H i).set i (-1)
theorem svS_yes {bt : Nat → Bool} {i : Nat} (h : bt i = true) : svS bt (i + 1) = svS bt i ++ [(i : Int)] := by
  unfold svS
  rw [List.range_succ, List.filter_append, List.map_append, List.filter_cons, if_pos h]
  rfl
theorem svS_no {bt : Nat → Bool} {i : Nat} (h : bt i = false) : svS bt (i + 1) = svS bt i := by
  unfold svS
  rw [List.range_succ, List.filter_append, List.map_append, List.filter_cons, if_neg (by rw [h]; decide)]
  simp
theorem svS_mem {bt : Nat → Bool} {n k : Nat} : (k : Int) ∈ svS bt n ↔ k < n ∧ bt k = true := by
  unfold svS
  rw [List.mem_map]
  constructor
  · rintro ⟨j, hj, e⟩
    have : j = k := by omega
    subst this
    simpa using hj
  · intro h
    exact ⟨k, by simpa using h, rfl⟩
theorem svS_in {bt : Nat → Bool} {n : Nat} {x : Int} (h : x ∈ svS bt n) : 0 ≤ x ∧ x < (n : Int) := by
  unfold svS at h
  obtain ⟨j, hj, rfl⟩ := List.mem_map.1 h
  have : j < n := by
    have := (List.mem_filter.1 hj).1
    simpa using this
  omega
theorem svS_len (bt : Nat → Bool) (n : Nat) : (svS bt n).length ≤ n := by
  unfold svS
  rw [List.length_map]
  exact Nat.le_trans (List.length_filter_le _ _) (by simp)
theorem rise_push : ∀ (S : List Int) (m r : Int), rise m S = true → (∀ x ∈ S, x < r) → m ≤ r → r < 8 → rise m (S ++ [r]) = true
  | [], m, r, _, _, h1, h2 => by
    show ((decide (m ≤ r) && decide (r < 8)) && true) = true
    rw [decide_eq_true h1, decide_eq_true h2]
    rfl
  | x :: S, m, r, h, hx, h1, h2 => by
    have h' : ((decide (m ≤ x) && decide (x < 8)) && rise (x + 1) S) = true := h
    show ((decide (m ≤ x) && decide (x < 8)) && rise (x + 1) (S ++ [r])) = true
    rw [Bool.and_eq_true] at h' ⊢
    refine ⟨h'.1, rise_push S (x + 1) r h'.2 (fun y hy => hx y (by simp [hy])) ?_ h2⟩
    have := hx x (by simp)
    omega
theorem svS_rise (bt : Nat → Bool) : ∀ n : Nat, n ≤ 8 → rise 0 (svS bt n) = true
  | 0, _ => rfl
  | n + 1, h => by
    cases e : bt n with
    | true =>
      rw [svS_yes e]
      exact rise_push _ _ _ (svS_rise bt n (by omega)) (fun x hx => (svS_in hx).2) (by omega) (by omega)
    | false =>
      rw [svS_no e]
      exact svS_rise bt n (by omega)
theorem svH_len (bt : Nat → Bool) (H : List Int) : ∀ n, (svH bt H n).length = H.length
  | 0 => rfl
  | n + 1 => by
    unfold svH
    split
    · exact svH_len bt H n
    · rw [List.length_set]
      exact svH_len bt H n
theorem svH_at (bt : Nat → Bool) {H : List Int} (hH : H.length = 16) (k : Nat) : ∀ n : Nat, n ≤ 8 → (svH bt H n).getD k 0 = if k < n ∧ bt k = false then -1 else H.getD k 0
  | 0, _ => by
    rw [if_neg (by omega)]
    rfl
  | n + 1, h => by
    have ih := svH_at bt hH k n (by omega)
    unfold svH
    cases e : bt n with
    | true =>
      rw [if_pos rfl, ih]
      by_cases q : k = n
      · subst q
        rw [if_neg (by omega), if_neg (by rw [e]; intro z; cases z.2)]
      · by_cases q2 : k < n ∧ bt k = false
        · rw [if_pos q2, if_pos ⟨by omega, q2.2⟩]
        · rw [if_neg q2, if_neg (fun z => q2 ⟨by omega, z.2⟩)]
    | false =>
      rw [if_neg (by decide), getD_set (by rw [svH_len, hH]; omega), ih]
      by_cases q : k = n
      · subst q
        rw [if_pos rfl, if_pos ⟨by omega, e⟩]
      · rw [if_neg q]
        by_cases q2 : k < n ∧ bt k = false
        · rw [if_pos q2, if_pos ⟨by omega, q2.2⟩]
        · rw [if_neg q2, if_neg (fun z => q2 ⟨by omega, z.2⟩)]
theorem ext16 {A B : List Int} (hA : A.length = 16) (hB : B.length = 16) (h : ∀ k, k < 16 → A.getD k 0 = B.getD k 0) : A = B := by
  refine List.ext_getElem (by rw [hA, hB]) fun k h1 h2 => ?_
  have := h k (by omega)
  simpa [List.getD, h1, h2] using this
theorem svH_cut (bt : Nat → Bool) {H : List Int} (hH : H.length = 16) : svH bt H 8 = cutH (svS bt 8) H := by
  have hl : (svH bt H 8).length = 16 := by rw [svH_len, hH]
  have hl2 : (cutH (svS bt 8) H).length = 16 := by simp [cutH]
  refine ext16 hl hl2 fun k hk => ?_
  rw [svH_at bt hH k 8 (Nat.le_refl _), cutH_at _ _ hk]
  by_cases q : k < 8 ∧ bt k = false
  · rw [if_pos q, if_pos ⟨q.1, fun z => by rw [svS_mem] at z; rw [q.2] at z; cases z.2⟩]
  · rw [if_neg q, if_neg (fun z => q ⟨z.1, by
      cases e : bt k with
      | false => rfl
      | true => exact absurd (svS_mem.2 ⟨z.1, e⟩) z.2⟩)]
/-- The call while its saves are gathered. -/
structure CaS (wa wr : World) (hb xb : Nat) (v : Value) (N : List Ai) (H : List Int) (u : Value) (S : List Int) : Prop where
  pls : PlS wa wr hb v N H
  sav : ∀ x ∈ N, x.saves = []
  bx : wr.heap[xb]? = some (.cells #[.int .i64 25, .int .i64 0, .int .i64 0, .int .i64 0, .slice none 0 0, u] 29 (0, 0))
  own : OwnI wr (xb + 1) u S.length S
  nil : S = [] → u = .slice none 0 0
  ge : wa.heap.size ≤ xb
  ne : ∀ g, v.ownBlock = some g → g < xb
theorem CaS.setH {wa wr hb xb v N H u S} (h : CaS wa wr hb xb v N H u S) (k : Nat) (x : Int) : CaS wa (wr.setCell ⟨hb, k, none⟩ (.int .i64 x)) hb xb v N (H.set k x) u S := by
  have h1 := h.pls.lt
  have h2 := h.ge
  exact ⟨h.pls.setH k x, h.sav, (heap_set_other (by omega)).trans h.bx, ⟨h.own.len, own_move h.own.out fun b hb' => heap_set_other (by have := (own_block h.own.out hb').1; omega)⟩, h.nil, h.ge, h.ne⟩
theorem CaS.push {wa wr w' hb xb v N H u S} (h : CaS wa wr hb xb v N H u S) {u' : Value} {y : Int} (ho : OwnI w' (xb + 1) u' (S.length + 1) (S ++ [y])) (g : GI (xb + 1) wr w' u u') : w'.cell? ⟨xb, 5, none⟩ = some u ∧ w'.frozen? ⟨xb, 5, none⟩ = false ∧ xb < w'.heap.size ∧ CaS wa (w'.setCell ⟨xb, 5, none⟩ u') hb xb v N H u' (S ++ [y]) := by
  have hxl := (Array.getElem?_eq_some_iff.1 h.bx).1
  have nx : u.ownBlock ≠ some xb := fun q => by have := (own_block h.own.out q).1; omega
  have b1 := (g.blk xb hxl nx).trans h.bx
  have o1 : Only (fun k => u.ownBlock = some k) wr w' := ⟨g.bel.os, g.bel.tape, g.bel.output, g.bel.size, fun k hk hn => g.blk k hk hn⟩
  have hge := h.ge
  have p1 : PlS wa w' hb v N H := h.pls.only h.sav o1 fun k hk hl => by
    have q := own_block h.own.out hk
    refine ⟨by omega, fun z => by have := h.ne k z; omega, ?_⟩
    rcases h.own.out.2 with ⟨e, _⟩ | ⟨g', cap, cur, e1, e2, e3, _⟩
    · rw [e] at hk; cases hk
    · rw [e1] at hk
      cases hk
      exact ⟨cur, _, e3, .inr rfl⟩
  have o2 : Only (fun k => k = xb) w' (w'.setCell ⟨xb, 5, none⟩ u') := Only.of_set w' ⟨xb, 5, none⟩ u'
  have p2 : PlS wa (w'.setCell ⟨xb, 5, none⟩ u') hb v N H := p1.only h.sav o2 fun k hk hl => by
    have e : k = xb := hk
    subst e
    exact ⟨hge, fun z => by have := h.ne k z; omega, _, _, b1, .inl rfl⟩
  refine ⟨cell_arr b1 rfl, fz_of b1, (Array.getElem?_eq_some_iff.1 b1).1, p2, h.sav, heap_set_at b1, ⟨by simp, by rw [List.length_append]; exact own_move ho.out fun b hb' => heap_set_other (by have := (own_block ho.out hb').1; omega)⟩, fun q => by simp at q, h.ge, h.ne⟩
/-- Its saves, as an entry bears them. -/
theorem CaS.svk {wa wr hb xb v N H u S} (h : CaS wa wr hb xb v N H u S) : ∃ sa sc, u = .slice sa S.length sc ∧ SvK wr sa sc S := by
  by_cases q : S = []
  · subst q
    rw [h.nil rfl]
    exact ⟨none, 0, rfl, .inl ⟨rfl, rfl, rfl⟩⟩
  · rcases h.own.out.2 with ⟨_, e⟩ | ⟨g, cap, cur, e1, e2, e3, e4, e5, e6, e7⟩
    · exact absurd (List.length_eq_zero_iff.1 e) q
    · refine ⟨_, _, e1, .inr ⟨g, cur, q, rfl, e4, e5, e3, fun i hi => ?_⟩⟩
      have e8 : cur.toList.take (S.length * 1) = ivs S := e7
      have : (cur.toList.take (S.length * 1))[i]? = some (.int .i64 S[i]) := by rw [e8]; simp [ivs, hi]
      rw [List.getElem?_take, if_pos (by omega)] at this
      simpa using this
end Go.Proofs.YtegoemeefmjnoaaGreatDoor
