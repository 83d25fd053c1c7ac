import Derived.Test.YtplpgeocidllfaaOrX
set_option linter.unusedVariables false
set_option linter.unusedSimpArgs false
namespace Go.Proofs.Ytplpgeocidllfaa
open Go.ChangeShapes Go.WideShapes Go.ChangeAt Go.RowKit Go.Maps

/-- Many lists of lists. -/
structure III (w : World) (ao : Option Addr) (cap : Nat) (Ms : List (List (List Int))) : Prop where
  le : Ms.length ≤ cap
  mx : cap ≤ 9223372036854775807
  out : Ms ≠ [] → ∃ b o, ao = some ⟨b, o, none⟩ ∧ b < w.heap.size ∧ ∀ i (h : i < Ms.length), ∃ a' c', w.cell? ⟨b, o + i, none⟩ = some (.slice a' Ms[i].length c') ∧ IRow w a' c' Ms[i] ∧ RZ w a' Ms[i].length ∧ (∀ l ∈ Ms[i], l.length ≤ 17592186043904) ∧ Ms[i].length ≤ 17592186043904
theorem III.at {w ao cap Ms} (h : III w ao cap Ms) {i : Nat} (hi : i < Ms.length) : ∃ b o a' c', ao = some ⟨b, o, none⟩ ∧ b < w.heap.size ∧ w.cell? ⟨b, o + i, none⟩ = some (.slice a' Ms[i].length c') ∧ IRow w a' c' Ms[i] ∧ RZ w a' Ms[i].length ∧ (∀ l ∈ Ms[i], l.length ≤ 17592186043904) ∧ Ms[i].length ≤ 17592186043904 := by
  obtain ⟨b, o, e, hb, hA⟩ := h.out (by intro e; rw [e] at hi; simp at hi)
  obtain ⟨a', c', h1⟩ := hA i hi
  exact ⟨b, o, a', c', e, hb, h1⟩
/-- What is kept: the lines, and their twins. -/
structure KS (w wr : World) (B : Nat) (kv tv : Value) (kvs tvs : List Value) (Rs : List (List Int)) : Prop where
  k : OwnV wr B kv kvs
  t : OwnV wr B tv tvs
  kl : kvs.length = Rs.length
  tl : tvs.length = Rs.length
  kr : ∀ i, i < Rs.length → OwnI wr B (kvs.getD i (.slice none 0 0)) (Rs.getD i []).length (Rs.getD i [])
  tr : ∀ i, i < Rs.length → OwnI wr B (tvs.getD i (.slice none 0 0)) (Rs.getD i []).length (Rs.getD i [])
  ap : ∀ i j, i < Rs.length → j < Rs.length → i ≠ j → ∀ g, (kvs.getD i (.slice none 0 0)).ownBlock = some g → (kvs.getD j (.slice none 0 0)).ownBlock ≠ some g
  kt : ∀ b, kv.ownBlock = some b → tv.ownBlock ≠ some b
  sz : ∀ R ∈ Rs, R.length ≤ 300
  bel : Below B w wr
theorem getD_app2 {α : Type} {l : List α} {x y d : α} {i : Nat} (h : i < l.length) : (l ++ [x, y]).getD i d = l.getD i d := by
  rw [List.getD, List.getD, List.getElem?_append_left h]
theorem getD_new0 {α : Type} {l : List α} {x y d : α} : (l ++ [x, y]).getD l.length d = x := by simp [List.getD]
theorem getD_new1 {α : Type} {l : List α} {x y d : α} : (l ++ [x, y]).getD (l.length + 1) d = y := by
  rw [List.getD, List.getElem?_append_right (by omega)]; simp
theorem KS.nil (w : World) : KS w w w.heap.size (.slice none 0 0) (.slice none 0 0) [] [] [] :=
  ⟨OwnV.nil _ _, OwnV.nil _ _, rfl, rfl, fun i h => by simp at h, fun i h => by simp at h, fun i j h => by simp at h, fun b h => by simp [Value.ownBlock] at h, fun R h => by simp at h, Below.refl _ _⟩
theorem KS.keep {w wr w' : World} {B kv tv kvs tvs Rs} (h : KS w wr B kv tv kvs tvs Rs) (hB : B ≤ wr.heap.size) (hb : Below wr.heap.size wr w') : KS w w' B kv tv kvs tvs Rs :=
  ⟨h.k.keep hb, h.t.keep hb, h.kl, h.tl, fun i hi => (h.kr i hi).keep hb, fun i hi => (h.tr i hi).keep hb, h.ap, h.kt, h.sz, h.bel.trans (hb.mono hB)⟩
/-- Two more lines, and their twins. -/
theorem KS.more {w wr w3 w4 w5 w6 w7 : World} {B kv tv kv' tv' kvs tvs Rs va vb ta tb} {P Q : List Int} (h : KS w wr B kv tv kvs tvs Rs) (hB : B ≤ wr.heap.size) (h3 : Below wr.heap.size wr w3) (oa : OwnI w3 wr.heap.size va P.length P) (ob : OwnI w3 wr.heap.size vb Q.length Q) (hab : ∀ g, va.ownBlock = some g → vb.ownBlock ≠ some g) (hP : P.length ≤ 300) (hQ : Q.length ≤ 300)
    (h4 : OwnV w4 B kv' (kvs ++ [va, vb])) (g4 : GI B w3 w4 kv kv') (b5 : Below w4.heap.size w4 w5) (oc : OwnI w5 w4.heap.size ta P.length P) (b6 : Below w5.heap.size w5 w6) (od : OwnI w6 w5.heap.size tb Q.length Q) (h7 : OwnV w7 B tv' (tvs ++ [ta, tb])) (g7 : GI B w6 w7 tv tv') :
    KS w w7 B kv' tv' (kvs ++ [va, vb]) (tvs ++ [ta, tb]) (Rs ++ [P, Q]) := by
  have q3 := h.keep hB h3
  have s3 := h3.size
  have s4 := g4.size
  have s5 := b5.size
  have s6 := b6.size
  have t4 : OwnV w4 B tv tvs := q3.t.gi g4 fun b hb e => h.kt b e hb
  have b46 : Below w4.heap.size w4 w6 := b5.trans (b6.mono s5)
  have t6 := t4.keep b46
  have k6 := h4.keep b46
  have kt4 : ∀ b, kv'.ownBlock = some b → tv.ownBlock ≠ some b := fun b hb e => by
    rcases g4.own b hb with q | q
    · exact h.kt b q e
    · have := (own_block q3.t.out e).2; omega
  -- a row of numbers goes on through all
  have mv : ∀ {u n L B'}, OwnI w3 B' u n L → OwnI w7 B' u n L := fun {u n L B'} o => by
    have o4 := o.gi g4 (o.apV q3.k)
    have o6 := o4.keep b46
    exact o6.gi g7 (o6.apV t6)
  have mt : ∀ {u n L B'}, OwnI w6 B' u n L → OwnI w7 B' u n L := fun {u n L B'} o => o.gi g7 (o.apV t6)
  refine ⟨k6.gi g7 fun b hb e => kt4 b hb e, h7, by simp [h.kl], by simp [h.tl], fun i hi => ?_, fun i hi => ?_, fun i j hi hj hne => ?_, fun b hb e => ?_, fun R hR => ?_, q3.bel.trans (g4.bel.trans ((b46.mono (by omega)).trans g7.bel))⟩
  · have hk := h.kl
    by_cases e : i < Rs.length
    · rw [getD_app2 (by omega), getD_app2 e]; exact mv (q3.kr i e)
    · by_cases e2 : i = Rs.length
      · subst e2
        rw [getD_new0, ← h.kl, getD_new0]; exact mv (oa.mono hB)
      · have e3 : i = Rs.length + 1 := by simp at hi; omega
        subst e3
        rw [getD_new1, ← h.kl, getD_new1]; exact mv (ob.mono hB)
  · have hk := h.tl
    by_cases e : i < Rs.length
    · rw [getD_app2 (by omega), getD_app2 e]; exact mv (q3.tr i e)
    · by_cases e2 : i = Rs.length
      · subst e2
        rw [getD_new0, ← h.tl, getD_new0]; exact mt ((oc.mono (by omega)).keep b6)
      · have e3 : i = Rs.length + 1 := by simp at hi; omega
        subst e3
        rw [getD_new1, ← h.tl, getD_new1]; exact mt (od.mono (by omega))
  · have hk := h.kl
    have old : ∀ i, i < Rs.length → ∀ g, (kvs.getD i (.slice none 0 0)).ownBlock = some g → g < wr.heap.size := fun i hi g hg => (own_block (h.kr i hi).out hg).2
    have na : ∀ g, va.ownBlock = some g → wr.heap.size ≤ g := fun g hg => (own_block oa.out hg).1
    have nb : ∀ g, vb.ownBlock = some g → wr.heap.size ≤ g := fun g hg => (own_block ob.out hg).1
    have cases3 : ∀ i, i < (Rs ++ [P, Q]).length → (i < Rs.length ∧ (kvs ++ [va, vb]).getD i (.slice none 0 0) = kvs.getD i (.slice none 0 0)) ∨ (i = Rs.length ∧ (kvs ++ [va, vb]).getD i (.slice none 0 0) = va) ∨ (i = Rs.length + 1 ∧ (kvs ++ [va, vb]).getD i (.slice none 0 0) = vb) := fun i hi => by
      by_cases e : i < Rs.length
      · exact .inl ⟨e, getD_app2 (by omega)⟩
      · by_cases e2 : i = Rs.length
        · exact .inr (.inl ⟨e2, by rw [e2, ← h.kl]; exact getD_new0⟩)
        · have e3 : i = Rs.length + 1 := by simp at hi; omega
          exact .inr (.inr ⟨e3, by rw [e3, ← h.kl]; exact getD_new1⟩)
    intro g hg hg2
    rcases cases3 i hi with ⟨i1, i2⟩ | ⟨i1, i2⟩ | ⟨i1, i2⟩ <;> rcases cases3 j hj with ⟨j1, j2⟩ | ⟨j1, j2⟩ | ⟨j1, j2⟩ <;> rw [i2] at hg <;> rw [j2] at hg2
    · exact h.ap i j i1 j1 hne g hg hg2
    · have := old i i1 g hg; have := na g hg2; omega
    · have := old i i1 g hg; have := nb g hg2; omega
    · have := old j j1 g hg2; have := na g hg; omega
    · omega
    · exact hab g hg hg2
    · have := old j j1 g hg2; have := nb g hg; omega
    · exact hab g hg2 hg
    · omega
  · rcases g7.own b e with q | q
    · exact kt4 b hb q
    · have := (own_block k6.out hb).2; omega
  · simp only [List.mem_append, List.mem_cons, List.not_mem_nil, or_false] at hR
    rcases hR with hR | rfl | rfl
    · exact h.sz R hR
    · exact hP
    · exact hQ
/-- A list whose first k are turned. -/
def rvk (L : List Int) (k : Nat) : List Int := (List.range L.length).map fun q => if q < k then L.getD (L.length - 1 - q) 0 else L.getD q 0
theorem rvk_len (L : List Int) (k : Nat) : (rvk L k).length = L.length := by simp [rvk]
theorem rvk_zero (L : List Int) : rvk L 0 = L := by
  refine List.ext_getElem (rvk_len _ _) fun i h1 h2 => ?_
  simp [rvk, h2]
theorem rvk_end (L : List Int) : rvk L L.length = L.reverse := by
  refine List.ext_getElem (by simp [rvk]) fun i h1 h2 => ?_
  have hi : i < L.length := by simpa [rvk] using h1
  simp only [rvk, List.getElem_map, List.getElem_range, List.getElem_reverse]
  rw [if_pos hi, List.getD, List.getElem?_eq_getElem (by omega)]; rfl
theorem rvk_step {L : List Int} {k : Nat} (h : k < L.length) : (rvk L k).set k (L.getD (L.length - 1 - k) 0) = rvk L (k + 1) := by
  refine List.ext_getElem (by simp [rvk]) fun i h1 h2 => ?_
  rw [List.getElem_set]
  simp only [rvk, List.getElem_map, List.getElem_range]
  by_cases e : k = i
  · subst e
    rw [if_pos rfl, if_pos (by omega)]
  · rw [if_neg e]
    by_cases e3 : i < k
    · rw [if_pos e3, if_pos (by omega)]
    · rw [if_neg e3, if_neg (by omega)]
theorem ltv_same {gs cs : List Nat} {Ls Xs : List (List Int)} (hl : Xs.length = Ls.length) (h : ∀ i, i < Ls.length → (Xs.getD i []).length = (Ls.getD i []).length) : ltv gs cs Xs = ltv gs cs Ls := by
  unfold ltv
  rw [hl]
  refine List.map_congr_left fun i hi => ?_
  rw [h i (by simpa using hi)]
theorem LT.set {w : World} {B gs cs Xs} (h : LT w B gs cs Xs) {j k : Nat} (hj : j < Xs.length) (hk : k < (Xs.getD j []).length) (y : Int) : LT (w.setCell ⟨gs.getD j 0, k, none⟩ (.int .i64 y)) B gs cs (Xs.set j ((Xs.getD j []).set k y)) := by
  have hg : ∀ i, (Xs.set j ((Xs.getD j []).set k y)).getD i [] = if i = j then (Xs.getD j []).set k y else Xs.getD i [] := fun i => by
    by_cases e : i = j
    · subst e
      rw [if_pos rfl, List.getD, List.getElem?_set_self hj]; rfl
    · rw [if_neg e, List.getD, List.getElem?_set_ne (Ne.symm e), List.getD]
  refine ⟨by simpa using h.lg, by simpa using h.lc, fun i hi => ?_, by simpa using h.nd⟩
  have hi' : i < Xs.length := by simpa using hi
  rw [hg i]
  by_cases e : i = j
  · subst e
    rw [if_pos rfl]
    have hr := (h.row i hi').set k (by omega) y
    rw [List.set_append_left _ _ hk] at hr
    simpa using hr
  · rw [if_neg e]
    exact (h.row i hi').set_other fun e2 => by
      have e3 : some (gs.getD i 0) = some (gs.getD j 0) := e2
      exact e (h.nd i j hi' hj (Option.some.inj e3))
end Go.Proofs.Ytplpgeocidllfaa
