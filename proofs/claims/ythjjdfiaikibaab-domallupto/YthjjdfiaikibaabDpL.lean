import Derived.Test.YthjjdfiaikibaabDpK
set_option linter.unusedVariables false
set_option linter.unusedSimpArgs false
namespace Go.Proofs.Ythjjdfiaikibaab
open Go.ChangeShapes Go.WideShapes Go.ChangeAt Go.RowKit Go.Maps

set_option maxHeartbeats 1000000 in
theorem alike_self (w : World) (a1 a2 : Option Addr) (c1 c2 n : Nat) (L : List Bool) (hn : n = L.length) (h1 : Bls w a1 c1 L) (h2 : Bls w a2 c2 L) :
    Calls Try.prog 9 #[.slice a1 n c1, .slice a2 n c2] w fun e w' => e = .returned (.bool true) ∧ ∃ m, w' = w.drewN m := by
  have b1 : n ≤ 9223372036854775807 := by have := h1.le; have := h1.mx; omega
  have HN : Hid (n = L.length) := hn
  have H1 : Hid (Bls w a1 c1 L) := h1
  have H2 : Hid (Bls w a2 c2 L) := h2
  clear hn h1 h2
  go_enter Try.func9, Try.ntmps9
  go_wp2_with fail
  go_loopg [5] n (fun q v wr => ∃ j : Nat, j ≤ n ∧ q = n - j ∧ v = .int .i64 j ∧ Hid (∃ m, wr = w.drewN m))
  case atStart => exact ⟨0, by omega, by omega, rfl, 0, rfl⟩
  case round =>
    obtain ⟨j, hj, rfl, rfl, HB⟩ := hrel
    by_cases hlt : j < n
    · have hj1 : j < L.length := by have := HN.out; omega
      have hb : Below w.heap.size w wr := by obtain ⟨m, e⟩ := HB.out; rw [e]; exact below_drewN (Below.refl _ _) m
      obtain ⟨g1, o1, rfl, k1⟩ := (H1.out.below hb (Nat.le_refl _)).at hj1
      obtain ⟨g2, o2, rfl, k2⟩ := (H2.out.below hb (Nat.le_refl _)).at hj1
      obtain ⟨x, hx⟩ : ∃ x, x = L[j] := ⟨_, rfl⟩
      rw [← hx] at k1 k2
      have HNX : Hid (∀ q, ∃ m, wr.drewN q = w.drewN m) := fun q => by
        obtain ⟨m, e⟩ := HB.out
        exact ⟨m + q, by rw [e]; simp⟩
      clear hx hb
      cases x
      all_goals
        go_wp2_with fail
        go_quiet (fail)
        go_wp2_with fail
        go_roundg (n - (j + 1))
        case rel => exact ⟨j + 1, by omega, rfl, by go_num, HNX.out _⟩
        case measure => omega
    · go_wp2_with fail
      go_ret
      exact ⟨rfl, HB.out⟩
structure GK (B : Nat) (w0 w' : World) (v v' : Value) : Prop where
  gi : GI B w0 w' v v'
  old : ∀ g, v.ownBlock = some g → (∃ n cap, v = .slice (some ⟨g, 0, none⟩) n cap ∧ v' = .slice (some ⟨g, 0, none⟩) (n + 1) cap) ∨ (w'.heap[g]? = w0.heap[g]? ∧ v'.ownBlock ≠ some g)
theorem gk_of {w0 w' : World} {B : Nat} {ob : Obj} {v v' : Value} {n : Nat} {e s xs} (hown : w0.ownsRow B e s v n xs) (hB : B ≤ w0.heap.size) (h2 : (w0.alloc ob).grownBy w' v.ownBlock) (h3 : Grew (w0.alloc ob) w' v v' n 1) : GK B w0 w' v v' := by
  refine ⟨gi_of hown hB h2 h3, fun g hg => ?_⟩
  rcases h3.out with ⟨g', cap, e1, e2⟩ | ⟨h5, h4⟩
  · subst e1 e2; cases hg; exact .inl ⟨n, cap, rfl, rfl⟩
  · right
    have hl := (own_block hown hg).2
    refine ⟨by rw [grown_at h4 (by simp; omega) (by simp), heap_alloc_old _ _ hl], fun q => ?_⟩
    rw [h5] at q; cases q; simp at hl; omega
theorem wpList_append_boolK {w0 : World} {ops : Array Oper} {rest : List Oper} {op : Oper} {a : Act} {Q : Exit → Act → World → Prop} (hgd : op.guard = none) (s x : Operand)
    (ho : op.op = .call { callee := .builtin .append, args := #[s, x], argTypes := #[36, 36] })
    (B : Nat) (v : Value) (n : Nat) (L : List Bool) (y : Bool) (hs : a.eval s = v) (hown : OwnBl w0 B v n L) (hx : a.eval x = .slice (some ⟨w0.heap.size, 0, none⟩) 1 1)
    (hl : n + 1 ≤ 17592186044416) (hB : B ≤ w0.heap.size)
    (h : ∀ v' w', OwnBl w' B v' (n + 1) (L ++ [y]) → GK B w0 w' v v' → wpList Try.prog ops Q rest (a.put op.dst v') w') : wpList Try.prog ops Q (op :: rest) a (w0.alloc (.cells #[.bool y] 4)) := by
  obtain ⟨i0, hi, hz0, hz1, hz2⟩ := info_parts infoBool
  refine wpList_append_where hgd s x 36 ho B 4 i0 (.bool false) 1 1 Try.underlying36 hi hz0 hz1 hz2 rfl (by decide) v n (L.map Value.bool) hs (hown.out.alloc _) ⟨w0.heap.size, 0, none⟩ 1 1 (by omega) [.bool y] hx rfl (cell_one_newI _ _ _) (fun u hu => by simp at hu; subst hu; rfl) (by unfold maxLen; omega) (by omega) (by simp; omega) ?_
  intro v' w' h1 h2 h3
  exact h v' w' ⟨by simp; exact hown.len, by simpa using h1⟩ (gk_of hown.out hB h2 h3)
/-- A list of bools that is full of one, in a row that is told so. -/
structure FarB (w : World) (B : Nat) (col : Nat → Option (Value × Nat)) (v : Value) (n : Nat) (y : Bool) : Prop where
  own : OwnBl w B v n (List.replicate n y)
  col : ∀ g, v.ownBlock = some g → col g = some (.bool y, n)
theorem FarB.el {w B col v n y} (h : FarB w B col v n y) : El col v (.bool y) := by
  obtain ⟨a, c, e, h1, h2⟩ := own_slice h.own.out
  refine ⟨a, n, c, e, h1, h2, fun hp => ?_⟩
  obtain ⟨g, c', e', _, _, _, _⟩ := own_some h.own.out hp
  rw [e] at e'
  cases e'
  exact ⟨g, n, rfl, h.col g (by rw [e]; rfl), Nat.le_refl _⟩
theorem FarB.move {w w' : World} {B col v n y} (h : FarB w B col v n y) (hk : ∀ g, (col g).isSome = true → w'.heap[g]? = w.heap[g]?) : FarB w' B col v n y :=
  ⟨⟨h.own.len, own_move h.own.out fun g hg => hk g (by rw [h.col g hg]; rfl)⟩, h.col⟩
theorem FarB.more {w w' : World} {B col v v' n y} (h : FarB w B col v n y) (c : Col w B 4 col) (h6 : OwnBl w' B v' (n + 1) (List.replicate n y ++ [y])) (g6 : GK B w w' v v') :
    ∃ col', ColLe col col' ∧ Col w' B 4 col' ∧ FarB w' B col' v' (n + 1) y ∧ ∀ g, (col' g).isSome = true → (col g).isSome = true ∨ w.heap.size ≤ g := by
  have hrep : List.replicate n y ++ [y] = List.replicate (n + 1) y := by rw [List.replicate_succ']
  rw [hrep] at h6
  obtain ⟨g', c', e', _, _, hB', hl'⟩ := own_some h6.out (by omega)
  subst e'
  have hnew : (Value.slice (some ⟨g', 0, none⟩) (n + 1) c').ownBlock = some g' := rfl
  have hcell : ∀ i, i < n + 1 → w'.cell? ⟨g', i, none⟩ = some (.bool y) := fun i hi => by
    rw [own_cell h6.out i (by omega)]
    simp [hi]
  have hty : ∃ A, w'.heap[g']? = some (.cells A 4 (0, 0)) := by
    rcases h6.out.2 with ⟨q, _⟩ | ⟨g2, cap, cur, q, _, q3, _⟩
    · cases q
    · cases q; exact ⟨cur, q3⟩
  have hother : ∀ g x M, col g = some (x, M) → g ≠ g' → w'.heap[g]? = w.heap[g]? := fun g x M hc hne => by
    obtain ⟨c1, c2, _, _⟩ := c.cells g x M hc
    by_cases hv : v.ownBlock = some g
    · rcases g6.old g hv with ⟨_, _, _, q⟩ | ⟨q, _⟩
      · cases q; exact absurd rfl hne
      · exact q
    · exact g6.gi.blk g c2 hv
  have hval : ∀ x M, col g' = some (x, M) → x = .bool y ∧ M ≤ n + 1 := fun x M hc => by
    rcases g6.gi.own g' hnew with q | q
    · have := h.col g' q
      rw [hc] at this
      cases this
      exact ⟨rfl, by omega⟩
    · have := (c.cells g' x M hc).2.1; omega
  refine ⟨fun k => if k = g' then some (.bool y, n + 1) else col k, fun g x M hc => ?_, ⟨fun g x M hc => ?_⟩, ⟨h6, fun g hg => ?_⟩, fun g hg => ?_⟩
  · by_cases e : g = g'
    · subst e
      obtain ⟨rfl, q2⟩ := hval x M hc
      exact ⟨n + 1, by simp, q2⟩
    · exact ⟨M, by simp [e, hc], Nat.le_refl _⟩
  · by_cases e : g = g'
    · subst e
      simp only [if_true, Option.some.injEq, Prod.mk.injEq] at hc
      obtain ⟨rfl, rfl⟩ := hc
      exact ⟨hB', hl', hty, hcell⟩
    · simp only [if_neg e] at hc
      obtain ⟨c1, c2, ⟨A, c3⟩, c4⟩ := c.cells g x M hc
      have hh := hother g x M hc e
      have hA := hh.trans c3
      refine ⟨c1, (Array.getElem?_eq_some_iff.1 hA).1, ⟨A, hA⟩, fun i hi => ?_⟩
      rw [← c4 i hi]
      simp only [World.cell?, hA, c3]
  · rw [hnew] at hg; cases hg; simp
  · by_cases e : g = g'
    · subst e
      rcases g6.gi.own g hnew with q | q
      · left; rw [h.col g q]; rfl
      · exact .inr q
    · simp only [if_neg e] at hg; exact .inl hg
/-- The front of a list of bools. -/
theorem OwnBl.front {w B g m c k L} (h : OwnBl w B (.slice (some ⟨g, 0, none⟩) m c) m L) (hk : k ≤ m) : OwnBl w B (.slice (some ⟨g, 0, none⟩) k c) k (L.take k) := by
  have hl := h.len
  refine ⟨by simp; omega, by simp; omega, .inr ?_⟩
  rcases h.out.2 with ⟨q, _⟩ | ⟨g2, cap, cur, q, q1, q2, q3, q4, q5, q6⟩
  · cases q
  · cases q
    refine ⟨g, c, cur, rfl, q1, q2, by omega, q4, q5, ?_⟩
    simp only [Nat.mul_one] at q6 ⊢
    rw [List.map_take, ← q6, List.take_take, Nat.min_eq_left hk]
end Go.Proofs.Ythjjdfiaikibaab
