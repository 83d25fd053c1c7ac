import Derived.Test.YteiambniddddpaaDoorLxFc
import Derived.Test.YteiambniddddpaaDoorLxN
set_option linter.unusedVariables false
namespace Go.Proofs.YteiambniddddpaaDoor
open Go.ChangeShapes Go.WideShapes Go.ChangeAt Go.RowKit

theorem tcs_one (ts : List T) : ∀ u ∈ tcs ts, u.oneCell' = true := by
  intro u hu
  simp only [tcs, List.mem_flatMap, tc, List.mem_cons, List.not_mem_nil, or_false] at hu
  obtain ⟨t, _, rfl | rfl | rfl | rfl⟩ := hu <;> rfl

/-- append([]Token(nil), l...): a list of its own with the same tokens. -/
theorem wpList_copy_toks {w : World} {ops : Array Oper} {rest : List Oper} {op : Oper} {a : Act} {Q : Exit → Act → World → Prop} (hgd : op.guard = none) (s x : Operand)
    (ho : op.op = .call { callee := .builtin .append, args := #[s, x], argTypes := #[26, 26] })
    (hs : a.eval s = .slice none 0 0) (B : Nat) (v : Value) (ts : List T) (hx : a.eval x = v) (hv : Own w B v ts) (hl : ts.length ≤ 1000000)
    (h : ∀ v' w', Own w' w.heap.size v' ts → Below w.heap.size w w' → wpList Tryd.prog ops Q rest (a.put op.dst v') w') : wpList Tryd.prog ops Q (op :: rest) a w := by
  obtain ⟨i0, hi, hz0, hz1, hz2⟩ := info_parts info33'
  rcases hv.out.2 with ⟨rfl, hn⟩ | ⟨g, cap, cur, rfl, _⟩
  · have : ts = [] := List.length_eq_zero_iff.1 hn
    subst this
    refine wpList_append_own_none hgd s x 26 ho w.heap.size 31 i0 4 Tryd.underlying26 hi _ 0 [] hs (World.ownsRow_nil _ _ _ _) hx ?_
    exact h _ w ⟨World.ownsRow_nil _ _ _ _⟩ (Below.refl _ _)
  · refine wpList_append_own _ hgd s x 26 ho w.heap.size 31 i0 _ 4 40 Tryd.underlying26 hi hz0 hz1 hz2 rfl (by decide) _ 0 [] hs (World.ownsRow_nil _ _ _ _) ⟨g, 0, none⟩ ts.length cap (tcs ts) hx (tcs_len ts) (hv.out.cells rfl) (tcs_one ts) (by unfold maxLen; omega) (by omega) (Nat.le_refl _) ?_
    intro v' w' h1 h2 _
    rw [Nat.zero_add, List.nil_append] at h1
    exact h v' w' ⟨h1⟩ ((Below.refl _ _).grown h2 (Nat.le_refl _) (fun k hk => by cases hk))

theorem map_snoc {A A' : Nat → Option Addr} {C C' N N' : Nat → Nat} {m : Nat} {a : Option Addr} {n c : Nat} (hA : A' = fun k => if k = m then a else A k) (hC : C' = fun k => if k = m then c else C k) (hN : N' = fun k => if k = m then n else N k) :
    (List.range (m + 1)).map (fun k => Value.slice (A' k) (N' k) (C' k)) = (List.range m).map (fun k => Value.slice (A k) (N k) (C k)) ++ [.slice a n c] := by
  subst hA hC hN
  rw [List.range_succ, List.map_append]
  congr 1
  · apply List.map_congr_left
    intro k hk
    have : k ≠ m := by have := List.mem_range.1 hk; omega
    simp [this]
  · simp

theorem Own.base {w B B' v ts} (h : Own w B' v ts) (hB : B ≤ B') : Own w B v ts := by
  refine ⟨h.out.1, h.out.2.imp id ?_⟩
  rintro ⟨g, cap, cur, e1, e2, e3⟩
  exact ⟨g, cap, cur, e1, by omega, e3⟩

/-- A family and one list more. -/
theorem Fam.snoc {w B m A C N X} (h : Fam w B m A C N X) {a : Option Addr} {n c : Nat} {Y : List T} (hn : n = Y.length) (hY : Own w B (.slice a n c) Y) :
    Fam w B (m + 1) (fun k => if k = m then a else A k) (fun k => if k = m then c else C k) (fun k => if k = m then n else N k) (fun k => if k = m then Y else X k) := by
  refine ⟨fun k hk => ?_, fun k hk => ?_⟩
  · by_cases e : k = m
    · simp [e, hn]
    · simp only [e, if_false]; exact h.len k (by omega)
  · by_cases e : k = m
    · simp only [e, if_true]; exact hY
    · simp only [e, if_false]; exact h.own k (by omega)
theorem Apt.snoc {w B m A C N X} (h : Apt m A) (hF : Fam w B m A C N X) {a : Option Addr} (ha : ∀ g, blk a = some g → w.heap.size ≤ g) : Apt (m + 1) (fun k => if k = m then a else A k) := by
  refine ⟨fun k l hk hl hne g h1 h2 => ?_⟩
  by_cases ek : k = m
  · have el : l ≠ m := by omega
    simp only [ek, if_true] at h1
    simp only [el, if_false] at h2
    have := ha g h1
    have := (own_block (hF.own l (by omega)).out (by rw [ob]; exact h2)).2
    omega
  · simp only [ek, if_false] at h1
    by_cases el : l = m
    · simp only [el, if_true] at h2
      have := ha g h2
      have := (own_block (hF.own k (by omega)).out (by rw [ob]; exact h1)).2
      omega
    · simp only [el, if_false] at h2
      exact h.out k l (by omega) (by omega) hne g h1 h2
theorem Fam.grown {w w' B m A C N X} (h : Fam w B m A C N X) {B1 v n xs} (hv : w.ownsRow B1 26 1 v n xs) (hgr : w.grownBy w' v.ownBlock) : Fam w' B m A C N X :=
  ⟨h.len, fun k hk => ⟨own_grown (h.own k hk).out hgr (own_apart (h.own k hk).out hv (by decide))⟩⟩

/-- The lists that were answered so far (m1), and the copies that were taken (m2). -/
structure FS (w wr : World) (v1 v2 : Value) (m1 : Nat) (A : Nat → Option Addr) (C N : Nat → Nat) (X : Nat → List T) (m2 : Nat) (A2 : Nat → Option Addr) (C2 N2 : Nat → Nat) (X2 : Nat → List T) : Prop where
  l1 : Lst wr w.heap.size v1 m1 A C N
  f1 : Fam wr w.heap.size m1 A C N X
  apt : Apt m1 A
  l2 : Lst wr w.heap.size v2 m2 A2 C2 N2
  f2 : Fam wr w.heap.size m2 A2 C2 N2 X2
  two : ∀ g, v1.ownBlock = some g → v2.ownBlock ≠ some g
  bel : Below w.heap.size w wr

theorem FS.keep {w wr wr' v1 v2 m1 A C N X m2 A2 C2 N2 X2} (h : FS w wr v1 v2 m1 A C N X m2 A2 C2 N2 X2) (hb : Below wr.heap.size wr wr') : FS w wr' v1 v2 m1 A C N X m2 A2 C2 N2 X2 :=
  ⟨h.l1.keep hb, h.f1.keep hb, h.apt, h.l2.keep hb, h.f2.keep hb, h.two, h.bel.trans (hb.mono h.bel.size)⟩
theorem FS.nil (w wr : World) (hb : Below w.heap.size w wr) (A C N X) : FS w wr (.slice none 0 0) (.slice none 0 0) 0 A C N X 0 A C N X :=
  ⟨⟨World.ownsRow_nil _ _ _ _⟩, ⟨fun k hk => by omega, fun k hk => by omega⟩, ⟨fun k l hk => by omega⟩, ⟨World.ownsRow_nil _ _ _ _⟩, ⟨fun k hk => by omega, fun k hk => by omega⟩, (fun g hg => by cases hg), hb⟩

theorem FS.push1 {w wr wr' v1 v1' v2 m1 A C N X m2 A2 C2 N2 X2} (h : FS w wr v1 v2 m1 A C N X m2 A2 C2 N2 X2) {a : Option Addr} {n c : Nat} {Y : List T} (hn : n = Y.length) (hY : Own wr w.heap.size (.slice a n c) Y)
    (hA : Apt (m1 + 1) (fun k => if k = m1 then a else A k)) (hgr : wr.grownBy wr' v1.ownBlock) (hG : Grew wr wr' v1 v1' m1 1)
    (hf : wr'.ownsRow w.heap.size 26 1 v1' (m1 + 1) ((List.range m1).map (fun k => Value.slice (A k) (N k) (C k)) ++ [.slice a n c])) :
    FS w wr' v1' v2 (m1 + 1) (fun k => if k = m1 then a else A k) (fun k => if k = m1 then c else C k) (fun k => if k = m1 then n else N k) (fun k => if k = m1 then Y else X k) m2 A2 C2 N2 X2 := by
  refine ⟨⟨by rw [map_snoc rfl rfl rfl]; exact hf⟩, (h.f1.grown h.l1.out hgr).snoc hn ⟨own_grown hY.out hgr (own_apart hY.out h.l1.out (by decide))⟩, hA, ⟨own_grown h.l2.out hgr (fun g hg e => h.two g e hg)⟩, h.f2.grown h.l1.out hgr, fun g hg e => ?_, h.bel.grown hgr h.bel.size (fun k hk => (own_block h.l1.out hk).1)⟩
  cases hG with
  | room g' cap h1 h2 =>
    subst h1 h2
    exact h.two g hg e
  | new h1 h2 =>
    rw [h1] at hg
    cases hg
    have := (own_block h.l2.out e).2
    omega

theorem FS.push2 {w wr wr' v1 v2 v2' m1 A C N X m2 A2 C2 N2 X2} (h : FS w wr v1 v2 m1 A C N X m2 A2 C2 N2 X2) {a : Option Addr} {n c : Nat} {Y : List T} (hn : n = Y.length) (hY : Own wr w.heap.size (.slice a n c) Y)
    (hgr : wr.grownBy wr' v2.ownBlock) (hG : Grew wr wr' v2 v2' m2 1)
    (hf : wr'.ownsRow w.heap.size 26 1 v2' (m2 + 1) ((List.range m2).map (fun k => Value.slice (A2 k) (N2 k) (C2 k)) ++ [.slice a n c])) :
    FS w wr' v1 v2' m1 A C N X (m2 + 1) (fun k => if k = m2 then a else A2 k) (fun k => if k = m2 then c else C2 k) (fun k => if k = m2 then n else N2 k) (fun k => if k = m2 then Y else X2 k) := by
  refine ⟨⟨own_grown h.l1.out hgr (fun g hg e => h.two g hg e)⟩, h.f1.grown h.l2.out hgr, h.apt, ⟨by rw [map_snoc rfl rfl rfl]; exact hf⟩, (h.f2.grown h.l2.out hgr).snoc hn ⟨own_grown hY.out hgr (own_apart hY.out h.l2.out (by decide))⟩, fun g hg e => ?_, h.bel.grown hgr h.bel.size (fun k hk => (own_block h.l2.out hk).1)⟩
  cases hG with
  | room g' cap h1 h2 =>
    subst h1 h2
    exact h.two g hg e
  | new h1 h2 =>
    rw [h1] at e
    cases e
    have := (own_block h.l1.out hg).2
    omega
end Go.Proofs.YteiambniddddpaaDoor
