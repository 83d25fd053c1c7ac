import Derived.Test.YteiambniddddpaaDoorLxJ
set_option linter.unusedVariables false
namespace Go.Proofs.YteiambniddddpaaDoor
open Go.ChangeShapes Go.WideShapes Go.ChangeAt Go.RowKit

def bvs (L : List UInt8) : List Value := L.map fun c => Value.int .u8 (c.toNat : Int)
theorem bvs_len (L : List UInt8) : (bvs L).length = L.length := by simp [bvs]
theorem bvs_at (L : List UInt8) (i : Nat) (h : i < L.length) : (bvs L)[i]? = some (.int .u8 (L[i].toNat : Int)) := by simp [bvs, h]
theorem bvs_one (L : List UInt8) : ∀ u ∈ bvs L, u.oneCell' = true := by
  intro u hu
  simp [bvs] at hu
  obtain ⟨a, _, rfl⟩ := hu
  rfl

theorem At.news {w b o M} (h : At w b o M) : ∀ j u, (bvs M)[j]? = some u → w.cell? ((⟨b, o, none⟩ : Addr).add j) = some u := by
  intro j u hj
  have hl : j < M.length := by
    rcases Nat.lt_or_ge j M.length with h | h
    · exact h
    · rw [List.getElem?_eq_none (by rw [bvs_len]; exact h)] at hj; cases hj
  rw [bvs_at M j hl] at hj
  have e : (⟨b, o, none⟩ : Addr).add j = ⟨b, o + j, none⟩ := by unfold Addr.add; split <;> simp_all
  rw [e, h.2 j hl]
  exact hj
theorem Txt.news {w ad cap L} (h : Txt w (some ad) cap L) : ∀ j u, (bvs L)[j]? = some u → w.cell? (ad.add j) = some u := by
  intro j u hj
  by_cases hn : L = []
  · subst hn; simp [bvs] at hj
  · obtain ⟨b, o, e, hA⟩ := h.2.2 hn
    cases e
    exact hA.news j u hj

theorem info5 : (Tryd.prog.info? 5).map (fun i => (i.zero, i.size, i.bytes)) = some (some (.int .u8 0), 1, 1) := by kernel_rfl

theorem cell_one_new (w : World) (a : Value) (t : TypeId) : ∀ j u, [a][j]? = some u → (w.alloc (.cells #[a] t)).cell? ((⟨w.heap.size, 0, none⟩ : Addr).add j) = some u := by
  intro j u hj
  match j, hj with
  | 0, hj => simp at hj; subst hj; simp [Addr.add]
  | j + 1, hj => simp at hj

/-- A slice of bytes in a row of its own from block B on. -/
structure OwnB (w : World) (B : Nat) (v : Value) (n : Nat) (M : List UInt8) : Prop where
  len : n = M.length
  out : w.ownsRow B 5 1 v n (bvs M)
theorem OwnB.nil (w : World) (B : Nat) : OwnB w B (.slice none 0 0) 0 [] := ⟨rfl, World.ownsRow_nil _ _ _ _⟩
theorem OwnB.keep {w w' B v n M} (h : OwnB w B v n M) (hb : Below w.heap.size w w') : OwnB w' B v n M := ⟨h.len, own_keep h.out hb.block⟩

theorem bvs_append (A B : List UInt8) : bvs (A ++ B) = bvs A ++ bvs B := by simp [bvs]

/-- append(c, x...) of bytes. -/
theorem wpList_append_bytes {w : World} {ops : Array Oper} {rest : List Oper} {op : Oper} {a : Act} {Q : Exit → Act → World → Prop} (hgd : op.guard = none) (s x : Operand)
    (ho : op.op = .call { callee := .builtin .append, args := #[s, x], argTypes := #[23, 23] })
    (B : Nat) (v : Value) (n : Nat) (M : List UInt8) (hs : a.eval s = v) (hown : OwnB w B v n M) (ao : Option Addr) (m cap : Nat) (X : List UInt8) (hx : a.eval x = .slice ao m cap) (hm : m = X.length) (hX : Txt w ao cap X) (hnil : ao = none → cap = 0)
    (hl : n + m ≤ 100000000) (hB : B ≤ w.heap.size)
    (h : ∀ v' w', OwnB w' B v' (n + m) (M ++ X) → Below B w w' → (∀ K, B ≤ K → (∀ g, v.ownBlock = some g → K ≤ g) → K ≤ w.heap.size → Below K w w') → wpList Tryd.prog ops Q rest (a.put op.dst v') w') : wpList Tryd.prog ops Q (op :: rest) a w := by
  subst hm
  obtain ⟨i0, hi, hz0, hz1, hz2⟩ := info_parts info5
  cases ao with
  | none =>
    have hX0 : X = [] := by
      apply Classical.byContradiction
      intro hn
      obtain ⟨b, o, e, _⟩ := hX.2.2 hn
      cases e
    subst hX0
    have hc := hnil rfl
    subst hc
    refine wpList_append_own_none hgd s x 23 ho B 5 i0 1 Tryd.underlying23 hi v n (bvs M) hs hown.out hx ?_
    exact h v w ⟨by simp; exact hown.len, by simpa using hown.out⟩ (Below.refl _ _) (fun K _ _ _ => Below.refl _ _)
  | some ad =>
    refine wpList_append_own _ hgd s x 23 ho B 5 i0 (.int .u8 0) 1 1 Tryd.underlying23 hi hz0 hz1 hz2 rfl (by decide) v n (bvs M) hs hown.out ad X.length cap (bvs X) hx (by rw [bvs_len]; omega) hX.news (bvs_one X) (by unfold maxLen; omega) (by omega) hB ?_
    intro v' w' h1 h2 _
    refine h v' w' ⟨by simp; exact hown.len, by rw [bvs_append]; exact h1⟩ ((Below.refl _ _).grown h2 hB (fun k hk => (own_block hown.out hk).1)) (fun K hK hg hs => (Below.refl _ _).grown h2 hs hg)

/-- The mark behind what is lent. -/
def mk (i : Nat) : Value := .int .u8 (wrap64 (167 + (i : Int)) % 256)

structure Lent (w : World) (B g cap : Nat) (L : List UInt8) : Prop where
  base : B ≤ g
  room : L.length + 40 ≤ cap
  most : cap ≤ 9223372036854775807
  row : ∃ f, w.rowIs g 5 cap f ∧ (∀ i (h : i < L.length), f i = .int .u8 (L[i].toNat : Int)) ∧ (∀ i, L.length ≤ i → i < cap → f i = mk i)


theorem conv_zero (w : World) (p : Option Addr) (c : Nat) : (convert 23 9 (.slice p 0 c)).run Tryd.prog w = .ok (.string (bs [])) w := by
  rw [run_convert_bytes_string (P := Tryd.prog) w 23 9 5 _ 0 c Tryd.underlying23 Tryd.underlying5 Tryd.underlying9]
  cases p with
  | none => simp [Conv.bytesToString]; rfl
  | some a => simp [Conv.bytesToString, loadCells, loadCellsFrom]; rfl
theorem Txt.conv {w ao cap L} (h : Txt w ao cap L) (n : Nat) (hn : n = L.length) : (convert 23 9 (.slice ao n cap)).run Tryd.prog w = .ok (.string (bs L)) w := by
  subst hn
  by_cases hL : L = []
  · subst hL; exact conv_zero w ao cap
  · obtain ⟨b, o, rfl, hA⟩ := h.2.2 hL
    exact hA.conv cap

theorem Lent.at {w B g cap L} (h : Lent w B g cap L) : At w g 0 L := by
  obtain ⟨f, hr, hf, _⟩ := h.row
  refine ⟨hr.lt, fun i hi => ?_⟩
  have := hr.cell (i := i) (by have := h.room; omega)
  rw [Nat.zero_add, this, hf i hi]
theorem Lent.below {w w' B g cap L K} (h : Lent w B g cap L) (hb : Below K w w') (hK : g < K) : Lent w' B g cap L := by
  obtain ⟨f, hr, hf⟩ := h.row
  exact ⟨h.base, h.room, h.most, f, hr.of_block (hb.block g hK), hf⟩
theorem Lent.lt {w B g cap L} (h : Lent w B g cap L) : g < w.heap.size := by
  obtain ⟨f, hr, hf⟩ := h.row
  exact hr.lt
theorem Txt.drewN {w ao cap L} (h : Txt w ao cap L) (q : Nat) : Txt (w.drewN q) ao cap L := h.below (below_drewN (Below.refl w.heap.size w) q) (Nat.le_refl _)

end Go.Proofs.YteiambniddddpaaDoor
