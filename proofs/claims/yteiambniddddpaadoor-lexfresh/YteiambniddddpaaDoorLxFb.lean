import Derived.Test.YteiambniddddpaaDoorLxFa
set_option linter.unusedVariables false
namespace Go.Proofs.YteiambniddddpaaDoor
open Go.ChangeShapes Go.WideShapes Go.ChangeAt Go.RowKit

def blk (a : Option Addr) : Option Nat := a.map Addr.block
theorem ob (a : Option Addr) (n c : Nat) : (Value.slice a n c).ownBlock = blk a := by cases a <;> rfl

/-- A family of token lists: list k lies at A k and holds X k. -/
structure Fam (w : World) (B m : Nat) (A : Nat → Option Addr) (C N : Nat → Nat) (X : Nat → List T) : Prop where
  len : ∀ k, k < m → (X k).length = N k
  own : ∀ k, k < m → Own w B (.slice (A k) (N k) (C k)) (X k)
/-- No two share a block. -/
structure Apt (m : Nat) (A : Nat → Option Addr) : Prop where
  out : ∀ k l, k < m → l < m → k ≠ l → ∀ g, blk (A k) = some g → blk (A l) ≠ some g
/-- The list of the lists. -/
structure Lst (w : World) (B : Nat) (v : Value) (m : Nat) (A : Nat → Option Addr) (C N : Nat → Nat) : Prop where
  out : w.ownsRow B 26 1 v m ((List.range m).map fun k => Value.slice (A k) (N k) (C k))

theorem Lst.view {w B v m A C N} (h : Lst w B v m A C N) : ∃ ao c, v = .slice ao m c ∧ m ≤ c ∧ c ≤ 9223372036854775807 ∧ (0 < m → ∃ b, ao = some ⟨b, 0, none⟩ ∧ B ≤ b ∧ b < w.heap.size ∧ ∀ k, k < m → w.cell? ⟨b, k, none⟩ = some (.slice (A k) (N k) (C k))) := by
  rcases h.out.2 with ⟨rfl, hn⟩ | ⟨g, cap, cur, rfl, e2, e3, e4, e5, e6, e7⟩
  · exact ⟨none, 0, by rw [hn], by omega, by omega, fun h => by omega⟩
  · refine ⟨_, cap, rfl, e4, e5, fun _ => ⟨g, rfl, e2, (Array.getElem?_eq_some_iff.1 e3).1, fun k hk => cell_arr e3 ?_⟩⟩
    have h1 : ((List.range m).map fun k => Value.slice (A k) (N k) (C k))[k]? = some (.slice (A k) (N k) (C k)) := by simp [hk]
    rw [← e7, List.getElem?_take, if_pos (by omega)] at h1
    simpa using h1
theorem Lst.move {w w' B v m A C N} (h : Lst w B v m A C N) (hk : ∀ g, v.ownBlock = some g → w'.heap[g]? = w.heap[g]?) : Lst w' B v m A C N := ⟨own_move h.out hk⟩
theorem Lst.keep {w w' B v m A C N} (h : Lst w B v m A C N) (hb : Below w.heap.size w w') : Lst w' B v m A C N := ⟨own_keep h.out hb.block⟩
theorem Fam.keep {w w' B m A C N X} (h : Fam w B m A C N X) (hb : Below w.heap.size w w') : Fam w' B m A C N X := ⟨h.len, fun k hk => (h.own k hk).keep hb⟩
theorem Fam.at {w B m A C N X} (h : Fam w B m A C N X) {k : Nat} (hk : k < m) (hn : 0 < N k) : ∃ g, A k = some ⟨g, 0, none⟩ ∧ B ≤ g ∧ g < w.heap.size := by
  have hl := h.len k hk
  rcases (h.own k hk).out.2 with ⟨e, e1⟩ | ⟨g, cap, cur, e, e2, e3, _⟩
  · omega
  · exact ⟨g, by simp at e; exact e.1, e2, (Array.getElem?_eq_some_iff.1 e3).1⟩

/-- List i alone is written over. -/
theorem Fam.put {w w' B m A C N X} (h : Fam w B m A C N X) (hA : Apt m A) {i : Nat} (hi : i < m) {Y : List T} (hY : Y.length = N i) (hown : Own w' B (.slice (A i) (N i) (C i)) Y)
    (hg : w.grownBy w' (blk (A i))) : Fam w' B m A C N (fun k => if k = i then Y else X k) := by
  refine ⟨fun k hk => ?_, fun k hk => ?_⟩
  · by_cases e : k = i
    · subst e; simpa using hY
    · simpa [e] using h.len k hk
  · by_cases e : k = i
    · subst e; simpa using hown
    · simp only [e, if_false]
      exact ⟨own_grown (h.own k hk).out hg (fun g hg1 hg2 => hA.out k i hk hi e g (by rw [ob] at hg1; exact hg1) hg2)⟩

def own_ (i j : Nat) : T := ⟨-1 - (i : Int), j, 0, []⟩
def mks (i n : Nat) : List T := (List.range n).map (own_ i)
theorem mks_of {X : List T} {i n : Nat} (hl : X.length = n) (h : ∀ l, l < n → X[l]? = some (own_ i l)) : X = mks i n := by
  apply List.ext_getElem?
  intro l
  by_cases hn : l < n
  · rw [h l hn]; simp [mks, hn]
  · rw [List.getElem?_eq_none (by omega), List.getElem?_eq_none (by simp [mks]; omega)]

structure St (w wr : World) (B : Nat) (v : Value) (m : Nat) (A : Nat → Option Addr) (C N : Nat → Nat) (X : Nat → List T) : Prop where
  lst : Lst wr B v m A C N
  fam : Fam wr B m A C N X
  bel : Below B w wr

structure Marked (i : Nat) (N : Nat → Nat) (X : Nat → List T) : Prop where
  out : ∀ k, k < i → X k = mks k (N k)
structure Marking (i j : Nat) (X : Nat → List T) : Prop where
  out : ∀ l, l < j → (X i)[l]? = some (own_ i l)

theorem St.put {w wr w2 : World} {B m : Nat} {v : Value} {A : Nat → Option Addr} {C N : Nat → Nat} {X : Nat → List T} (h : St w wr B v m A C N X) (hA : Apt m A) (hB : B ≤ w.heap.size) {i n c g : Nat} (hi : i < m) (hn : n = N i) (hc : c = C i) (hg : A i = some ⟨g, 0, none⟩)
    {Y : List T} (hY : Y.length = n) (hown : Own w2 B (.slice (some ⟨g, 0, none⟩) n c) Y) (hgr : wr.grownBy w2 (Value.slice (some ⟨g, 0, none⟩) n c).ownBlock) : St w w2 B v m A C N (fun k => if k = i then Y else X k) := by
  have hb : blk (A i) = some g := by rw [hg]; rfl
  have hob : (Value.slice (some ⟨g, 0, none⟩) n c).ownBlock = blk (A i) := by rw [hb]; rfl
  have hold := h.fam.own i hi
  rw [hob] at hgr
  subst hn hc
  rw [← hg] at hown
  refine ⟨⟨own_grown h.lst.out hgr (fun q hq e => ?_)⟩, h.fam.put hA hi hY hown hgr, h.bel.grown hgr (Nat.le_trans hB h.bel.size) (fun k hk => (own_block hold.out (by rw [ob]; exact hk)).1)⟩
  exact own_apart h.lst.out hold.out (by decide) q hq (by rw [ob]; exact e)
theorem Marked.put {i N X} (h : Marked i N X) {Y : List T} : Marked i N (fun k => if k = i then Y else X k) := ⟨fun k hk => by
  have : k ≠ i := by omega
  simp only [this, if_false]
  exact h.out k hk⟩
theorem Marked.next {i N X} (h : Marked i N X) (hX : X i = mks i (N i)) : Marked (i + 1) N X := ⟨fun k hk => by
  rcases Nat.lt_succ_iff_lt_or_eq.1 hk with h1 | rfl
  · exact h.out k h1
  · exact hX⟩
theorem Marking.put {i j X} (h : Marking i j X) (hj : j < (X i).length) : Marking i (j + 1) (fun k => if k = i then (X i).set j (own_ i j) else X k) := ⟨fun l hl => by
  simp only [if_true]
  rcases Nat.lt_succ_iff_lt_or_eq.1 hl with h1 | rfl
  · rw [List.getElem?_set_ne (by omega)]; exact h.out l h1
  · simp [hj]⟩


def fz (i : Nat) : T := ⟨-1000000 - (i : Int), 0, 0, []⟩

/-- The front of a list, in the same row. -/
theorem own_pre {w B g n c n0} {Y Y0 Z : List T} (h : Own w B (.slice (some ⟨g, 0, none⟩) n c) Y) (hY : Y = Y0 ++ Z) (hn : n0 = Y0.length) : Own w B (.slice (some ⟨g, 0, none⟩) n0 c) Y0 := by
  subst hn hY
  rcases h.out.2 with ⟨e, _⟩ | ⟨g', cap, cur, e, e2, e3, e4, e5, e6, e7⟩
  · cases e
  · cases e
    refine ⟨by rw [tcs_len], .inr ⟨g, c, cur, rfl, e2, e3, by simp at e4; omega, e5, e6, ?_⟩⟩
    have : (cur.toList.take ((Y0 ++ Z).length * 4)).take (Y0.length * 4) = tcs Y0 := by
      rw [e7, show tcs (Y0 ++ Z) = tcs Y0 ++ tcs Z by simp [tcs]]
      rw [← tcs_len]
      exact List.take_left
    rwa [List.take_take, Nat.min_eq_left (by simp; omega)] at this

structure GS (w wr : World) (B B2 : Nat) (v vf : Value) (m i : Nat) (A : Nat → Option Addr) (C N : Nat → Nat) (AF : Nat → Option Addr) (CF : Nat → Nat) : Prop where
  lst : Lst wr B v m A C N
  fam : Fam wr B m A C N (fun k => mks k (N k))
  far : Lst wr B2 vf i AF CF (fun k => N k + 60)
  ff : Fam wr B i AF CF (fun k => N k + 60) (fun k => mks k (N k) ++ List.replicate 60 (fz k))
  apt : ∀ k l, k < i → i ≤ l → l < m → ∀ g, blk (AF k) = some g → blk (A l) ≠ some g
  bel : Below B w wr
  big : B ≤ B2 ∧ B2 ≤ wr.heap.size
  old : ∀ g, v.ownBlock = some g → g < B2

structure GI (G : Value) (m i : Nat) (A : Nat → Option Addr) (C : Nat → Nat) (AF : Nat → Option Addr) : Prop where
  a1 : ∀ k, k < m → k ≠ i → ∀ g, blk (A k) = some g → G.ownBlock ≠ some g
  a2 : ∀ k, k < i → ∀ g, blk (AF k) = some g → G.ownBlock ≠ some g
  a3 : (∃ g n, A i = some ⟨g, 0, none⟩ ∧ G = .slice (some ⟨g, 0, none⟩) n (C i)) ∨ (∀ g, blk (A i) = some g → G.ownBlock ≠ some g)

theorem GS.keep {w wr wr' B B2 v vf m i A C N AF CF} (h : GS w wr B B2 v vf m i A C N AF CF) (hb : Below wr.heap.size wr wr') : GS w wr' B B2 v vf m i A C N AF CF :=
  ⟨h.lst.keep hb, h.fam.keep hb, h.far.keep hb, h.ff.keep hb, h.apt, h.bel.trans (hb.mono (Nat.le_trans h.big.1 h.big.2)), ⟨h.big.1, Nat.le_trans h.big.2 hb.size⟩, h.old⟩

theorem GS.first {w wr B B2 v vf m i A C N AF CF} (h : GS w wr B B2 v vf m i A C N AF CF) (hA : Apt m A) (hi : i < m) : GI (.slice (A i) (N i) (C i)) m i A C AF := by
  refine ⟨fun k hk hne g hg => ?_, fun k hk g hg => ?_, ?_⟩
  · rw [ob]; exact hA.out k i hk hi hne g hg
  · rw [ob]; exact h.apt k i hk (Nat.le_refl _) hi g hg
  · rcases (h.fam.own i hi).out.2 with ⟨e, _⟩ | ⟨g', cap, cur, e, _⟩
    · simp at e
      exact .inr fun g hg => by rw [e.1] at hg; cases hg
    · simp at e
      exact .inl ⟨g', N i, e.1, by rw [e.1]⟩

theorem GS.grow {w wr wr' B B2 v vf m i A C N AF CF} (h : GS w wr B B2 v vf m i A C N AF CF) (hi : i < m) {G G' : Value} {n j : Nat} (hI : GI G m i A C AF) {t : T}
    (hown : Own wr B G (mks i (N i) ++ List.replicate j (fz i))) (hgr : wr.grownBy wr' G.ownBlock) (hG : Grew wr wr' G G' n 1) (hown' : Own wr' B G' (mks i (N i) ++ List.replicate (j + 1) (fz i))) :
    GS w wr' B B2 v vf m i A C N AF CF ∧ GI G' m i A C AF := by
  refine ⟨⟨⟨own_grown h.lst.out hgr (own_apart h.lst.out hown.out (by decide))⟩, ⟨h.fam.len, fun k hk => ?_⟩, ⟨own_grown h.far.out hgr (own_apart h.far.out hown.out (by decide))⟩, ⟨h.ff.len, fun k hk => ⟨own_grown (h.ff.own k hk).out hgr (fun g hg e => hI.a2 k hk g (by rw [ob] at hg; exact hg) e)⟩⟩, h.apt, h.bel.grown hgr (Nat.le_trans h.big.1 h.big.2) (fun k hk => (own_block hown.out hk).1), ⟨h.big.1, Nat.le_trans h.big.2 hgr.size⟩, h.old⟩, ?_⟩
  · by_cases e : k = i
    · subst e
      rcases hI.a3 with ⟨g, n', hg, rfl⟩ | hno
      · cases hG with
        | room g' cap h1 h2 =>
          cases h1
          subst h2
          rw [hg]
          exact own_pre hown' rfl (by simp [mks])
        | new h1 h2 => exact ⟨own_grown (h.fam.own k hk).out h2 (fun _ _ e => by cases e)⟩
      · exact ⟨own_grown (h.fam.own k hk).out hgr (fun g hg e => hno g (by rw [ob] at hg; exact hg) e)⟩
    · exact ⟨own_grown (h.fam.own k hk).out hgr (fun g hg e' => hI.a1 k hk e g (by rw [ob] at hg; exact hg) e')⟩
  · cases hG with
    | room g' cap h1 h2 =>
      have hob : G'.ownBlock = G.ownBlock := by rw [h1, h2]; rfl
      refine ⟨fun k hk hne g hg => by rw [hob]; exact hI.a1 k hk hne g hg, fun k hk g hg => by rw [hob]; exact hI.a2 k hk g hg, ?_⟩
      rcases hI.a3 with ⟨g, n', hg, hG⟩ | hno
      · rw [h1] at hG
        cases hG
        exact .inl ⟨g', _, hg, h2⟩
      · exact .inr fun g hg => by rw [hob]; exact hno g hg
    | new h1 h2 =>
      refine ⟨fun k hk hne g hg e => ?_, fun k hk g hg e => ?_, .inr fun g hg e => ?_⟩
      · have := (own_block (h.fam.own k hk).out (by rw [ob]; exact hg)).2
        rw [h1] at e; cases e; omega
      · have := (own_block (h.ff.own k hk).out (by rw [ob]; exact hg)).2
        rw [h1] at e; cases e; omega
      · have := (own_block (h.fam.own i hi).out (by rw [ob]; exact hg)).2
        rw [h1] at e; cases e; omega

theorem GS.next {w wr wr' B B2 v vf vf' m i A C N AF CF} (h : GS w wr B B2 v vf m i A C N AF CF) (hi : i < m) {aG : Option Addr} {nG cG : Nat} (hn : nG = N i + 60) (hI : GI (.slice aG nG cG) m i A C AF)
    (hown : Own wr B (.slice aG nG cG) (mks i (N i) ++ List.replicate 60 (fz i))) (hgr : wr.grownBy wr' vf.ownBlock)
    (hf : wr'.ownsRow B2 26 1 vf' (i + 1) ((List.range i).map (fun k => Value.slice (AF k) (N k + 60) (CF k)) ++ [.slice aG nG cG])) :
    GS w wr' B B2 v vf' m (i + 1) A C N (fun k => if k = i then aG else AF k) (fun k => if k = i then cG else CF k) := by
  subst hn
  refine ⟨⟨own_grown h.lst.out hgr (fun q hq e => ?_)⟩, ⟨h.fam.len, fun k hk => ⟨own_grown (h.fam.own k hk).out hgr (own_apart (h.fam.own k hk).out h.far.out (by decide))⟩⟩, ⟨?_⟩, ⟨fun k hk => ?_, fun k hk => ?_⟩, fun k l hk hl hlm g hg => ?_, h.bel.grown hgr (Nat.le_trans h.big.1 h.big.2) (fun k hk => Nat.le_trans h.big.1 (own_block h.far.out hk).1), ⟨h.big.1, Nat.le_trans h.big.2 hgr.size⟩, h.old⟩
  · have := h.old q hq
    have := (own_block h.far.out e).1
    omega
  · rw [List.range_succ, List.map_append]
    have e : ((List.range i).map fun k => Value.slice (if k = i then aG else AF k) (N k + 60) (if k = i then cG else CF k)) = (List.range i).map (fun k => Value.slice (AF k) (N k + 60) (CF k)) := by
      apply List.map_congr_left
      intro k hk
      have : k ≠ i := by have := List.mem_range.1 hk; omega
      simp [this]
    rw [e]
    simpa using hf
  · simp [mks]
  · by_cases e : k = i
    · subst e
      simp only [if_true]
      exact ⟨own_grown hown.out hgr (own_apart hown.out h.far.out (by decide))⟩
    · simp only [e, if_false]
      exact ⟨own_grown (h.ff.own k (by omega)).out hgr (own_apart (h.ff.own k (by omega)).out h.far.out (by decide))⟩
  · by_cases e : k = i
    · subst e
      simp only [if_true] at hg
      intro e2
      exact hI.a1 l hlm (by omega) g e2 (by rw [ob]; exact hg)
    · simp only [e, if_false] at hg
      exact h.apt k l (by omega) (by omega) hlm g hg
end Go.Proofs.YteiambniddddpaaDoor
