import Derived.Test.YtjepkcebfojiaaaDoorTrI
import Derived.Test.YtjepkcebfojiaaaDoorLyC
import Derived.Laws.AppendOwnNone
set_option linter.unusedVariables false
set_option linter.unusedSimpArgs false
namespace Go.Proofs.YtjepkcebfojiaaaDoor
open Go.ChangeShapes Go.WideShapes Go.ChangeAt Go.RowKit

/-- append([]int(nil), l...): a row of its own, in a new block (or nil). -/
theorem wpList_copy_ints {w : World} {ops : Array Oper} {rest : List Oper} {op : Oper} {a : Act} {Q : Exit → Act → World → Prop} (hgd : op.guard = none) (s x : Operand)
    (ho : op.op = .call { callee := .builtin .append, args := #[s, x], argTypes := #[23, 23] })
    (B : Nat) (hs : a.eval s = .slice none 0 0) (ao : Option Addr) (m cap : Nat) (L : List Int) (hx : a.eval x = .slice ao m cap) (hm : m = L.length) (hL : Ints w ao cap L) (hnil : ao = none → cap = 0) (hl : m ≤ 10000000000) (hB : B ≤ w.heap.size)
    (h : ∀ v' w', OwnI w' B v' m L → Below w.heap.size w w' → (∀ g, v'.ownBlock = some g → w.heap.size ≤ g) → wpList Tryd.prog ops Q rest (a.put op.dst v') w') : wpList Tryd.prog ops Q (op :: rest) a w := by
  obtain ⟨i0, hi, hz0, hz1, hz2⟩ := info_parts info3i
  have hcell : ∀ ad, ao = some ad → ∀ j u, (ivs L)[j]? = some u → w.cell? (ad.add j) = some u := by
    intro ad e j u hj
    have hjl : j < L.length := by
      rcases Nat.lt_or_ge j L.length with h | h
      · exact h
      · rw [List.getElem?_eq_none (by simp [ivs]; exact h)] at hj; cases hj
    obtain ⟨b, o, e2, hA⟩ := hL.out (by intro e; simp [e] at hjl)
    rw [e] at e2
    cases e2
    have e3 : (⟨b, o, none⟩ : Addr).add j = ⟨b, o + j, none⟩ := by unfold Addr.add; split <;> simp_all
    rw [e3, hA.cell j hjl]
    simpa [ivs, hjl] using hj
  cases ao with
  | none =>
    have hL0 : L = [] := by
      apply Classical.byContradiction
      intro hn
      obtain ⟨b, o, e, _⟩ := hL.out hn
      cases e
    subst hL0
    have hc := hnil rfl
    subst hc
    simp at hm
    subst hm
    refine wpList_append_own_none hgd s x 23 ho B 3 i0 1 Tryd.underlying23 hi (.slice none 0 0) 0 [] hs (World.ownsRow_nil _ _ _ _) hx ?_
    exact h _ w (OwnI.nil _ _) (Below.refl _ _) (fun g hg => by simp [Value.ownBlock] at hg)
  | some ad =>
    refine wpList_append_own _ hgd s x 23 ho w.heap.size 3 i0 (.int .i64 0) 1 8 Tryd.underlying23 hi hz0 hz1 hz2 rfl (by decide) (.slice none 0 0) 0 [] hs (World.ownsRow_nil _ _ _ _) ad m cap (ivs L) hx (by simp [ivs]; omega) (hcell ad rfl) (ivs_one L) (by unfold maxLen; omega) (by omega) (Nat.le_refl _) ?_
    intro v' w' h1 h2 _
    rw [Nat.zero_add, List.nil_append] at h1
    refine h v' w' ⟨hm, h1.1, h1.2.imp id (fun ⟨g, c, cur, e1, e2, e3⟩ => ⟨g, c, cur, e1, by omega, e3⟩)⟩ ((Below.refl _ _).grown h2 (Nat.le_refl _) (fun k hk => by simp [Value.ownBlock] at hk)) (fun g hg => (own_block h1 hg).1)

def nc (n : Nd) (kv : Value) : List Value := [.int .i64 n.kind, .int .i64 n.at_, .int .i64 n.wh, .int .i64 n.close, .int .i64 n.decl, .int .i64 n.typ, .int .i64 n.op, .int .i64 n.val, .string (bs n.name), kv]
def ncs (P : List (Nd × Value)) : List Value := P.flatMap fun p => nc p.1 p.2
theorem ncs_len (P : List (Nd × Value)) : (ncs P).length = P.length * 10 := by
  induction P with
  | nil => rfl
  | cons p P ih => simp [ncs, nc] at ih ⊢; omega
theorem ncs_app (A C : List (Nd × Value)) : ncs (A ++ C) = ncs A ++ ncs C := by simp [ncs]
theorem ncs_at (P : List (Nd × Value)) : ∀ i (h : i < P.length) (j : Nat), j < 10 → (ncs P)[i * 10 + j]? = (nc P[i].1 P[i].2)[j]? := by
  induction P with
  | nil => intro i h; simp at h
  | cons t ts ih =>
    intro i h j hj
    have e : ncs (t :: ts) = nc t.1 t.2 ++ ncs ts := by simp [ncs]
    rw [e]
    cases i with
    | zero => rw [List.getElem?_append_left (by simp [nc]; omega)]; simp
    | succ i =>
      rw [List.getElem?_append_right (by simp [nc]; omega)]
      have := ih i (by simpa using h) j hj
      rw [show (i + 1) * 10 + j - (nc t.1 t.2).length = i * 10 + j by simp [nc]; omega, this]
      simp
/-- A copied list of nodes: its row, each one's kids in a row of its own, all apart. -/
structure CN (w : World) (B : Nat) (v : Value) (n : Nat) (P : List (Nd × Value)) : Prop where
  len : n = P.length
  own : w.ownsRow B 39 10 v n (ncs P)
  kid : ∀ p ∈ P, OwnI w B p.2 p.1.kids.length p.1.kids
  apt : P.Pairwise fun p q => ∀ g, p.2.ownBlock = some g → q.2.ownBlock ≠ some g
theorem CN.nil (w : World) (B : Nat) : CN w B (.slice none 0 0) 0 [] := ⟨rfl, World.ownsRow_nil _ _ _ _, by simp, .nil⟩
theorem CN.keep {w w' B v n P} (h : CN w B v n P) (hb : Below w.heap.size w w') : CN w' B v n P := ⟨h.len, own_keep h.own hb.block, fun p hp => (h.kid p hp).keep hb, h.apt⟩
structure CM (w : World) (B : Nat) (v : Value) (n : Nat) (P : List (Nd × Value)) : Prop where
  len : n = P.length
  own : w.ownsRow B 39 10 v n (ncs P)
  kid : ∀ p ∈ P, OwnI w B p.2 p.1.kids.length p.1.kids
theorem CN.cm {w B v n P} (h : CN w B v n P) : CM w B v n P := ⟨h.len, h.own, h.kid⟩
theorem CM.nodes {w B v n P} (h : CM w B v n P) : ∃ ao cap, v = .slice ao n cap ∧ Nodes w ao cap (P.map Prod.fst) := by
  have hl := h.len
  rcases h.own.2 with ⟨rfl, hn⟩ | ⟨g, cap, cur, rfl, e2, e3, e4, e5, e6, e7⟩
  · subst hn
    have : P = [] := List.length_eq_zero_iff.1 hl.symm
    subst this
    exact ⟨none, 0, rfl, by simp, by omega, fun h => absurd rfl h⟩
  · have e5' : cap ≤ 9223372036854775807 := e5
    refine ⟨_, cap, rfl, by simp; omega, e5', fun _ => ⟨g, 0, rfl, (Array.getElem?_eq_some_iff.1 e3).1, fun i hi => ?_⟩⟩
    have hi' : i < P.length := by simpa using hi
    obtain ⟨ka, kc, hv, _, _, hI, _⟩ := (h.kid P[i] (List.getElem_mem hi')).view
    have hc : ∀ j, j < 10 → w.cell? ⟨g, 0 + i * 10 + j, none⟩ = (nc P[i].1 P[i].2)[j]? := by
      intro j hj
      have h1 := ncs_at P i hi' j hj
      rw [← e7, List.getElem?_take, if_pos (by omega)] at h1
      have h2 : (nc P[i].1 P[i].2)[j]? = some ((nc P[i].1 P[i].2)[j]'(by simp [nc]; omega)) := List.getElem?_eq_getElem _
      rw [h2] at h1 ⊢
      rw [Nat.zero_add]
      have : cur[i * 10 + j]? = some ((nc P[i].1 P[i].2)[j]'(by simp [nc]; omega)) := by rw [← h1]; simp
      simp [World.cell?, e3, this]
    have e : (P.map Prod.fst)[i] = P[i].1 := by simp
    rw [e]
    have c9 := hc 9 (by omega)
    rw [show (nc P[i].1 P[i].2)[9]? = some P[i].2 from rfl, hv] at c9
    exact ⟨ka, kc, hc 0 (by omega), hc 1 (by omega), hc 2 (by omega), hc 3 (by omega), hc 4 (by omega), hc 5 (by omega), hc 6 (by omega), hc 7 (by omega), hc 8 (by omega), c9, hI⟩
theorem CN.nodes {w B v n P} (h : CN w B v n P) : ∃ ao cap, v = .slice ao n cap ∧ Nodes w ao cap (P.map Prod.fst) := h.cm.nodes
end Go.Proofs.YtjepkcebfojiaaaDoor
