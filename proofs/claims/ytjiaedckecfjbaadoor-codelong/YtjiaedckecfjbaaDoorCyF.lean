import Derived.Test.YtjiaedckecfjbaaDoorCyC
import Derived.Test.YtjiaedckecfjbaaDoorCyE
set_option linter.unusedVariables false
set_option linter.unusedSimpArgs false
namespace Go.Proofs.YtjiaedckecfjbaaDoor
open Go.ChangeShapes Go.WideShapes Go.ChangeAt Go.RowKit Go.Maps

/-- Numbers in block b from o on. -/
structure AtI (w : World) (b o : Nat) (M : List Int) : Prop where
  lt : b < w.heap.size
  cell : ∀ i (h : i < M.length), w.cell? ⟨b, o + i, none⟩ = some (.int .i64 M[i])
/-- A slice of numbers that holds L. -/
structure Ints (w : World) (ao : Option Addr) (cap : Nat) (L : List Int) : Prop where
  le : L.length ≤ cap
  mx : cap ≤ 9223372036854775807
  out : L ≠ [] → ∃ b o, ao = some ⟨b, o, none⟩ ∧ AtI w b o L
theorem AtI.below {w w' b o M K} (h : AtI w b o M) (hb : Below K w w') (hK : b < K) : AtI w' b o M :=
  ⟨by have := hb.size; have := h.lt; omega, fun i hi => by rw [hb.cell (p := ⟨b, o + i, none⟩) hK]; exact h.cell i hi⟩
theorem Ints.below {w w' ao cap L K} (h : Ints w ao cap L) (hb : Below K w w') (hK : w.heap.size ≤ K) : Ints w' ao cap L :=
  ⟨h.le, h.mx, fun hn => by
    obtain ⟨b, o, e, hA⟩ := h.out hn
    exact ⟨b, o, e, hA.below hb (Nat.lt_of_lt_of_le hA.lt hK)⟩⟩
theorem AtI.drop {w b o M} (h : AtI w b o M) (k : Nat) : AtI w b (o + k) (M.drop k) := by
  refine ⟨h.lt, fun i hi => ?_⟩
  have hi' : k + i < M.length := by simp at hi; omega
  have := h.cell (k + i) hi'
  rw [Nat.add_assoc, this]; simp
theorem OwnI.ints {w B v n L} (h : OwnI w B v n L) : ∃ ao c, v = .slice ao n c ∧ Ints w ao c L := by
  obtain ⟨ao, c, e, h1, h2⟩ := own_slice h.out
  subst e
  refine ⟨ao, c, rfl, by rw [← h.len]; exact h1, h2, fun hn => ?_⟩
  have hp : 0 < n := by rw [h.len]; exact List.length_pos_iff.2 hn
  obtain ⟨g, c', e, _, _, hB, hg⟩ := own_some h.out hp
  cases e
  refine ⟨g, 0, rfl, hg, fun i hi => ?_⟩
  have := own_cell h.out i (by rw [h.len]; omega)
  rw [Nat.zero_add, this]
  simp [ivs, hi]

/-- Along the way up: what Over tells. -/
def ovr (T : List Int) (a : Int) : Nat → Int → Bool → Bool
  | 0, _, _ => false
  | k + 1, b, m => if 0 ≤ T.getD b.toNat 0 ∧ T.getD b.toNat 0 < T.length then ovr T a k (T.getD b.toNat 0) (m || decide (a = b)) else (m || decide (a = b))
def overP (T : List Int) (a b : Int) : Bool := if (0 ≤ a ∧ a < T.length) ∧ (0 ≤ b ∧ b < T.length) then ovr T a T.length b false else false

end Go.Proofs.YtjiaedckecfjbaaDoor
namespace Go.Proofs.YtjiaedckecfjbaaDoor
open Go.ChangeShapes Go.WideShapes Go.ChangeAt Go.RowKit Go.Maps

/-- Structs as they lie. -/
structure StsG (w : World) (ao : Option Addr) (c z : Nat) (xs : List (List Value)) : Prop where
  le : xs.length ≤ c
  mx : c ≤ 9223372036854775807
  len : ∀ x ∈ xs, x.length = z
  one : ∀ u ∈ xs.flatten, u.oneCell' = true
  out : xs ≠ [] → ∃ b o, ao = some ⟨b, o, none⟩ ∧ b < w.heap.size ∧ ∀ j u, xs.flatten[j]? = some u → w.cell? ⟨b, o + j, none⟩ = some u
theorem StsG.move {w w' ao c z xs} (h : StsG w ao c z xs) (hk : ∀ b o, ao = some ⟨b, o, none⟩ → b < w.heap.size → w'.heap[b]? = w.heap[b]?) : StsG w' ao c z xs :=
  ⟨h.le, h.mx, h.len, h.one, fun hn => by
    obtain ⟨b, o, e, hl, hc⟩ := h.out hn
    have hb := hk b o e hl
    refine ⟨b, o, e, ?_, fun j u hu => (World.cell?_of_block (w := w) hb).trans (hc j u hu)⟩
    by_cases q : b < w'.heap.size
    · exact q
    · rw [Array.getElem?_eq_none (by omega), Array.getElem?_eq_getElem hl] at hb
      cases hb⟩
theorem StsG.below {w w' ao c z xs K} (h : StsG w ao c z xs) (hb : Below K w w') (hK : w.heap.size ≤ K) : StsG w' ao c z xs := h.move fun b o _ hl => hb.block b (by omega)
theorem StsG.nil (w : World) {ao : Option Addr} {c z : Nat} (hm : c ≤ 9223372036854775807) : StsG w ao c z [] := ⟨Nat.zero_le _, hm, fun x hx => by simp at hx, fun u hu => by simp at hu, fun h => absurd rfl h⟩
/-- The cells of an entry. -/
theorem StsG.at {w ao c z xs} (h : StsG w ao c z xs) {j : Nat} (hj : j < xs.length) : ∃ b o, ao = some ⟨b, o, none⟩ ∧ b < w.heap.size ∧ ∀ r u, (xs.getD j [])[r]? = some u → w.cell? ⟨b, o + j * z + r, none⟩ = some u := by
  obtain ⟨b, o, e, hl, hc⟩ := h.out (by intro q; rw [q] at hj; simp at hj)
  refine ⟨b, o, e, hl, fun r u hu => ?_⟩
  have hx : xs.getD j [] = xs[j] := by simp [List.getD, hj]
  rw [hx] at hu
  have hr : r < z := by
    have := (List.getElem?_eq_some_iff.1 hu).1
    rw [h.len _ (List.getElem_mem hj)] at this
    exact this
  have := hc (j * z + r) u (by rw [flat_at xs h.len j hj r hr]; exact hu)
  rw [← Nat.add_assoc] at this
  exact this
/-- A row of one's own is such a list. -/
theorem row_sts {w : World} {B e z v} {xs : List (List Value)} (h : Row w B e z v xs) (h1 : ∀ u ∈ xs.flatten, u.oneCell' = true) : ∃ ao c, v = .slice ao xs.length c ∧ StsG w ao c z xs := by
  rcases Nat.eq_zero_or_pos xs.length with h0 | h0
  · obtain ⟨ao, c, ev, q1, q2⟩ := own_slice h.out
    have hE : xs = [] := List.length_eq_zero_iff.1 h0
    subst hE
    exact ⟨ao, c, ev, StsG.nil w q2⟩
  · obtain ⟨b, c, cs, ev, q1, q2, q3, q4⟩ := h.some h0
    subst ev
    refine ⟨_, c, rfl, q1, q2, h.len, h1, fun _ => ⟨b, 0, rfl, (Array.getElem?_eq_some_iff.1 q4).1, fun j u hu => ?_⟩⟩
    rw [Nat.zero_add, own_cell h.out j (by rw [← flat_len _ h.len]; exact (List.getElem?_eq_some_iff.1 hu).1)]
    exact hu
/-- It holds in every world that has the same blocks from B on, but those of X. -/
def StaG (w : World) (B : Nat) (X : Nat → Prop) (P : World → Prop) : Prop := ∀ W, (∀ b, B ≤ b → b < w.heap.size → ¬ X b → W.heap[b]? = w.heap[b]?) → P W
theorem StaG.up {w w' : World} {B : Nat} {X : Nat → Prop} {P} (h : StaG w B X P) (hs : w.heap.size ≤ w'.heap.size) (hk : ∀ b, B ≤ b → b < w.heap.size → ¬ X b → w'.heap[b]? = w.heap[b]?) : StaG w' B X P := fun W hW => h W fun b h1 h2 h3 => (hW b h1 (by omega) h3).trans (hk b h1 h2 h3)
theorem StaG.below {w w' : World} {B X P} (h : StaG w B X P) (hb : Below w.heap.size w w') : StaG w' B X P := h.up hb.size fun b _ h2 _ => hb.block b h2
theorem StaG.set {w : World} {B X P} (h : StaG w B X P) {g i : Nat} (hg : X g) (v : Value) : StaG (w.setCell ⟨g, i, none⟩ v) B X P := h.up (by simp [World.setCell]) fun b _ _ h3 => heap_set_other (fun e => h3 (e ▸ hg))
theorem StaG.sub {w : World} {B : Nat} {X Y : Nat → Prop} {P} (h : StaG w B X P) (hs : ∀ b, Y b → X b) : StaG w B Y P := fun W hW => h W fun b h1 h2 h3 => hW b h1 h2 (fun q => h3 (hs b q))
theorem StaG.and {w : World} {B : Nat} {X : Nat → Prop} {P Q} (h : StaG w B X P) (k : StaG w B X Q) : StaG w B X (fun W => P W ∧ Q W) := fun W hW => ⟨h W hW, k W hW⟩
theorem StaG.imp {w : World} {B : Nat} {X : Nat → Prop} {P Q : World → Prop} (h : StaG w B X P) (k : ∀ W, P W → Q W) : StaG w B X Q := fun W hW => k W (h W hW)
theorem StaG.self {w : World} {B X P} (h : StaG w B X P) : P w := h w fun _ _ _ _ => rfl
/-- A new row. -/
theorem row_staG {w w1 : World} {B e z v} {xs : List (List Value)} (h : Row w1 w.heap.size e z v xs) (h1 : ∀ u ∈ xs.flatten, u.oneCell' = true) {X : Nat → Prop} (hX : ∀ b, X b → b < w.heap.size) (hB : B ≤ w.heap.size) : ∃ ao c, v = .slice ao xs.length c ∧ StaG w1 B X (fun W => StsG W ao c z xs) := by
  obtain ⟨ao, c, ev, hs⟩ := row_sts h h1
  refine ⟨ao, c, ev, fun W hW => hs.move fun b o e hl => ?_⟩
  subst ev e
  rcases Nat.eq_zero_or_pos xs.length with h0 | h0
  · rcases h.out.2 with ⟨q, _⟩ | ⟨g, cap, cur, q1, q2, _⟩
    · simp at q
    · cases q1
      exact hW b (by omega) hl (fun q => by have := hX b q; omega)
  · obtain ⟨b', c', cs, ev, q1, q2, q3, q4⟩ := h.some h0
    cases ev
    exact hW b (by omega) hl (fun q => by have := hX b q; omega)
theorem OwnI.staG {w w1 : World} {B : Nat} {v : Value} {n : Nat} {L : List Int} (h : OwnI w1 w.heap.size v n L) {X : Nat → Prop} (hX : ∀ b, X b → b < w.heap.size) (hB : B ≤ w.heap.size) : ∃ ao c, v = .slice ao n c ∧ StaG w1 B X (fun W => Ints W ao c L) := by
  have hl := h.len
  rcases Nat.eq_zero_or_pos n with h0 | h0
  · obtain ⟨ao, c, ev, q1, q2⟩ := own_slice h.out
    have : L = [] := List.length_eq_zero_iff.1 (by omega)
    subst this
    exact ⟨ao, c, ev, fun W _ => ⟨by simp, q2, fun q => absurd rfl q⟩⟩
  · obtain ⟨g, c, ev, q1, q2, q3, q4⟩ := own_some h.out h0
    subst ev
    refine ⟨_, c, rfl, fun W hW => ?_⟩
    have hb := hW g (by omega) q4 (fun q => by have := hX g q; omega)
    refine ⟨by omega, q2, fun _ => ⟨g, 0, rfl, ?_, fun i hi => ?_⟩⟩
    · by_cases q : g < W.heap.size
      · exact q
      · rw [Array.getElem?_eq_none (by omega), Array.getElem?_eq_getElem q4] at hb
        cases hb
    · rw [Nat.zero_add, World.cell?_of_block (w := w1) hb, own_cell h.out i (by omega)]
      simp [ivs, hi]
/-- A list: its entries' cells, and what hangs below each. -/
structure Lst {α : Type} (En : World → List Value → α → Prop) (z : Nat) (w : World) (ao : Option Addr) (c : Nat) (N : List α) : Prop where
  out : ∃ xs, xs.length = N.length ∧ StsG w ao c z xs ∧ ∀ i (h : i < N.length), En w (xs.getD i []) N[i]
theorem Lst.le {α : Type} {En : World → List Value → α → Prop} {z w ao c N} (h : Lst En z w ao c N) : N.length ≤ c ∧ c ≤ 9223372036854775807 := by
  obtain ⟨xs, e, hs, _⟩ := h.out
  exact ⟨by rw [← e]; exact hs.le, hs.mx⟩
theorem Lst.at {α : Type} {En : World → List Value → α → Prop} {z w ao c N} (h : Lst En z w ao c N) {j : Nat} (hj : j < N.length) : ∃ b o cs, ao = some ⟨b, o, none⟩ ∧ b < w.heap.size ∧ (∀ r u, cs[r]? = some u → w.cell? ⟨b, o + j * z + r, none⟩ = some u) ∧ En w cs N[j] := by
  obtain ⟨xs, e, hs, hE⟩ := h.out
  obtain ⟨b, o, ea, hl, hc⟩ := hs.at (j := j) (by omega)
  exact ⟨b, o, _, ea, hl, hc, hE j hj⟩
theorem Lst.below {α : Type} {En : World → List Value → α → Prop} {z w w' ao c N K} (h : Lst En z w ao c N) (hb : Below K w w') (hK : w.heap.size ≤ K) (hE : ∀ cs x, En w cs x → En w' cs x) : Lst En z w' ao c N := by
  obtain ⟨xs, e, hs, hx⟩ := h.out
  exact ⟨xs, e, hs.below hb hK, fun i hi => hE _ _ (hx i hi)⟩
theorem Lst.nil {α : Type} {En : World → List Value → α → Prop} {z : Nat} (w : World) {ao : Option Addr} {c : Nat} (hm : c ≤ 9223372036854775807) : Lst En z w ao c ([] : List α) := ⟨[], rfl, StsG.nil w hm, fun i h => absurd h (by simp)⟩
/-- A list that is being made anew, entry by entry: those ahead of j are, those from q on are still what they were in w0. -/
structure Part {α : Type} (En : World → List Value → α → Prop) (e : TypeId) (z : Nat) (w0 w : World) (B : Nat) (X : Nat → Prop) (v : Value) (j q : Nat) (N : List α) (xs : List (List Value)) : Prop where
  low : Below B w0 w
  row : Row w B e z v xs
  one : ∀ u ∈ xs.flatten, u.oneCell' = true
  len : xs.length = N.length
  own : ∀ g, v.ownBlock = some g → X g
  dn : ∀ i (h : i < N.length), i < j → StaG w B X (fun W => En W (xs.getD i []) N[i])
  un : ∀ i (h : i < N.length), q ≤ i → En w0 (xs.getD i []) N[i]
theorem Part.start {α : Type} {En : World → List Value → α → Prop} {e z w0 w B X v} {N : List α} {xs} (hb : Below B w0 w) (hr : Row w B e z v xs) (h1 : ∀ u ∈ xs.flatten, u.oneCell' = true) (hl : xs.length = N.length) (ho : ∀ g, v.ownBlock = some g → X g) (hu : ∀ i (h : i < N.length), En w0 (xs.getD i []) N[i]) : Part En e z w0 w B X v 0 0 N xs :=
  ⟨hb, hr, h1, hl, ho, fun i _ h => absurd h (by omega), fun i h _ => hu i h⟩
/-- Where the entry lies. -/
theorem Part.at {α : Type} {En : World → List Value → α → Prop} {e z w0 w B X v j q} {N : List α} {xs} (h : Part En e z w0 w B X v j q N xs) {i : Nat} (hi : i < N.length) : ∃ g c A, v = .slice (some ⟨g, 0, none⟩) N.length c ∧ N.length ≤ c ∧ c ≤ 9223372036854775807 ∧ B ≤ g ∧ X g ∧ w.heap[g]? = some (.cells A e (0, 0)) ∧ ∀ r u, (xs.getD i [])[r]? = some u → w.cell? ⟨g, i * z + r, none⟩ = some u := by
  have hx : i < xs.length := by rw [h.len]; exact hi
  obtain ⟨g, c, A, ev, q1, q2, q3, q4⟩ := h.row.some (by omega)
  have hR := h.row
  have hO := h.own
  subst ev
  rw [h.len] at q1
  refine ⟨g, c, A, by rw [h.len], q1, q2, q3, hO g rfl, q4, fun r u hu => ?_⟩
  have hg : xs.getD i [] = xs[i] := by simp [List.getD, hx]
  rw [hg] at hu
  exact hR.cell rfl hx (by rw [← hR.len _ (List.getElem_mem hx)]; exact (List.getElem?_eq_some_iff.1 hu).1) hu
theorem flatSetG {α : Type} {z : Nat} : ∀ (xs : List (List α)), (∀ x ∈ xs, x.length = z) → ∀ i (hi : i < xs.length) r, r < z → ∀ u : α, (xs.set i ((xs[i]).set r u)).flatten = xs.flatten.set (i * z + r) u
  | [], _, i, hi, _, _, _ => absurd hi (by simp)
  | x :: xs, hl, 0, _, r, hr, u => by
    have hx : x.length = z := hl x (by simp)
    simp only [List.getElem_cons_zero, List.set_cons_zero, List.flatten_cons, Nat.zero_mul, Nat.zero_add]
    rw [List.set_append_left _ _ (by omega)]
  | x :: xs, hl, i + 1, hi, r, hr, u => by
    have hx : x.length = z := hl x (by simp)
    have ih := flatSetG xs (fun y hy => hl y (by simp [hy])) i (by simpa using hi) r hr u
    simp only [List.getElem_cons_succ, List.set_cons_succ, List.flatten_cons]
    rw [ih, List.set_append_right _ _ (by rw [hx, Nat.add_mul]; omega)]
    congr 2
    rw [hx, Nat.add_mul]
    omega
theorem rowSetG {w : World} {B e z g n c : Nat} {xs : List (List Value)} (h : Row w B e z (.slice (some ⟨g, 0, none⟩) n c) xs) (hn : n = xs.length) {i : Nat} (hi : i < xs.length) {r : Nat} (hr : r < z) (u : Value) : Row (w.setCell ⟨g, i * z + r, none⟩ u) B e z (.slice (some ⟨g, 0, none⟩) n c) (xs.set i ((xs[i]).set r u)) := by
  subst hn
  have hlt : i * z + r < xs.length * z := by
    have : (i + 1) * z ≤ xs.length * z := Nat.mul_le_mul_right z hi
    rw [Nat.add_mul] at this
    omega
  refine ⟨?_, fun y hy => ?_⟩
  · have := own_set h.out (i * z + r) hlt u
    rw [flatSetG xs h.len i hi r hr u, List.length_set]
    exact this
  · rcases List.mem_or_eq_of_mem_set hy with q | q
    · exact h.len y q
    · rw [q, List.length_set]; exact h.len _ (List.getElem_mem hi)
/-- New memory, then one cell of entry j: it is open from then on. -/
theorem Part.put {α : Type} {En : World → List Value → α → Prop} {e z w0 w w1 B X v j q} {N : List α} {xs} (h : Part En e z w0 w B X v j q N xs) (hb : Below w.heap.size w w1) (hB : B ≤ w.heap.size) (hj : j < N.length) {g n c : Nat} (ev : v = .slice (some ⟨g, 0, none⟩) n c) {r : Nat} (hr : r < z) (u : Value) (hu : u.oneCell' = true) : Part En e z w0 (w1.setCell ⟨g, j * z + r, none⟩ u) B X v j (max q (j + 1)) N (xs.set j ((xs.getD j []).set r u)) := by
  have hx : j < xs.length := by rw [h.len]; exact hj
  have hg : xs.getD j [] = xs[j] := by simp [List.getD, hx]
  have hX : X g := h.own g (by rw [ev]; rfl)
  have hn : n = xs.length := by
    obtain ⟨g', c', A, ev', _⟩ := h.row.some (by omega)
    rw [ev] at ev'
    cases ev'
    rfl
  have hR1 : Row w1 B e z v xs := h.row.keep hb
  have hBg : B ≤ g := by
    have := own_block h.row.out (g := g) (by rw [ev]; rfl)
    exact this.1
  rw [hg]
  refine ⟨(h.low.trans (hb.mono hB)).setCell hBg _, by rw [ev] at hR1 ⊢; exact rowSetG hR1 hn hx hr u, ?_, by rw [List.length_set]; exact h.len, h.own, fun i hi hij => ?_, fun i hi hij => ?_⟩
  · rw [flatSetG xs h.row.len j hx r hr u]
    intro y hy
    rcases List.mem_or_eq_of_mem_set hy with q | q
    · exact h.one y q
    · rw [q]; exact hu
  · have := ((h.dn i hi hij).below hb).set (i := j * z + r) hX u
    have hne : (xs.set j ((xs[j]).set r u)).getD i [] = xs.getD i [] := by
      simp only [List.getD]
      rw [List.getElem?_set_ne (by omega)]
    rw [hne]
    exact this
  · have hne : (xs.set j ((xs[j]).set r u)).getD i [] = xs.getD i [] := by
      simp only [List.getD]
      rw [List.getElem?_set_ne (by omega)]
    rw [hne]
    exact h.un i hi (by omega)
theorem Part.entry {α : Type} {xs : List (List α)} {j : Nat} (hj : j < xs.length) (y : List α) : (xs.set j y).getD j [] = y := by
  simp [List.getD, hj]
/-- What was open is closed. -/
theorem Part.next {α : Type} {En : World → List Value → α → Prop} {e z w0 w B X v j} {N : List α} {xs} (h : Part En e z w0 w B X v j (j + 1) N xs) (hj : j < N.length) (hd : StaG w B X (fun W => En W (xs.getD j []) N[j])) : Part En e z w0 w B X v (j + 1) (j + 1) N xs :=
  ⟨h.low, h.row, h.one, h.len, h.own, fun i hi hij => by
    by_cases q : i = j
    · subst q; exact hd
    · exact h.dn i hi (by omega), h.un⟩
/-- Other memory is written: nothing of what it stands on but in X. -/
theorem Part.move {α : Type} {En : World → List Value → α → Prop} {e z w0 w w' B X v j q} {N : List α} {xs} (h : Part En e z w0 w B X v j q N xs) {F : Nat} (hF : B ≤ F) (hs : w.heap.size ≤ w'.heap.size) (hb : Below F w w') (hg : ∀ g, v.ownBlock = some g → g < F) (hd : ∀ i (h : i < N.length), i < j → StaG w' B X (fun W => En W (xs.getD i []) N[i])) : Part En e z w0 w' B X v j q N xs :=
  ⟨h.low.trans (hb.mono hF), h.row.move fun g q => hb.block g (hg g q), h.one, h.len, h.own, hd, h.un⟩
/-- All is made anew. -/
theorem Part.fin {α : Type} {En : World → List Value → α → Prop} {e z w0 w B X v q} {N : List α} {xs} (h : Part En e z w0 w B X v N.length q N xs) {Y : Nat → Prop} (hY : ∀ b, Y b → X b) (hV : ∀ g, v.ownBlock = some g → ¬ Y g) : ∃ ao c, v = .slice ao N.length c ∧ StaG w B Y (fun W => Lst En z W ao c N) := by
  obtain ⟨ao, c, ev, hs⟩ := row_sts h.row h.one
  rw [h.len] at ev
  refine ⟨ao, c, ev, fun W hW => ⟨xs, h.len, hs.move fun b o eb hl => ?_, fun i hi => h.dn i hi hi W fun b h1 h2 h3 => hW b h1 h2 (fun y => h3 (hY b y))⟩⟩
  subst ev eb
  have hb := own_block h.row.out (g := b) rfl
  exact hW b hb.1 hb.2 (hV b rfl)
end Go.Proofs.YtjiaedckecfjbaaDoor
