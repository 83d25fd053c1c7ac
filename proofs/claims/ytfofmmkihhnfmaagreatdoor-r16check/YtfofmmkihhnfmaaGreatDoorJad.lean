import Derived.Laws.AppendOwnNone
import Derived.Laws.MakeOwn
import Derived.Test.YtfofmmkihhnfmaaGreatDoorRows
import Derived.WalkKit
import Derived.ProofKit
import Derived.WalkLawsBesides
import Derived.WalkSpells
import Derived.Deep.WholeRow
import Derived.Test.YtfofmmkihhnfmaaGreatDoorJac
set_option linter.unusedVariables false
set_option linter.unusedSimpArgs false
namespace Go.Proofs.YtfofmmkihhnfmaaGreatDoor
open Go.ChangeShapes Go.WideShapes Go.ChangeAt Go.RowKit Go.Maps
structure StsG (w : World) (ao : Option Addr) (c z : Nat) (xs : List (List Value)) : Prop where
 le : xs.length <= c
 mx : c <= 9223372036854775807
 len : ∀ x ∈ xs, x.length = z
 one : ∀ u ∈ xs.flatten, u.oneCell' = true
 out : xs ≠ [] -> ∃ b o, ao = some ⟨b, o, none⟩ /\ b < w.heap.size /\ ∀ j u, xs.flatten[j]? = some u -> w.cell? ⟨b, o + j, none⟩ = some u
theorem StsG.move {w w' ao c z xs} (h : StsG w ao c z xs) (hk : ∀ b o, ao = some ⟨b, o, none⟩ -> b < w.heap.size -> w'.heap[b]? = w.heap[b]?) : StsG w' ao c z xs :=
 ⟨h.le, h.mx, h.len, h.one, fun hn => by
  obtain ⟨b, o, e, hl, hc⟩ := h.out hn
  have hb := hk b o e hl
  refine ⟨b, o, e, ?_, fun j u hu => (World.cell?_of_block (w := w) hb).trans (hc j u hu)⟩
  by_cases q : b < w'.heap.size
  ·exact q
  ·rw [Array.getElem?_eq_none (by omega), Array.getElem?_eq_getElem hl] at hb
   cases hb⟩
theorem StsG.below {w w' ao c z xs K} (h : StsG w ao c z xs) (hb : Below K w w') (hK : w.heap.size <= K) : StsG w' ao c z xs := h.move fun b o _ hl => hb.block b (by omega)
theorem StsG.nil (w : World) {ao : Option Addr} {c z : Nat} (hm : c <= 9223372036854775807) : StsG w ao c z [] := ⟨Nat.zero_le _, hm, fun x hx => by simp at hx, fun u hu => by simp at hu, fun h => absurd rfl h⟩
theorem StsG.at {w ao c z xs} (h : StsG w ao c z xs) {j : Nat} (hj : j < xs.length) : ∃ b o, ao = some ⟨b, o, none⟩ /\ b < w.heap.size /\ ∀ r u, (xs.getD j [])[r]? = some u -> w.cell? ⟨b, o + j * z + r, none⟩ = some u := by
 obtain ⟨b, o, e, hl, hc⟩ := h.out (by intro q; rw [q] at hj; simp at hj)
 refine ⟨b, o, e, hl, fun r u hu => ?_⟩
 have hx : xs.getD j [] = xs[j] := by simp [List.getD, hj]
 rw [hx] at hu
 have hr : r < z := by
  have := (List.getElem?_eq_some_iff.1 hu).1
  rw [h.len _ (List.getElem_mem hj)] at this
  exact this
 have := hc (j * z + r) u (by rw [flat_at xs h.len j hj r hr]; exact hu)
 rw [<- Nat.add_assoc] at this
 exact this
theorem row_sts {w : World} {B e z v} {xs : List (List Value)} (h : Row w B e z v xs) (h1 : ∀ u ∈ xs.flatten, u.oneCell' = true) : ∃ ao c, v = .slice ao xs.length c /\ StsG w ao c z xs := by
 rcases Nat.eq_zero_or_pos xs.length with h0 | h0
 ·obtain ⟨ao, c, ev, q1, q2⟩ := own_slice h.out
  have hE : xs = [] := List.length_eq_zero_iff.1 h0
  subst hE
  exact ⟨ao, c, ev, StsG.nil w q2⟩
 ·obtain ⟨b, c, cs, ev, q1, q2, q3, q4⟩ := h.some h0
  subst ev
  refine ⟨_, c, rfl, q1, q2, h.len, h1, fun _ => ⟨b, 0, rfl, (gl q4), fun j u hu => ?_⟩⟩
  rw [Nat.zero_add, own_cell h.out j (by rw [<- flat_len _ h.len]; exact (List.getElem?_eq_some_iff.1 hu).1)]
  exact hu
def StaG (w : World) (B : Nat) (X : Nat -> Prop) (P : World -> Prop) : Prop := ∀ W, (∀ b, B <= b -> b < w.heap.size -> ¬ X b -> W.heap[b]? = w.heap[b]?) -> P W
theorem StaG.up {w w' : World} {B : Nat} {X : Nat -> Prop} {P} (h : StaG w B X P) (hs : w.heap.size <= w'.heap.size) (hk : ∀ b, B <= b -> b < w.heap.size -> ¬ X b -> w'.heap[b]? = w.heap[b]?) : StaG w' B X P := fun W hW => h W fun b h1 h2 h3 => (hW b h1 (by omega) h3).trans (hk b h1 h2 h3)
theorem StaG.below {w w' : World} {B X P} (h : StaG w B X P) (hb : Below w.heap.size w w') : StaG w' B X P := h.up hb.size fun b _ h2 _ => hb.block b h2
theorem StaG.set {w : World} {B X P} (h : StaG w B X P) {g i : Nat} (hg : X g) (v : Value) : StaG (w.setCell ⟨g, i, none⟩ v) B X P := h.up (by simp [World.setCell]) fun b _ _ h3 => heap_set_other (fun e => h3 (e ▸ hg))
theorem StaG.sub {w : World} {B : Nat} {X Y : Nat -> Prop} {P} (h : StaG w B X P) (hs : ∀ b, Y b -> X b) : StaG w B Y P := fun W hW => h W fun b h1 h2 h3 => hW b h1 h2 (fun q => h3 (hs b q))
theorem StaG.and {w : World} {B : Nat} {X : Nat -> Prop} {P Q} (h : StaG w B X P) (k : StaG w B X Q) : StaG w B X (fun W => P W /\ Q W) := fun W hW => ⟨h W hW, k W hW⟩
theorem StaG.imp {w : World} {B : Nat} {X : Nat -> Prop} {P Q : World -> Prop} (h : StaG w B X P) (k : ∀ W, P W -> Q W) : StaG w B X Q := fun W hW => k W (h W hW)
theorem StaG.self {w : World} {B X P} (h : StaG w B X P) : P w := h w fun _ _ _ _ => rfl
theorem row_staG {w w1 : World} {B e z v} {xs : List (List Value)} (h : Row w1 w.heap.size e z v xs) (h1 : ∀ u ∈ xs.flatten, u.oneCell' = true) {X : Nat -> Prop} (hX : ∀ b, X b -> b < w.heap.size) (hB : B <= w.heap.size) : ∃ ao c, v = .slice ao xs.length c /\ StaG w1 B X (fun W => StsG W ao c z xs) := by
 obtain ⟨ao, c, ev, hs⟩ := row_sts h h1
 refine ⟨ao, c, ev, fun W hW => hs.move fun b o e hl => ?_⟩
 subst ev e
 rcases Nat.eq_zero_or_pos xs.length with h0 | h0
 ·rcases h.out.2 with ⟨q, _⟩ | ⟨g, cap, cur, q1, q2, _⟩
  ·simp at q
  ·cases q1
   exact hW b (by omega) hl (fun q => by have := hX b q; omega)
 ·obtain ⟨b', c', cs, ev, q1, q2, q3, q4⟩ := h.some h0
  cases ev
  exact hW b (by omega) hl (fun q => by have := hX b q; omega)
theorem OwnI.staG {w w1 : World} {B : Nat} {v : Value} {n : Nat} {L : List Int} (h : OwnI w1 w.heap.size v n L) {X : Nat -> Prop} (hX : ∀ b, X b -> b < w.heap.size) (hB : B <= w.heap.size) : ∃ ao c, v = .slice ao n c /\ StaG w1 B X (fun W => Ints W ao c L) := by
 have hl := h.len
 rcases Nat.eq_zero_or_pos n with h0 | h0
 ·obtain ⟨ao, c, ev, q1, q2⟩ := own_slice h.out
  have : L = [] := List.length_eq_zero_iff.1 (by omega)
  subst this
  exact ⟨ao, c, ev, fun W _ => ⟨by simp, q2, fun q => absurd rfl q⟩⟩
 ·obtain ⟨g, c, ev, q1, q2, q3, q4⟩ := own_some h.out h0
  subst ev
  refine ⟨_, c, rfl, fun W hW => ?_⟩
  have hb := hW g (by omega) q4 (fun q => by have := hX g q; omega)
  refine ⟨by omega, q2, fun _ => ⟨g, 0, rfl, ?_, fun i hi => ?_⟩⟩
  ·by_cases q : g < W.heap.size
   ·exact q
   ·rw [Array.getElem?_eq_none (by omega), Array.getElem?_eq_getElem q4] at hb
    cases hb
  ·rw [Nat.zero_add, World.cell?_of_block (w := w1) hb, own_cell h.out i (by omega)]
   simp [ivs, hi]
structure Lst {α : Type} (En : World -> List Value -> α -> Prop) (z : Nat) (w : World) (ao : Option Addr) (c : Nat) (N : List α) : Prop where
 out : ∃ xs, xs.length = N.length /\ StsG w ao c z xs /\ ∀ i (h : i < N.length), En w (xs.getD i []) N[i]
theorem Lst.le {α : Type} {En : World -> List Value -> α -> Prop} {z w ao c N} (h : Lst En z w ao c N) : N.length <= c /\ c <= 9223372036854775807 := by
 obtain ⟨xs, e, hs, _⟩ := h.out
 exact ⟨by rw [<- e]; exact hs.le, hs.mx⟩
theorem Lst.at {α : Type} {En : World -> List Value -> α -> Prop} {z w ao c N} (h : Lst En z w ao c N) {j : Nat} (hj : j < N.length) : ∃ b o cs, ao = some ⟨b, o, none⟩ /\ b < w.heap.size /\ (∀ r u, cs[r]? = some u -> w.cell? ⟨b, o + j * z + r, none⟩ = some u) /\ En w cs N[j] := by
 obtain ⟨xs, e, hs, hE⟩ := h.out
 obtain ⟨b, o, ea, hl, hc⟩ := hs.at (j := j) (by omega)
 exact ⟨b, o, _, ea, hl, hc, hE j hj⟩
theorem Lst.below {α : Type} {En : World -> List Value -> α -> Prop} {z w w' ao c N K} (h : Lst En z w ao c N) (hb : Below K w w') (hK : w.heap.size <= K) (hE : ∀ cs x, En w cs x -> En w' cs x) : Lst En z w' ao c N := by
 obtain ⟨xs, e, hs, hx⟩ := h.out
 exact ⟨xs, e, hs.below hb hK, fun i hi => hE _ _ (hx i hi)⟩
theorem Lst.nil {α : Type} {En : World -> List Value -> α -> Prop} {z : Nat} (w : World) {ao : Option Addr} {c : Nat} (hm : c <= 9223372036854775807) : Lst En z w ao c ([] : List α) := ⟨[], rfl, StsG.nil w hm, fun i h => absurd h (by simp)⟩
structure Part {α : Type} (En : World -> List Value -> α -> Prop) (e : TypeId) (z : Nat) (w0 w : World) (B : Nat) (X : Nat -> Prop) (v : Value) (j q : Nat) (N : List α) (xs : List (List Value)) : Prop where
 low : Below B w0 w
 row : Row w B e z v xs
 one : ∀ u ∈ xs.flatten, u.oneCell' = true
 len : xs.length = N.length
 own : ∀ g, v.ownBlock = some g -> X g
 dn : ∀ i (h : i < N.length), i < j -> StaG w B X (fun W => En W (xs.getD i []) N[i])
 un : ∀ i (h : i < N.length), q <= i -> En w0 (xs.getD i []) N[i]
theorem Part.start {α : Type} {En : World -> List Value -> α -> Prop} {e z w0 w B X v} {N : List α} {xs} (hb : Below B w0 w) (hr : Row w B e z v xs) (h1 : ∀ u ∈ xs.flatten, u.oneCell' = true) (hl : xs.length = N.length) (ho : ∀ g, v.ownBlock = some g -> X g) (hu : ∀ i (h : i < N.length), En w0 (xs.getD i []) N[i]) : Part En e z w0 w B X v 0 0 N xs :=
 ⟨hb, hr, h1, hl, ho, fun i _ h => absurd h (by omega), fun i h _ => hu i h⟩
theorem Part.at {α : Type} {En : World -> List Value -> α -> Prop} {e z w0 w B X v j q} {N : List α} {xs} (h : Part En e z w0 w B X v j q N xs) {i : Nat} (hi : i < N.length) : ∃ g c A, v = .slice (some ⟨g, 0, none⟩) N.length c /\ N.length <= c /\ c <= 9223372036854775807 /\ B <= g /\ X g /\ w.heap[g]? = some (.cells A e (0, 0)) /\ ∀ r u, (xs.getD i [])[r]? = some u -> w.cell? ⟨g, i * z + r, none⟩ = some u := by
 have hx : i < xs.length := by rw [h.len]; exact hi
 obtain ⟨g, c, A, ev, q1, q2, q3, q4⟩ := h.row.some (by omega)
 have hR := h.row
 have hO := h.own
 subst ev
 rw [h.len] at q1
 refine ⟨g, c, A, by rw [h.len], q1, q2, q3, hO g rfl, q4, fun r u hu => ?_⟩
 have hg : xs.getD i [] = xs[i] := by simp [List.getD, hx]
 rw [hg] at hu
 exact hR.cell rfl hx (by rw [<- hR.len _ (List.getElem_mem hx)]; exact (List.getElem?_eq_some_iff.1 hu).1) hu
theorem flatSetG {α : Type} {z : Nat} : ∀ (xs : List (List α)), (∀ x ∈ xs, x.length = z) -> ∀ i (hi : i < xs.length) r, r < z -> ∀ u : α, (xs.set i ((xs[i]).set r u)).flatten = xs.flatten.set (i * z + r) u
 | [], _, i, hi, _, _, _ => absurd hi (by simp)
 | x :: xs, hl, 0, _, r, hr, u => by
   have hx : x.length = z := hl x (by simp)
   simp only [List.getElem_cons_zero, List.set_cons_zero, List.flatten_cons, Nat.zero_mul, Nat.zero_add]
   rw [List.set_append_left _ _ (by omega)]
 | x :: xs, hl, i + 1, hi, r, hr, u => by
   have hx : x.length = z := hl x (by simp)
   have ih := flatSetG xs (fun y hy => hl y (by simp [hy])) i (by simpa using hi) r hr u
   simp only [List.getElem_cons_succ, List.set_cons_succ, List.flatten_cons]
   rw [ih, List.set_append_right _ _ (by rw [hx, Nat.add_mul]; omega)]
   congr 2
   rw [hx, Nat.add_mul]
   omega
theorem rowSetG {w : World} {B e z g n c : Nat} {xs : List (List Value)} (h : Row w B e z (.slice (some ⟨g, 0, none⟩) n c) xs) (hn : n = xs.length) {i : Nat} (hi : i < xs.length) {r : Nat} (hr : r < z) (u : Value) : Row (w.setCell ⟨g, i * z + r, none⟩ u) B e z (.slice (some ⟨g, 0, none⟩) n c) (xs.set i ((xs[i]).set r u)) := by
 subst hn
 have hlt : i * z + r < xs.length * z := by
  have : (i + 1) * z <= xs.length * z := Nat.mul_le_mul_right z hi
  rw [Nat.add_mul] at this
  omega
 refine ⟨?_, fun y hy => ?_⟩
 ·have := own_set h.out (i * z + r) hlt u
  rw [flatSetG xs h.len i hi r hr u, List.length_set]
  exact this
 ·rcases List.mem_or_eq_of_mem_set hy with q | q
  ·exact h.len y q
  ·rw [q, List.length_set]; exact h.len _ (List.getElem_mem hi)
theorem Part.put {α : Type} {En : World -> List Value -> α -> Prop} {e z w0 w w1 B X v j q} {N : List α} {xs} (h : Part En e z w0 w B X v j q N xs) (hb : Below w.heap.size w w1) (hB : B <= w.heap.size) (hj : j < N.length) {g n c : Nat} (ev : v = .slice (some ⟨g, 0, none⟩) n c) {r : Nat} (hr : r < z) (u : Value) (hu : u.oneCell' = true) : Part En e z w0 (w1.setCell ⟨g, j * z + r, none⟩ u) B X v j (max q (j + 1)) N (xs.set j ((xs.getD j []).set r u)) := by
 have hx : j < xs.length := by rw [h.len]; exact hj
 have hg : xs.getD j [] = xs[j] := by simp [List.getD, hx]
 have hX : X g := h.own g (by rw [ev]; rfl)
 have hn : n = xs.length := by
  obtain ⟨g', c', A, ev', _⟩ := h.row.some (by omega)
  rw [ev] at ev'
  cases ev'
  rfl
 have hR1 : Row w1 B e z v xs := h.row.keep hb
 have hBg : B <= g := by
  have := own_block h.row.out (g := g) (by rw [ev]; rfl)
  exact this.1
 rw [hg]
 refine ⟨(h.low.trans (hb.mono hB)).setCell hBg _, by rw [ev] at hR1 ⊢; exact rowSetG hR1 hn hx hr u, ?_, by rw [List.length_set]; exact h.len, h.own, fun i hi hij => ?_, fun i hi hij => ?_⟩
 ·rw [flatSetG xs h.row.len j hx r hr u]
  intro y hy
  rcases List.mem_or_eq_of_mem_set hy with q | q
  ·exact h.one y q
  ·rw [q]; exact hu
 ·have := ((h.dn i hi hij).below hb).set (i := j * z + r) hX u
  have hne : (xs.set j ((xs[j]).set r u)).getD i [] = xs.getD i [] := by
   simp only [List.getD]
   rw [List.getElem?_set_ne (by omega)]
  rw [hne]
  exact this
 ·have hne : (xs.set j ((xs[j]).set r u)).getD i [] = xs.getD i [] := by
   simp only [List.getD]
   rw [List.getElem?_set_ne (by omega)]
  rw [hne]
  exact h.un i hi (by omega)
theorem Part.entry {α : Type} {xs : List (List α)} {j : Nat} (hj : j < xs.length) (y : List α) : (xs.set j y).getD j [] = y := by
 simp [List.getD, hj]
theorem Part.next {α : Type} {En : World -> List Value -> α -> Prop} {e z w0 w B X v j} {N : List α} {xs} (h : Part En e z w0 w B X v j (j + 1) N xs) (hj : j < N.length) (hd : StaG w B X (fun W => En W (xs.getD j []) N[j])) : Part En e z w0 w B X v (j + 1) (j + 1) N xs :=
 ⟨h.low, h.row, h.one, h.len, h.own, fun i hi hij => by
  by_cases q : i = j
  ·subst q; exact hd
  ·exact h.dn i hi (by omega), h.un⟩
theorem Part.move {α : Type} {En : World -> List Value -> α -> Prop} {e z w0 w w' B X v j q} {N : List α} {xs} (h : Part En e z w0 w B X v j q N xs) {F : Nat} (hF : B <= F) (hs : w.heap.size <= w'.heap.size) (hb : Below F w w') (hg : ∀ g, v.ownBlock = some g -> g < F) (hd : ∀ i (h : i < N.length), i < j -> StaG w' B X (fun W => En W (xs.getD i []) N[i])) : Part En e z w0 w' B X v j q N xs :=
 ⟨h.low.trans (hb.mono hF), h.row.move fun g q => hb.block g (hg g q), h.one, h.len, h.own, hd, h.un⟩
theorem Part.fin {α : Type} {En : World -> List Value -> α -> Prop} {e z w0 w B X v q} {N : List α} {xs} (h : Part En e z w0 w B X v N.length q N xs) {Y : Nat -> Prop} (hY : ∀ b, Y b -> X b) (hV : ∀ g, v.ownBlock = some g -> ¬ Y g) : ∃ ao c, v = .slice ao N.length c /\ StaG w B Y (fun W => Lst En z W ao c N) := by
 obtain ⟨ao, c, ev, hs⟩ := row_sts h.row h.one
 rw [h.len] at ev
 refine ⟨ao, c, ev, fun W hW => ⟨xs, h.len, hs.move fun b o eb hl => ?_, fun i hi => h.dn i hi hi W fun b h1 h2 h3 => hW b h1 h2 (fun y => h3 (hY b y))⟩⟩
 subst ev eb
 have hb := own_block h.row.out (g := b) rfl
 exact hW b hb.1 hb.2 (hV b rfl)
theorem GI.selfE (B : Nat) (w : World) (v : Value) : GI B w w v v := ⟨Below.refl _ _, fun g _ _ => rfl, fun g hg => .inl hg⟩
theorem run_append_zeroE {P : Program} {w : World} (base : Nat) (t ty e : TypeId) (i : TypeInfo) (size : Nat) (ht : P.underlying t = some (.slice e)) (hi : P.info? e = some i) (v : Value) (n : Nat) (xs : List Value) (hown : w.ownsRow base e size v n xs) (xo : Option Addr) (c : Nat) :
 (Builtin.append_ #[t, t] ty #[v, .slice xo 0 c]).run P w = .ok v w := by
 rcases hown.2 with ⟨rfl, rfl⟩ | ⟨g, cap, cur, rfl, _, _, hnc, _⟩
 ·cases xo <;> simp [Builtin.append_, run_underlying ht, sizeOf, typeInfo, hi, Builtin.lenOf, Builtin.firstCells, loadCells, loadCellsFrom]
 ·cases xo <;> simp [Builtin.append_, run_underlying ht, sizeOf, typeInfo, hi, Builtin.lenOf, Builtin.firstCells, hnc, storeCells, loadCells, loadCellsFrom]
theorem step_append_manyE {w : World} {ops : Array Oper} {op : Oper} {a : Act} {K : Act -> World -> Prop} {Q : Exit -> Act -> World -> Prop} {E : Prop} (hgd : op.guard = none) (s x : Operand)
 (ho : op.op = .call { callee := .builtin .append, args := #[s, x], argTypes := #[26, 26] })
 (B : Nat) (v : Value) (n : Nat) (L : List Int) (hs : a.eval s = v) (hown : OwnI w B v n L) (xo : Option Addr) (m c : Nat) (M : List Int) (hx : a.eval x = .slice xo m c) (hm : m = M.length) (hI : Ints w xo c M)
 (hl : n + m <= 17592186044416) (hB : B <= w.heap.size)
 (h : ∀ v' w', OwnI w' B v' (n + m) (L ++ M) -> GI B w w' v v' -> K (a.put op.dst v') w') : if Region.wanted op (yielded ops a.tmps) = true then Oper.wp Tryz.prog op a w K Q else E := by
 have hw : Region.wanted op (yielded ops a.tmps) = true := by simp [Region.wanted, hgd]
 rw [if_pos hw]
 obtain ⟨i0, hi, hz0, hz1, hz2⟩ := info_parts info3i
 by_cases h0 : m = 0
 ·have hM : M = [] := List.length_eq_zero_iff.1 (by omega)
  subst hM
  subst h0
  have hr := run_append_zeroE (P := Tryz.prog) (w := w) B 26 op.type 3 i0 1 Tryz.underlying26 hi v n (ivs L) hown.out xo c
  unfold Oper.wp execOp
  simp only [ho, resolve, invoke, builtin, Sem.run_bind, Sem.run_pure, Result.andThen_ok, List.map_toArray, List.map_cons, List.map_nil, hs, hx, hr]
  exact h v w (by simpa using hown) (GI.selfE _ _ _)
 ·obtain ⟨g, o, rfl, hA⟩ := hI.out (by intro e; rw [e] at hm; simp at hm; omega)
  have hc : ∀ j u, (ivs M)[j]? = some u -> w.cell? ((⟨g, o, none⟩ : Addr).add j) = some u := by
   intro j u hj
   have hjl : j < M.length := by
    have := (List.getElem?_eq_some_iff.1 hj).1
    simpa [ivs] using this
   have := hA.cell j hjl
   rw [add_noneR, this]
   simp [ivs, hjl] at hj
   rw [hj]
  obtain ⟨v', w', hr, h2, h3, h4⟩ := run_append_where (P := Tryz.prog) (w := w) B 26 op.type 3 i0 (.int .i64 0) 1 8 Tryz.underlying26 hi hz0 hz1 hz2 rfl (by decide) v n (ivs L) hown.out ⟨g, o, none⟩ m c (by omega) (ivs M) (by simp [ivs, hm]) hc (ivs_one M) (by unfold maxLen; omega) (by omega) hB
  unfold Oper.wp execOp
  simp only [ho, resolve, invoke, builtin, Sem.run_bind, Sem.run_pure, Result.andThen_ok, List.map_toArray, List.map_cons, List.map_nil, hs, hx, hr]
  refine h v' w' ⟨by have := hown.len; simp; omega, by simpa [ivs] using h2⟩ ⟨?_, fun b h5 h6 => grown_at h3 h5 h6, fun b hb => ?_⟩
  ·exact (Below.refl _ _).grown h3 hB (fun k hk => (own_block hown.out hk).1)
  ·rcases h4.out with ⟨g', cap, e1, e2⟩ | ⟨e1, _⟩
   ·subst e1 e2; exact .inl hb
   ·rw [e1] at hb; cases hb; right; exact Nat.le_refl _
set_option maxRecDepth 10000 in
set_option maxHeartbeats 1000000 in
theorem cloneInts_any (w : World) {ao : Option Addr} {n c : Nat} {L : List Int} (hI : Ints w ao c L) (hn : n = L.length) (hsz : n <= 1000000000) :
 Calls Tryz.prog 28 #[.slice ao n c] w fun e w' => ∃ v, e = .returned v /\ OwnI w' w.heap.size v n L /\ Below w.heap.size w w' := by
 cases ao with
 | none =>
   have e : L = [] := by
    cases L with
    | nil => rfl
    | cons x L => obtain ⟨b, o, e, _⟩ := hI.out (by simp); cases e
   subst e
   simp at hn
   subst hn
   have heq : ∀ w : World, (binOp .eql 26 (.slice none 0 c) (.slice none 0 0)).run Tryz.prog w = .ok (.bool true) w := fun _ => by kernel_rfl
   go_enter Tryz.func28, Tryz.ntmps28
   go_wp2_with fail
   go_ret
   exact ⟨_, rfl, OwnI.nil _ _, Below.refl _ _⟩
 | some ad =>
   obtain ⟨W, hW⟩ : ∃ W, W = w.alloc (.cells #[] 3) := ⟨_, rfl⟩
   have hR : OwnI W w.heap.size (.slice (some ⟨w.heap.size, 0, none⟩) 0 0) 0 [] := by
    rw [hW]
    exact ⟨rfl, ⟨by simp [ivs], .inr ⟨w.heap.size, 0, #[], rfl, Nat.le_refl _, heap_alloc_new _ _, Nat.le_refl _, by unfold maxLen; omega, by simp, by simp [ivs]⟩⟩⟩
   have hb : Below w.heap.size w W := by rw [hW]; exact (Below.refl _ _).alloc (Nat.le_refl _) _
   have HR : Hid _ := hR
   have HB : Hid _ := hb
   have heq : ∀ w : World, (binOp .eql 26 (.slice (some ad) n c) (.slice none 0 0)).run Tryz.prog w = .ok (.bool false) w := fun _ => by kernel_rfl
   have hBs : w.heap.size <= W.heap.size := hb.size
   have HI : Hid (Ints W (some ad) c L) := hI.below hb (Nat.le_refl _)
   have HN : Hid (n = L.length) := hn
   have hlx : 0 + n <= 17592186044416 := by omega
   have hcc : n <= c /\ c <= 9223372036854775807 := by have := hI.le; have := hI.mx; omega
   clear hI hn hR hb
   go_enter Tryz.func28, Tryz.ntmps28
   go_wp2_with (first
    | (at_builtin; rw [<- hW]; refine wpList_step fun K hK => ?_; refine step_append_manyE rfl _ _ rfl w.heap.size (.slice (some ⟨w.heap.size, 0, none⟩) 0 0) 0 [] rfl HR.out (some ad) n c L rfl HN.out HI.out hlx hBs ?_; intro v7 w7 h7 g7; refine hK _ _ ?_; clear hK
       have H7 : Hid (OwnI w7 w.heap.size v7 n L) := by rw [List.nil_append, Nat.zero_add] at h7; exact h7
       have B7 : Hid (Below w.heap.size w w7) := HB.out.trans g7.bel
       clear h7 g7)
    | go_in)
   go_ret
   exact ⟨_, rfl, H7.out, B7.out⟩
end Go.Proofs.YtfofmmkihhnfmaaGreatDoor
namespace Go.Proofs.YtfofmmkihhnfmaaGreatDoor
open Go.ChangeShapes Go.WideShapes Go.ChangeAt Go.RowKit
theorem add_anyW (a b : Int) (w : World) : Calls Tryz.prog 144 #[.int .i64 a, .int .i64 b] w fun e w' => e = .returned (.int .i64 (wrap64 (a + b))) /\ w' = w := by
 go_enter Tryz.func144, Tryz.ntmps144
 go_wp2
 go_ret
 exact ⟨rfl, rfl⟩
theorem sub_anyW (a b : Int) (w : World) : Calls Tryz.prog 145 #[.int .i64 a, .int .i64 b] w fun e w' => e = .returned (.int .i64 (wrap64 (a - b))) /\ w' = w := by
 go_enter Tryz.func145, Tryz.ntmps145
 go_wp2
 go_ret
 exact ⟨rfl, rfl⟩
theorem mul_anyW (a b : Int) (w : World) : Calls Tryz.prog 146 #[.int .i64 a, .int .i64 b] w fun e w' => e = .returned (.int .i64 (wrap64 (a * b))) /\ w' = w := by
 go_enter Tryz.func146, Tryz.ntmps146
 go_wp2
 go_ret
 exact ⟨rfl, rfl⟩
theorem and_anyW (a b : Int) (w : World) : Calls Tryz.prog 149 #[.int .i64 a, .int .i64 b] w fun e w' => e = .returned (.int .i64 (bits .and .i64 a b)) /\ w' = w := by
 go_enter Tryz.func149, Tryz.ntmps149
 go_wp2
 go_ret
 exact ⟨rfl, rfl⟩
theorem or_anyW (a b : Int) (w : World) : Calls Tryz.prog 150 #[.int .i64 a, .int .i64 b] w fun e w' => e = .returned (.int .i64 (bits .or .i64 a b)) /\ w' = w := by
 go_enter Tryz.func150, Tryz.ntmps150
 go_wp2
 go_ret
 exact ⟨rfl, rfl⟩
theorem xor_anyW (a b : Int) (w : World) : Calls Tryz.prog 151 #[.int .i64 a, .int .i64 b] w fun e w' => e = .returned (.int .i64 (bits .xor .i64 a b)) /\ w' = w := by
 go_enter Tryz.func151, Tryz.ntmps151
 go_wp2
 go_ret
 exact ⟨rfl, rfl⟩
theorem bic_anyW (a b : Int) (w : World) : Calls Tryz.prog 152 #[.int .i64 a, .int .i64 b] w fun e w' => e = .returned (.int .i64 (bits .andNot .i64 a b)) /\ w' = w := by
 go_enter Tryz.func152, Tryz.ntmps152
 go_wp2
 go_ret
 exact ⟨rfl, rfl⟩
theorem inv_anyW (a : Int) (w : World) : Calls Tryz.prog 163 #[.int .i64 a] w fun e w' => e = .returned (.int .i64 (bits .xor .i64 (-1) a)) /\ w' = w := by
 go_enter Tryz.func163, Tryz.ntmps163
 go_wp2
 go_ret
 exact ⟨rfl, rfl⟩
theorem neg_anyW (a : Int) (w : World) : Calls Tryz.prog 161 #[.int .i64 a] w fun e w' => e = .returned (.int .i64 (wrap64 (-a))) /\ w' = w := by
 go_enter Tryz.func161, Tryz.ntmps161
 go_wp2
 go_ret
 exact ⟨rfl, rfl⟩
def shlIW (a b : Int) : Int := if b < 0 then 0 else wrap64 (a * 2 ^ min b.toNat 64)
def shrIW (a b : Int) : Int := if b < 0 then 0 else a / 2 ^ min b.toNat 64
theorem shl_anyW (a b : Int) (w : World) : Calls Tryz.prog 153 #[.int .i64 a, .int .i64 b] w fun e w' => e = .returned (.int .i64 (shlIW a b)) /\ w' = w := by
 by_cases h : b < 0
 ·have e1 : Hid (shlIW a b = 0) := by unfold shlIW; rw [if_pos h]; rfl
  rw [e1.out]; clear e1
  go_enter Tryz.func153, Tryz.ntmps153
  go_wp2
  go_ret
  exact ⟨rfl, rfl⟩
 ·have e1 : Hid (shlIW a b = wrap64 (a * 2 ^ min b.toNat 64)) := by unfold shlIW; rw [if_neg h]; rfl
  rw [e1.out]; clear e1
  go_enter Tryz.func153, Tryz.ntmps153
  go_wp2
  go_ret
  exact ⟨by rw [<- IntWalk.i64_left]; rfl, rfl⟩
theorem shr_anyW (a b : Int) (w : World) : Calls Tryz.prog 154 #[.int .i64 a, .int .i64 b] w fun e w' => e = .returned (.int .i64 (shrIW a b)) /\ w' = w := by
 by_cases h : b < 0
 ·have e1 : Hid (shrIW a b = 0) := by unfold shrIW; rw [if_pos h]; rfl
  rw [e1.out]; clear e1
  go_enter Tryz.func154, Tryz.ntmps154
  go_wp2
  go_ret
  exact ⟨rfl, rfl⟩
 ·have e1 : Hid (shrIW a b = a / 2 ^ min b.toNat 64) := by unfold shrIW; rw [if_neg h]; rfl
  rw [e1.out]; clear e1
  go_enter Tryz.func154, Tryz.ntmps154
  go_wp2
  go_ret
  exact ⟨rfl, rfl⟩
def divIW (a b : Int) : Int := if b = 0 then 0 else wrap64 (a.tdiv b)
def remIW (a b : Int) : Int := if b = 0 then 0 else a.tmod b
theorem div_anyW (a b : Int) (w : World) : Calls Tryz.prog 147 #[.int .i64 a, .int .i64 b] w fun e w' => e = .returned (.int .i64 (divIW a b)) /\ w' = w := by
 by_cases h : b = 0
 ·subst h
  go_enter Tryz.func147, Tryz.ntmps147
  go_wp2
  go_ret
  exact ⟨rfl, rfl⟩
 ·have e1 : Hid (divIW a b = wrap64 (a.tdiv b)) := by unfold divIW; rw [if_neg h]; rfl
  rw [e1.out]; clear e1
  have h1 : (b == 0) = false := by simp [h]
  go_enter Tryz.func147, Tryz.ntmps147
  go_wp2
  go_ret
  exact ⟨rfl, rfl⟩
theorem rem_anyW (a b : Int) (w : World) : Calls Tryz.prog 148 #[.int .i64 a, .int .i64 b] w fun e w' => e = .returned (.int .i64 (remIW a b)) /\ w' = w := by
 by_cases h : b = 0
 ·subst h
  go_enter Tryz.func148, Tryz.ntmps148
  go_wp2
  go_ret
  exact ⟨rfl, rfl⟩
 ·have e1 : Hid (remIW a b = a.tmod b) := by unfold remIW; rw [if_neg h]; rfl
  rw [e1.out]; clear e1
  have h1 : (b == 0) = false := by simp [h]
  go_enter Tryz.func148, Tryz.ntmps148
  go_wp2
  go_ret
  exact ⟨rfl, rfl⟩
def truthIW (p : Bool) : Int := if p then 1 else 0
theorem truth_anyW (p : Bool) (w : World) : Calls Tryz.prog 156 #[.bool p] w fun e w' => e = .returned (.int .i64 (truthIW p)) /\ w' = w := by
 cases p
 ·go_enter Tryz.func156, Tryz.ntmps156
  go_wp2
  go_ret
  exact ⟨rfl, rfl⟩
 ·go_enter Tryz.func156, Tryz.ntmps156
  go_wp2
  go_ret
  exact ⟨rfl, rfl⟩
theorem eq_anyW (a b : Int) (w : World) : Calls Tryz.prog 155 #[.int .i64 a, .int .i64 b] w fun e w' => e = .returned (.int .i64 (truthIW (a == b))) /\ w' = w := by
 go_enter Tryz.func155, Tryz.ntmps155
 go_wp2_with (go_at_call 156; refine (truth_anyW _ _).mono ?_; rintro e w' ⟨rfl, rfl⟩)
 go_ret
 exact ⟨rfl, rfl⟩
theorem ne_anyW (a b : Int) (w : World) : Calls Tryz.prog 157 #[.int .i64 a, .int .i64 b] w fun e w' => e = .returned (.int .i64 (truthIW (a != b))) /\ w' = w := by
 go_enter Tryz.func157, Tryz.ntmps157
 go_wp2_with (go_at_call 156; refine (truth_anyW _ _).mono ?_; rintro e w' ⟨rfl, rfl⟩)
 go_ret
 exact ⟨rfl, rfl⟩
theorem lt_anyW (a b : Int) (w : World) : Calls Tryz.prog 158 #[.int .i64 a, .int .i64 b] w fun e w' => e = .returned (.int .i64 (truthIW (decide (a < b)))) /\ w' = w := by
 go_enter Tryz.func158, Tryz.ntmps158
 go_wp2_with (go_at_call 156; refine (truth_anyW _ _).mono ?_; rintro e w' ⟨rfl, rfl⟩)
 go_ret
 exact ⟨rfl, rfl⟩
theorem le_anyW (a b : Int) (w : World) : Calls Tryz.prog 159 #[.int .i64 a, .int .i64 b] w fun e w' => e = .returned (.int .i64 (truthIW (decide (a <= b)))) /\ w' = w := by
 go_enter Tryz.func159, Tryz.ntmps159
 go_wp2_with (go_at_call 156; refine (truth_anyW _ _).mono ?_; rintro e w' ⟨rfl, rfl⟩)
 go_ret
 exact ⟨rfl, rfl⟩
theorem neg2_anyW (a b : Int) (w : World) : Calls Tryz.prog 160 #[.int .i64 a, .int .i64 b] w fun e w' => e = .returned (.int .i64 (wrap64 (-a))) /\ w' = w := by
 go_enter Tryz.func160, Tryz.ntmps160
 go_wp2_with (go_at_call 161; refine (neg_anyW _ _).mono ?_; rintro e w' ⟨rfl, rfl⟩)
 go_ret
 exact ⟨rfl, rfl⟩
theorem inv2_anyW (a b : Int) (w : World) : Calls Tryz.prog 162 #[.int .i64 a, .int .i64 b] w fun e w' => e = .returned (.int .i64 (bits .xor .i64 (-1) a)) /\ w' = w := by
 go_enter Tryz.func162, Tryz.ntmps162
 go_wp2_with (go_at_call 163; refine (inv_anyW _ _).mono ?_; rintro e w' ⟨rfl, rfl⟩)
 go_ret
 exact ⟨rfl, rfl⟩
theorem not_anyW (a b : Int) (w : World) : Calls Tryz.prog 164 #[.int .i64 a, .int .i64 b] w fun e w' => e = .returned (.int .i64 (wrap64 (1 - a))) /\ w' = w := by
 go_enter Tryz.func164, Tryz.ntmps164
 go_wp2_with (go_at_call 145; refine (sub_anyW _ _ _).mono ?_; rintro e w' ⟨rfl, rfl⟩)
 go_ret
 exact ⟨rfl, rfl⟩
def tblW : Array Value := #[Value.func (Fn.func 144) #[] #[], Value.func (Fn.func 145) #[] #[], Value.func (Fn.func 146) #[] #[], Value.func (Fn.func 147) #[] #[], Value.func (Fn.func 148) #[] #[], Value.func (Fn.func 149) #[] #[], Value.func (Fn.func 150) #[] #[], Value.func (Fn.func 151) #[] #[], Value.func (Fn.func 152) #[] #[], Value.func (Fn.func 153) #[] #[], Value.func (Fn.func 154) #[] #[], Value.func (Fn.func 155) #[] #[], Value.func (Fn.func 157) #[] #[], Value.func (Fn.func 158) #[] #[], Value.func (Fn.func 159) #[] #[], Value.func (Fn.func 160) #[] #[], Value.func (Fn.func 162) #[] #[], Value.func (Fn.func 164) #[] #[]]
theorem operations_anyW (w : World) : Calls Tryz.prog 124 #[] w fun e w' => e = .returned (.agg tblW) /\ w' = w.alloc (.cells tblW 149) := by
 go_enter Tryz.func124, Tryz.ntmps124
 go_wp2_with (refine wpList_store_row rfl 149 _ _ rfl _ _ rfl rfl 149 _ (heap_alloc_new _ _) (by kernel_rfl) rfl (by kernel_rfl) ?_; rw [World.setRow_alloc_new])
 refine bodyPost_ret (v := .agg tblW) ?_ rfl ⟨rfl, rfl⟩
 exact results_cell_row rfl _ _ _ 149 tblW (0, 0) _ rfl (heap_alloc_new _ _) Tryz.underlying149 rfl (by kernel_rfl)
end Go.Proofs.YtfofmmkihhnfmaaGreatDoor
