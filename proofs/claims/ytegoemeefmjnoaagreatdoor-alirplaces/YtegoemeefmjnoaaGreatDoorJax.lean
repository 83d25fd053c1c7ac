import Derived.Test.YtegoemeefmjnoaaGreatDoorJaw
set_option linter.unusedVariables false
set_option linter.unusedSimpArgs false
namespace Go.Proofs.YtegoemeefmjnoaaGreatDoor
open Go.ChangeShapes Go.WideShapes Go.ChangeAt Go.RowKit Go.Maps
structure Kp (T : List TypeId) (B : Nat) (w w' : World) : Prop where
 size : w.heap.size <= w'.heap.size
 old : ∀ g, g < w.heap.size -> (g < B \/ ∃ A t, w.heap[g]? = some (.cells A t (0, 0)) /\ t ∉ T) -> w'.heap[g]? = w.heap[g]?
theorem Kp.refl (T B w) : Kp T B w w := ⟨Nat.le_refl _, fun _ _ _ => rfl⟩
theorem Kp.trans {T B w w' w2} (h : Kp T B w w') (k : Kp T B w' w2) : Kp T B w w2 :=
 ⟨Nat.le_trans h.size k.size, fun g h1 h2 => (k.old g (Nat.lt_of_lt_of_le h1 h.size) (by
  rcases h2 with q | ⟨A, t, q1, q2⟩
  ·exact .inl q
  ·exact .inr ⟨A, t, (h.old g h1 (.inr ⟨A, t, q1, q2⟩)).trans q1, q2⟩)).trans (h.old g h1 h2)⟩
theorem Kp.of_below {T B w w'} (h : Below w.heap.size w w') : Kp T B w w' := ⟨h.size, fun g h1 _ => h.block g h1⟩
theorem Kp.sub {T T' : List TypeId} {B w w'} (h : Kp T B w w') (hs : ∀ t, t ∈ T -> t ∈ T') : Kp T' B w w' := ⟨h.size, fun g h1 h2 => h.old g h1 (by
 rcases h2 with q | ⟨A, t, q1, q2⟩
 ·exact .inl q
 ·exact .inr ⟨A, t, q1, fun q => q2 (hs t q)⟩)⟩
theorem Kp.set {T : List TypeId} {B : Nat} {w : World} {g i : Nat} {A t} (hg : w.heap[g]? = some (.cells A t (0, 0))) (ht : t ∈ T) (hB : B <= g) (v : Value) : Kp T B w (w.setCell ⟨g, i, none⟩ v) :=
 ⟨by simp [World.setCell], fun k h1 h2 => heap_set_other (by
  rintro rfl
  rcases h2 with q | ⟨A', t', q1, q2⟩
  ·omega
  ·rw [hg] at q1
   cases q1
   exact q2 ht)⟩
theorem Kp.gi {T : List TypeId} {B : Nat} {w w' : World} {v v' : Value} {e z : Nat} {xs : List (List Value)} (h : GI B w w' v v') (hr : Row w B e z v xs) (he : e ∈ T) : Kp T B w w' :=
 ⟨h.size, fun g h1 h2 => h.blk g h1 (by
  rcases h2 with q | ⟨A, t, q1, q2⟩
  ·intro hv
   have := (own_block hr.out hv).1
   omega
  ·exact own_not hr.out q1 (by rintro rfl; exact q2 he))⟩
theorem Kp.num {T B w w' g M} (h : Kp T B w w') (hT : (3 : TypeId) ∉ T) (hn : Num w g M) : Num w' g M := (h.old g (gl hn) (.inr ⟨_, _, hn, hT⟩)).trans hn
theorem Kp.row {T : List TypeId} {B w w' e z v xs} (h : Kp T B w w') (hT : e ∉ T) (hr : Row w B e z v xs) : Row w' B e z v xs := hr.move fun g hg => by
 refine h.old g (own_block hr.out hg).2 ?_
 rcases hr.out.2 with ⟨q, _⟩ | ⟨g', cap, cur, q1, q2, q3, q4, q5, q6, q7⟩
 ·rw [q] at hg; cases hg
 ·rw [q1] at hg
  cases hg
  exact .inr ⟨_, e, q3, hT⟩
def OldI (B : Nat) (w : World) (ao : Option Addr) (c : Nat) (L : List Int) : Prop := ∀ W, w.heap.size <= W.heap.size -> (∀ g, g < B -> W.heap[g]? = w.heap[g]?) -> Ints W ao c L
theorem OldI.kp {T B w w' ao c L} (h : OldI B w ao c L) (k : Kp T B w w') (hB : B <= w.heap.size) : OldI B w' ao c L := fun W h1 h2 => h W (Nat.le_trans k.size h1) fun g hg => (h2 g hg).trans (k.old g (Nat.lt_of_lt_of_le hg hB) (.inl hg))
theorem OldI.self {B w ao c L} (h : OldI B w ao c L) : Ints w ao c L := h w (Nat.le_refl _) fun _ _ => rfl
theorem OldI.of {w ao c L} (h : Ints w ao c L) {W : World} (hb : Below w.heap.size w W) : OldI w.heap.size W ao c L := fun W' h1 h2 => ⟨h.le, h.mx, fun hn => by
 obtain ⟨b, o, e, hA⟩ := h.out hn
 have hk : W'.heap[b]? = w.heap[b]? := (h2 b hA.lt).trans (hb.block b hA.lt)
 exact ⟨b, o, e, Nat.lt_of_lt_of_le hA.lt (Nat.le_trans hb.size h1), fun i hi => (World.cell?_of_block (w := w) hk).trans (hA.cell i hi)⟩⟩
structure RowE {α : Type} (En : World -> List Value -> α -> Prop) (e : TypeId) (z : Nat) (w : World) (B : Nat) (v : Value) (N : List α) : Prop where
 out : ∃ xs, Row w B e z v xs /\ xs.length = N.length /\ ∀ i (h : i < N.length), En w (xs.getD i []) N[i]
theorem RowE.nil {α : Type} {En : World -> List Value -> α -> Prop} {e z w B} : RowE En e z w B (.slice none 0 0) ([] : List α) := ⟨[], Row.nil _ _ _ _, rfl, fun i h => absurd h (by simp)⟩
theorem RowE.kp {α : Type} {En : World -> List Value -> α -> Prop} {T : List TypeId} {e z w w' B v} {N : List α} (h : RowE En e z w B v N) (k : Kp T B w w') (hT : e ∉ T) (hE : ∀ cs x, En w cs x -> En w' cs x) : RowE En e z w' B v N := by
 obtain ⟨xs, h1, h2, h3⟩ := h.out
 exact ⟨xs, k.row hT h1, h2, fun i hi => hE _ _ (h3 i hi)⟩
theorem RowE.sl {α : Type} {En : World -> List Value -> α -> Prop} {e z w B v} {N : List α} (h : RowE En e z w B v N) : ∃ ao c, v = .slice ao N.length c /\ N.length <= c /\ c <= 9223372036854775807 := by
 obtain ⟨xs, h1, h2, _⟩ := h.out
 obtain ⟨ao, c, e, q1, q2⟩ := own_slice h1.out
 rw [h2] at e q1
 exact ⟨ao, c, e, q1, q2⟩
theorem RowE.at {α : Type} {En : World -> List Value -> α -> Prop} {e z w B v} {N : List α} (h : RowE En e z w B v N) (hz : 0 < z) (hN : N ≠ []) : ∃ b c, v = .slice (some ⟨b, 0, none⟩) N.length c /\ b < w.heap.size /\ ∀ i (hi : i < N.length), ∃ cs, En w cs N[i] /\ ∀ r u, cs[r]? = some u -> w.cell? ⟨b, 0 + i * z + r, none⟩ = some u := by
 obtain ⟨xs, h1, h2, h3⟩ := h.out
 have hp : 0 < N.length := List.length_pos_iff.2 hN
 obtain ⟨b, c, A, ev, q1, q2, q3, q4⟩ := h1.some (by omega)
 subst ev
 refine ⟨b, c, by rw [h2], (gl q4), fun i hi => ⟨_, h3 i hi, fun r u hu => ?_⟩⟩
 have hx : i < xs.length := by omega
 have hg : xs.getD i [] = xs[i] := by simp [List.getD, hx]
 rw [hg] at hu
 rw [Nat.zero_add]
 exact h1.cell rfl hx (by rw [<- h1.len _ (List.getElem_mem hx)]; exact (List.getElem?_eq_some_iff.1 hu).1) hu
theorem RowE.push {α : Type} {En : World -> List Value -> α -> Prop} {e z w B v} {N : List α} {xs : List (List Value)} {cs : List Value} {x : α} (hr : Row w B e z v (xs ++ [cs])) (hl : xs.length = N.length) (hE : ∀ i (h : i < N.length), En w (xs.getD i []) N[i]) (hx : En w cs x) : RowE En e z w B v (N ++ [x]) := by
 refine ⟨xs ++ [cs], hr, by simp [hl], fun i hi => ?_⟩
 by_cases q : i < N.length
 ·have e1 : (xs ++ [cs]).getD i [] = xs.getD i [] := by simp [List.getD, List.getElem?_append_left (show i < xs.length by omega)]
  rw [e1, List.getElem_append_left q]
  exact hE i q
 ·have e2 : i = N.length := by simp at hi; omega
  subst e2
  have e1 : (xs ++ [cs]).getD N.length [] = cs := by simp [List.getD, <- hl]
  rw [e1]
  simpa using hx
def LiE (w : World) (cs : List Value) (x : Li) : Prop := ∃ g, cs = [.int .i64 x.op, .int .i64 x.dst, .int .i64 x.imm, .slice (some ⟨g, 0, none⟩) x.args.length x.args.length] /\ x.args.length <= 100000000 /\ Num w g x.args
theorem LiE.kp {T B w w'} (k : Kp T B w w') (hT : (3 : TypeId) ∉ T) (cs : List Value) (x : Li) (h : LiE w cs x) : LiE w' cs x := by
 obtain ⟨g, e, h1, h2⟩ := h
 exact ⟨g, e, h1, k.num hT h2⟩
theorem lis_of {w B v} {N : List Li} (h : RowE LiE 147 4 w B v N) : ∃ ao c, v = .slice ao N.length c /\ Lis w ao c N := by
 obtain ⟨ao, c, ev, q1, q2⟩ := h.sl
 refine ⟨ao, c, ev, q1, q2, fun hN => ?_⟩
 obtain ⟨b, c', ev', hb, hA⟩ := h.at (by omega) hN
 rw [ev] at ev'
 cases ev'
 refine ⟨b, 0, rfl, hb, fun i hi => ?_⟩
 obtain ⟨cs, ⟨g, e, hm, hn⟩, hc⟩ := hA i hi
 subst e
 exact ⟨some ⟨g, 0, none⟩, N[i].args.length, hc 0 _ rfl, hc 1 _ rfl, hc 2 _ rfl, hc 3 _ rfl, hn.ints hm⟩
def LbE (B : Nat) (w : World) (cs : List Value) (x : Lb) : Prop := ∃ v a2 c2, cs = [v, .int .i64 x.kind, .int .i64 x.val, .slice a2 x.ways.length c2] /\ RowE LiE 147 4 w B v x.body /\ OldI B w a2 c2 x.ways
theorem LbE.kp {T B w w'} (k : Kp T B w w') (hB : B <= w.heap.size) (hT : (3 : TypeId) ∉ T) (hT2 : (147 : TypeId) ∉ T) (cs : List Value) (x : Lb) (h : LbE B w cs x) : LbE B w' cs x := by
 obtain ⟨v, a2, c2, e, h1, h2⟩ := h
 exact ⟨v, a2, c2, e, h1.kp k hT2 (LiE.kp k hT), h2.kp k hB⟩
theorem lbs_of {w B B' v} {N : List Lb} (h : RowE (LbE B') 134 4 w B v N) : ∃ ao c, v = .slice ao N.length c /\ Lbs w ao c N := by
 obtain ⟨ao, c, ev, q1, q2⟩ := h.sl
 refine ⟨ao, c, ev, q1, q2, fun hN => ?_⟩
 obtain ⟨b, c', ev', hb, hA⟩ := h.at (by omega) hN
 rw [ev] at ev'
 cases ev'
 refine ⟨b, 0, rfl, hb, fun i hi => ?_⟩
 obtain ⟨cs, ⟨v, a2, c2, e, h1, h2⟩, hc⟩ := hA i hi
 obtain ⟨a1, c1, ev, hl⟩ := lis_of h1
 subst ev e
 exact ⟨a1, c1, a2, c2, hc 0 _ rfl, hc 1 _ rfl, hc 2 _ rfl, hc 3 _ rfl, hl, h2.self⟩
def LfE (B : Nat) (w : World) (cs : List Value) (x : Lf) : Prop := ∃ g v, cs = [.string x.name, .slice (some ⟨g, 0, none⟩) x.params.length x.params.length, .int .i64 x.regs, .int .i64 x.result, v] /\ x.params.length <= 100000000 /\ Num w g x.params /\ RowE (LbE B) 134 4 w B v x.blks
theorem LfE.kp {T B w w'} (k : Kp T B w w') (hB : B <= w.heap.size) (hT : (3 : TypeId) ∉ T) (hT2 : (147 : TypeId) ∉ T) (hT3 : (134 : TypeId) ∉ T) (cs : List Value) (x : Lf) (h : LfE B w cs x) : LfE B w' cs x := by
 obtain ⟨g, v, e, h1, h2, h3⟩ := h
 exact ⟨g, v, e, h1, k.num hT h2, h3.kp k hT3 (LbE.kp k hB hT hT2)⟩
theorem lfs_of {w B B' v} {N : List Lf} (h : RowE (LfE B') 125 5 w B v N) : ∃ ao c, v = .slice ao N.length c /\ Lfs w ao c N := by
 obtain ⟨ao, c, ev, q1, q2⟩ := h.sl
 refine ⟨ao, c, ev, q1, q2, fun hN => ?_⟩
 obtain ⟨b, c', ev', hb, hA⟩ := h.at (by omega) hN
 rw [ev] at ev'
 cases ev'
 refine ⟨b, 0, rfl, hb, fun i hi => ?_⟩
 obtain ⟨cs, ⟨g, v, e, hm, hn, h1⟩, hc⟩ := hA i hi
 obtain ⟨a1, c1, ev, hl⟩ := lbs_of h1
 subst ev e
 exact ⟨some ⟨g, 0, none⟩, N[i].params.length, a1, c1, hc 0 _ rfl, hc 1 _ rfl, hc 2 _ rfl, hc 3 _ rfl, hc 4 _ rfl, hn.ints hm, hl⟩
def nuI (s : Int) (x : Ai) : Li := ⟨x.op, numP s x.dst, x.imm, x.args.map (numP s)⟩
def nuB (s : Int) (b : Ab) : Lb := ⟨b.body.map (nuI s), b.kind, numP s b.val, b.ways⟩
def nuF (f : Af) : Lf := ⟨f.name, f.params.map (numP f.slots), 8 + f.slots, f.result, f.blks.map (nuB f.slots)⟩
end Go.Proofs.YtegoemeefmjnoaaGreatDoor
