import Derived.Test.YteplldbhfjfbpaaGreatDoorVdB
import Derived.Test.YteplldbhfjfbpaaGreatDoorVcL
set_option linter.unusedVariables false
set_option linter.unusedSimpArgs false
namespace Go.Proofs.YteplldbhfjfbpaaGreatDoor
open Go.ChangeShapes Go.WideShapes Go.ChangeAt Go.RowKit Go.Maps

theorem rivH_len (L : List Ri) : ∀ y ∈ L.map riv, y.length = 5 := fun y hy => by
  obtain ⟨e, _, rfl⟩ := List.mem_map.1 hy
  rfl
theorem rivH_one (L : List Ri) : ∀ u ∈ (L.map riv).flatten, u.oneCell' = true := fun u hu => by
  obtain ⟨y, hy, hu'⟩ := List.mem_flatten.1 hu
  obtain ⟨e, _, rfl⟩ := List.mem_map.1 hy
  simp only [riv, List.mem_cons, List.not_mem_nil, or_false] at hu'
  rcases hu' with rfl | rfl | rfl | rfl | rfl <;> rfl
def sngR (x : Int) : List Value := [.int .i64 x]
theorem sngH_len (L : List Int) : ∀ y ∈ L.map sngR, y.length = 1 := fun y hy => by
  obtain ⟨e, _, rfl⟩ := List.mem_map.1 hy
  rfl
theorem sngH_one (L : List Int) : ∀ u ∈ (L.map sngR).flatten, u.oneCell' = true := fun u hu => by
  obtain ⟨y, hy, hu'⟩ := List.mem_flatten.1 hu
  obtain ⟨e, _, rfl⟩ := List.mem_map.1 hy
  simp only [sngR, List.mem_cons, List.not_mem_nil, or_false] at hu'
  subst hu'
  rfl
theorem stsH_cells {W : World} {ao : Option Addr} {c z : Nat} {xs : List (List Value)} (h : StsG W ao c z xs) : xs ≠ [] → ∃ ad, ao = some ad ∧ ∀ j u, xs.flatten[j]? = some u → W.cell? (ad.add j) = some u := fun hne => by
  obtain ⟨b, o, e, _, hc⟩ := h.out hne
  exact ⟨⟨b, o, none⟩, e, fun j u hu => by rw [add_noneR]; exact hc j u hu⟩
theorem infoH : (Tryz.prog.info? 3).map (fun i => (i.zero, i.size, i.bytes)) = some (some (.int .i64 0), 1, 8) := by kernel_rfl
/-- A row of another type is let alone. -/
theorem row_gi {w0 w' : World} {B B' e e' z z' : Nat} {u v v' : Value} {xs ys : List (List Value)} (h : Row w0 B e z u xs) (hv : Row w0 B' e' z' v ys) (g : GI B' w0 w' v v') (hne : e' ≠ e) : Row w' B e z u xs :=
  h.move fun b hb => g.blk b (own_block h.out hb).2 fun q => by
    rcases h.out.2 with ⟨q0, _⟩ | ⟨b1, cap, cur, e1, _, e3, _⟩
    · rw [q0] at hb; cases hb
    · have : b1 = b := by rw [e1] at hb; simpa [Value.ownBlock] using hb
      subst this
      exact own_not hv.out e3 hne q
/-- What the loop makes: the instructions, the numbers wanted. -/
structure HpR (w W : World) (C : List Ri) (V : List Int) (v5 v6 : Value) : Prop where
  c : Row W w.heap.size 23 5 v5 (C.map riv)
  v : Row W w.heap.size 3 1 v6 (V.map sngR)
  low : Below w.heap.size w W
theorem HpR.start (w : World) : HpR w w [] [] (.slice none 0 0) (.slice none 0 0) := ⟨Row.nil _ _ _ _, Row.nil _ _ _ _, Below.refl _ _⟩
theorem HpR.keep {w W W' C V v5 v6} (h : HpR w W C V v5 v6) (b : Below W.heap.size W W') : HpR w W' C V v5 v6 := ⟨h.c.keep b, h.v.keep b, h.low.trans (b.mono h.low.size)⟩
theorem HpR.ins {w W w' : World} {C D : List Ri} {V v5 v6 v'} (h : HpR w W C V v5 v6) (hr : Row w' w.heap.size 23 5 v' (C.map riv ++ D.map riv)) (g : GI w.heap.size W w' v5 v') : HpR w w' (C ++ D) V v' v6 :=
  ⟨by rw [List.map_append]; exact hr, row_gi h.v h.c g (by decide), h.low.trans (g.bel.mono (Nat.le_refl _))⟩
theorem HpR.num {w W w' : World} {C : List Ri} {V U : List Int} {v5 v6 v'} (h : HpR w W C V v5 v6) (hr : Row w' w.heap.size 3 1 v' (V.map sngR ++ U.map sngR)) (g : GI w.heap.size W w' v6 v') : HpR w w' C (V ++ U) v5 v' :=
  ⟨row_gi h.c h.v g (by decide), by rw [List.map_append]; exact hr, h.low.trans (g.bel.mono (Nat.le_refl _))⟩
theorem row_slice {w : World} {B e z : Nat} {v : Value} {xs : List (List Value)} (h : Row w B e z v xs) : ∃ a c, v = .slice a xs.length c := by
  obtain ⟨ao, c, ev, _⟩ := own_slice h.out
  exact ⟨ao, c, ev⟩
theorem and14 (z : Int) : ∃ k : Nat, k ≤ 16383 ∧ bits BinOp.and IntKind.i64 z 16383 = (k : Int) := andR_small z 16383 (by omega)
/-- A size as it is taken. -/
def szm (z : Int) : Int := bits BinOp.and IntKind.i64 z 16383
theorem szm_range (z : Int) : 0 ≤ szm z ∧ szm z ≤ 16383 := by
  obtain ⟨k, hk, e⟩ := and14 z
  unfold szm
  rw [e]
  omega
/-- The loop so far. -/
structure HpL (room : Int) (Z : List Int) (i : Nat) : Prop where
  fit : hpF room 0 ((Z.take i).map szm)
/-- What the loop leaves. -/
structure HpO (w W : World) (room : Int) (L : List Int) (C : List Ri) (e : Bool) (v5 v6 : Value) : Prop where
  row : HpR w W C (hpW 0 L) v5 v6
  rng : ∀ n ∈ L, 0 ≤ n ∧ n ≤ 16383
  len : L.length ≤ 300
  fit : hpF room 0 L
  fin : (e = false ∧ C = hpP L) ∨ (e = true ∧ ∃ n, 0 ≤ n ∧ n ≤ 16383 ∧ n ≥ room - hpT 0 L ∧ C = hpP L ++ hpA n)
theorem take_one {Z : List Int} {i : Nat} (h : i < Z.length) : (Z.take (i + 1)).map szm = (Z.take i).map szm ++ [szm Z[i]] := by
  rw [List.take_add_one, List.map_append]
  simp [h]
theorem szm_all (Z : List Int) (i : Nat) : ∀ n ∈ (Z.take i).map szm, 0 ≤ n ∧ n ≤ 16383 := fun n hn => by
  obtain ⟨z, _, rfl⟩ := List.mem_map.1 hn
  exact szm_range z
end Go.Proofs.YteplldbhfjfbpaaGreatDoor
