import Derived.Test.YtjegnmbidhpegaaOne
import Derived.Deep.Slices
import Derived.OpenShut
import Derived.ChangeOld
import Derived.Below
namespace Go.Proofs.Ytjegnmbidhpegaa
open Go.ChangeShapes Go.WideShapes Go.ChangeAt Go.RowKit

theorem grown_block {W w' : World} (h : Grown W w') {k : Nat} (hk : k < W.heap.size) : w'.heap[k]? = W.heap[k]? := by
  have h3 := h.1.2.2 k hk
  revert h3
  cases hW : W.heap[k]? with
  | none => simp at hW; omega
  | some o =>
    cases hw : w'.heap[k]? with
    | none => cases o <;> simp
    | some o' =>
      cases o <;> cases o' <;> simp
      · intro e1 e2 _ hc
        exact ⟨Array.ext_getElem? hc, e1, e2⟩
theorem grown_cell {W w' : World} (h : Grown W w') {p : Addr} (hp : p.block < W.heap.size) : w'.cell? p = W.cell? p :=
  World.cell?_of_block (w := W) (grown_block h hp)

theorem all_long (a : Option Addr) (len cap : Nat) (h : 10000 < len) (hl : len ≤ 9223372036854775807) (w : World) : Calls Try.prog 5 #[.slice a len cap] w fun e w' => e = .returned (.bool true) ∧ Grown w w' := by
  go_enter Try.func5, Try.ntmps5
  go_wp2
  go_ret
  exact ⟨rfl, Grown.refl _⟩

theorem all_any (w : World) (b off len cap : Nat) (h : len ≤ 10000) (K O A B : Nat → Int) (hb : b < w.heap.size)
    (hc : ∀ i, i < len → w.cell? ⟨b, off + i * 4, none⟩ = some (.int .i64 (K i)) ∧ w.cell? ⟨b, off + i * 4 + 1, none⟩ = some (.int .i64 (O i)) ∧ w.cell? ⟨b, off + i * 4 + 2, none⟩ = some (.int .i64 (A i)) ∧ w.cell? ⟨b, off + i * 4 + 3, none⟩ = some (.int .i64 (B i)))
    (hz : ∀ i, i < len → (-9223372036854775808 ≤ A i ∧ A i ≤ 9223372036854775807) ∧ (-9223372036854775808 ≤ B i ∧ B i ≤ 9223372036854775807)) :
    Calls Try.prog 5 #[.slice (some ⟨b, off, none⟩) len cap] w fun e w' => e = .returned (.bool true) ∧ Grown w w' := by
  have HC : Hid (∀ wr, Grown w wr → ∀ i, i < len → wr.cell? ⟨b, off + i * 4, none⟩ = some (.int .i64 (K i)) ∧ wr.cell? ⟨b, off + i * 4 + 1, none⟩ = some (.int .i64 (O i)) ∧ wr.cell? ⟨b, off + i * 4 + 2, none⟩ = some (.int .i64 (A i)) ∧ wr.cell? ⟨b, off + i * 4 + 3, none⟩ = some (.int .i64 (B i))) := by
    intro wr g i hi
    rw [grown_cell g (p := ⟨b, off + i * 4, none⟩) hb, grown_cell g (p := ⟨b, off + i * 4 + 1, none⟩) hb, grown_cell g (p := ⟨b, off + i * 4 + 2, none⟩) hb, grown_cell g (p := ⟨b, off + i * 4 + 3, none⟩) hb]
    exact hc i hi
  have HZ : Hid (∀ i, i < len → (-9223372036854775808 ≤ A i ∧ A i ≤ 9223372036854775807) ∧ (-9223372036854775808 ≤ B i ∧ B i ≤ 9223372036854775807)) := hz
  clear hc hz
  go_enter Try.func5, Try.ntmps5
  go_wp2_with fail
  refine (alive_any _).mono ?_
  rintro e u1 ⟨rfl, g1⟩
  go_wp2_with fail
  go_loopw [3, 4] (fun ok i wr => ∃ k : Nat, k ≤ len ∧ i = .int .i64 k ∧ ok = .bool true ∧ Grown w wr) (fun _ i _ => len - (intOf i).toNat)
  case atStart => exact ⟨0, by omega, rfl, rfl, g1⟩
  case round =>
    obtain ⟨k, hk, rfl, rfl, g2⟩ := hrel
    by_cases hlt : k < len
    · obtain ⟨c0, c1, c2, c3⟩ := HC.out _ g2 k hlt
      have HB := HZ.out k hlt
      have HB' : Hid ((-9223372036854775808 ≤ A k ∧ A k ≤ 9223372036854775807) ∧ (-9223372036854775808 ≤ B k ∧ B k ≤ 9223372036854775807)) := HB
      clear HB
      go_wp2_with fail
      refine (one_any _ _ _ _ HB'.out.1 HB'.out.2 _).mono ?_
      rintro e u3 ⟨rfl, g3⟩
      have d0 : u3.cell? ⟨wr.heap.size, 0, none⟩ = some (.int .i64 (K k)) := (grown_cell g3 (p := ⟨wr.heap.size, 0, none⟩) (by simp)).trans (cell_of_row _ _ 0 _ _ _ (heap_alloc_new _ _))
      have d1 : u3.cell? ⟨wr.heap.size, 1, none⟩ = some (.int .i64 (O k)) := (grown_cell g3 (p := ⟨wr.heap.size, 1, none⟩) (by simp)).trans (cell_of_row _ _ 1 _ _ _ (heap_alloc_new _ _))
      have d2 : u3.cell? ⟨wr.heap.size, 2, none⟩ = some (.int .i64 (A k)) := (grown_cell g3 (p := ⟨wr.heap.size, 2, none⟩) (by simp)).trans (cell_of_row _ _ 2 _ _ _ (heap_alloc_new _ _))
      have d3 : u3.cell? ⟨wr.heap.size, 3, none⟩ = some (.int .i64 (B k)) := (grown_cell g3 (p := ⟨wr.heap.size, 3, none⟩) (by simp)).trans (cell_of_row _ _ 3 _ _ _ (heap_alloc_new _ _))
      clear c0 c1 c2 c3
      go_wp2_with fail
      refine (one_any _ _ _ _ HB'.out.1 HB'.out.2 _).mono ?_
      rintro e u4 ⟨rfl, g4⟩
      go_wp2_with fail
      go_roundw
      case rel => exact ⟨k + 1, by omega, by go_num, rfl, grown_trans g2 (grown_trans ((Grown.refl _).alloc _ _) (grown_trans g3 g4))⟩
      case measure => simp [intOf]; omega
    · go_wp2_with fail
      go_ret
      exact ⟨rfl, g2⟩

theorem all_empty (a : Option Addr) (cap : Nat) (w : World) : Calls Try.prog 5 #[.slice a 0 cap] w fun e w' => e = .returned (.bool true) ∧ Grown w w' := by
  go_enter Try.func5, Try.ntmps5
  go_wp2_with fail
  refine (alive_any _).mono ?_
  rintro e u1 ⟨rfl, g1⟩
  go_wp2_with fail
  go_loopw [3, 4] (fun ok i wr => i = .int .i64 0 ∧ ok = .bool true ∧ Grown w wr) (fun _ _ _ => 0)
  case atStart => exact ⟨rfl, rfl, g1⟩
  case round =>
    obtain ⟨rfl, rfl, g2⟩ := hrel
    go_wp2_with fail
    go_ret
    exact ⟨rfl, g2⟩

/-- The reading of a list of calls: where it lies, cell by cell. -/
theorem script_cells {H : Type} {enc : TypeId × Value → H} {W : World} {fuel : Nat} {cs : List Value} {x : DataW H × List MemPlace} (h : DataW.trod enc Try.prog W 0 (fun _ => true) true fuel 26 cs = some x) :
    cs = [.slice none 0 0] ∨ ∃ (a : Addr) (len cap : Nat) (K O A B : Nat → Int), cs = [.slice (some a) len cap] ∧ cap ≤ maxLen ∧ len ≤ cap ∧
      (∀ i, i < len → W.cell? (a.add (i * 4)) = some (.int .i64 (K i)) ∧ W.cell? (a.add (i * 4 + 1)) = some (.int .i64 (O i)) ∧ W.cell? (a.add (i * 4 + 2)) = some (.int .i64 (A i)) ∧ W.cell? (a.add (i * 4 + 3)) = some (.int .i64 (B i))) ∧
      (∀ i, i < len → (Lit.int .i64 (A i)).wf = true ∧ (Lit.int .i64 (B i)).wf = true) := by
  rcases Deep.open_slice Try.underlying26 h with ⟨h0, _⟩ | ⟨a, len, cap, m, n, D, Pl, rfl, _, hl, hm, hmm, _, hx⟩
  · exact Or.inl h0
  · right
    have ce : Try.prog.cellsOf 28 = 4 := by kernel_rfl
    have c3 : Try.prog.cellsOf 3 = 1 := by kernel_rfl
    rw [ce] at hx
    have hml : len ≤ m := by rw [hmm]; simp; exact hl
    have each : ∀ i, i < len → ∃ q : Int × Int × Int × Int, (W.cell? (a.add (i * 4)) = some (.int .i64 q.1) ∧ W.cell? (a.add (i * 4 + 1)) = some (.int .i64 q.2.1) ∧ W.cell? (a.add (i * 4 + 2)) = some (.int .i64 q.2.2.1) ∧ W.cell? (a.add (i * 4 + 3)) = some (.int .i64 q.2.2.2)) ∧ (Lit.int .i64 q.2.2.1).wf = true ∧ (Lit.int .i64 q.2.2.2).wf = true := by
      intro i hi
      obtain ⟨cs', h1, h2⟩ := hx i (by omega)
      obtain ⟨_, hlen, hcell⟩ := World.cells?_some h1
      obtain ⟨xs, k, hk, hxy, _, hxl, hf⟩ := DataW.trod_struct Try.underlying28 h2
      match cs', hlen with
      | [v0, v1, v2, v3], _ =>
        have g0 := hf 0 _ rfl
        have g1 := hf 1 _ rfl
        have g2 := hf 2 _ rfl
        have g3 := hf 3 _ rfl
        simp [c3] at g0 g1 g2 g3
        match xs, hxl with
        | [y0, y1, y2, y3], _ =>
          obtain ⟨n0, e0, _, _⟩ := DataW.trod_int Try.underlying3 (show DataW.trod enc Try.prog W 0 _ true k 3 _ = some y0 from g0)
          obtain ⟨n1, e1, _, _⟩ := DataW.trod_int Try.underlying3 (show DataW.trod enc Try.prog W 0 _ true k 3 _ = some y1 from g1)
          obtain ⟨n2, e2, _, z2⟩ := DataW.trod_int Try.underlying3 (show DataW.trod enc Try.prog W 0 _ true k 3 _ = some y2 from g2)
          obtain ⟨n3, e3, _, z3⟩ := DataW.trod_int Try.underlying3 (show DataW.trod enc Try.prog W 0 _ true k 3 _ = some y3 from g3)
          simp at e0 e1 e2 e3
          subst e0 e1 e2 e3
          have q0 := hcell 0 (by omega)
          have q1 := hcell 1 (by omega)
          have q2 := hcell 2 (by omega)
          have q3 := hcell 3 (by omega)
          rw [Deep.add_add] at q0 q1 q2 q3
          exact ⟨(n0, n1, n2, n3), ⟨by simpa using q0, by simpa using q1, by simpa using q2, by simpa using q3⟩, z2, z3⟩
    obtain ⟨q, hq⟩ := Deep.choose_lt each
    exact ⟨a, len, cap, fun i => (q i).1, fun i => (q i).2.1, fun i => (q i).2.2.1, fun i => (q i).2.2.2, rfl, hm, hl, fun i hi => (hq i hi).1, fun i hi => (hq i hi).2⟩

theorem own : ownKnob Try.prog.godebug = none := by kernel_rfl
theorem laidOut : laidOutB Try.prog = true := by kernel_rfl
theorem grown_same {W w' : World} (h : Grown W w') {p : MemPlace} (hp : p.block < W.heap.size) : W.sameAt w' p := by
  cases p with
  | cell b o => exact World.cell?_of_block (w := W) (grown_block h hp)
  | map b => exact grown_block h hp

set_option maxRecDepth 100000 in
theorem all_lifted (os : Os) (started : os.Started) (H : Type) (enc : TypeId × Value → H) :
    ReturnsInHanded {} Try.checked os 5 .any (Rows.wordAllSpec.pre6 enc Try.prog Try.f5 Rows.wordAllRow.domain false) (Rows.wordAllSpec.post enc Try.prog Try.f5 false true false false) := by
  refine returnsInHanded_of_change (C := Try.checked) own started (by kernel_rfl) Try.func5
    (ChangeSpec.witness6 (enc := enc) (C := Try.checked) false ⟨#[], #[.slice none 0 0], []⟩ 8 (by kernel_rfl) (by kernel_rfl) (by kernel_rfl) (by kernel_rfl)) ?_
  intro W base args ds gs before hval0 hW hcnd _
  have hval : ∀ (j : Nat) t v, Try.f5.params[j]? = some t → args[j]? = some v → Value.okWide Try.prog W .any base t v := hval0
  have hW' := hW
  obtain ⟨p, q, hA0, hV, rfl, hfz, hnd⟩ := hW
  have hA : DataW.TrodAll enc Try.prog W 0 (fun _ => true) true Try.f5.params.toList args.toList ds p := hA0
  rw [Try.params5] at hA hval
  obtain ⟨v0, d0, rfl, rfl, h0⟩ := trodAll_one hA
  obtain ⟨rfl, rfl⟩ := trodVars_none hV
  obtain ⟨a0, len0, cap0, rfl⟩ := okWide_slice Try.underlying26 (hval 0 26 v0 rfl rfl)
  have k0 := h0
  have lt0 : ∀ x ∈ p, x.block < W.heap.size := by obtain ⟨m, hm⟩ := k0; exact DataW.trod_lt m _ _ _ hm
  have key : Calls Try.prog 5 #[.slice a0 len0 cap0] W fun e w' => e = .returned (.bool true) ∧ Grown W w' := by
    obtain ⟨fuel, hf⟩ := h0
    rcases script_cells hf with hcs | ⟨a, l, c, K, O, A, B, hcs, hc, hl, hcell, hwf⟩
    · simp [Value.cells] at hcs
      obtain ⟨rfl, rfl, rfl⟩ := hcs
      exact all_empty none 0 W
    · simp [Value.cells] at hcs
      obtain ⟨rfl, rfl, rfl⟩ := hcs
      unfold maxLen at hc
      by_cases h1 : len0 = 0
      · subst h1; exact all_empty _ _ W
      · by_cases h2 : 10000 < len0
        · exact all_long _ _ _ h2 (by omega) W
        · obtain ⟨b, off, spot⟩ := a
          have hspot : spot = none := by simpa [Addr.add] using World.cell?_spot (hcell 0 (by omega)).1
          subst hspot
          have hb : b < W.heap.size := block_lt_of_cell (hcell 0 (by omega)).1
          exact all_any W b off len0 cap0 (by omega) K O A B hb (fun i hi => by
            have := hcell i hi
            rw [add_plain, add_plain, add_plain, add_plain] at this
            simpa [Nat.add_assoc] using this) (fun i hi => ⟨bounds_i64 (hwf i hi).1, bounds_i64 (hwf i hi).2⟩)
  clear hA0 hval0
  refine key.mono fun e W' ⟨he, hg⟩ => ?_
  subst he
  exact ⟨_, rfl, _, _, _, [], _, [], hW', trodAll_mk1 (shut_bool Try.underlying4 _), trodAll_mk1 (WideElems.Trod_stays laidOut (by kernel_rfl) (of_decide_eq_true (by kernel_rfl)) k0 (fun x hx => grown_same hg (lt0 x hx)) (fun x hx => by simpa using lt0 x hx)), rfl, hg.frame _, fun h => by cases h⟩

theorem wordAll_holds : Rows.WordAllSaid :=
  OpenClaim.holds_of_wide 5 Try.f5 rfl rfl rfl rfl rfl rfl rfl ⟨rfl, rfl, rfl, rfl, rfl⟩ rfl rfl rfl rfl rfl (by kernel_rfl) Try.func5 (by kernel_rfl)
    (of_decide_eq_true (by kernel_rfl)) (by unfold Func.isWrapper; first | (rw [if_pos (by decide +kernel)]; kernel_rfl) | (rw [if_neg (by decide +kernel)]; exact ⟨rfl, rfl⟩))
    (fun os started H enc _ => all_lifted os started H enc)
#print axioms wordAll_holds
end Go.Proofs.Ytjegnmbidhpegaa
