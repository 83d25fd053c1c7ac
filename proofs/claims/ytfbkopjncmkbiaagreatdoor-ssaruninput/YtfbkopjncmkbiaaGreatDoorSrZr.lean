import Derived.Test.YtfbkopjncmkbiaaGreatDoorSrZq
import Derived.Laws.AppendOwnNone
set_option linter.unusedVariables false
set_option linter.unusedSimpArgs false
namespace Go.Proofs.YtfbkopjncmkbiaaGreatDoor
open Go.ChangeShapes Go.WideShapes Go.ChangeAt Go.RowKit Go.Maps

theorem run_copyI {w : World} (B : Nat) (ty : TypeId) (xo : Option Addr) (m c : Nat) (M : List Int) (hm : m = M.length) (hI : Ints w xo c M) (hnz : xo = none → c = 0) (hl : m ≤ 17592186044416) (hB : B ≤ w.heap.size) :
    ∃ v' w', (Builtin.append_ #[25, 25] ty #[.slice none 0 0, .slice xo m c]).run Tryz.prog w = .ok v' w' ∧ OwnI w' B v' m M ∧ Below w.heap.size w w' := by
  obtain ⟨i0, hi, hz0, hz1, hz2⟩ := info_parts info3i
  cases xo with
  | none =>
    have hM : M = [] := by
      cases M with
      | nil => rfl
      | cons y l => obtain ⟨b, o, e, _⟩ := hI.out (by simp); cases e
    subst hM
    simp at hm
    subst hm
    rw [hnz rfl]
    exact ⟨_, _, run_append_owned_none (P := Tryz.prog) (w := w) B 25 ty 3 i0 1 Tryz.underlying25 hi (.slice none 0 0) 0 [] (World.ownsRow_nil _ _ _ _), OwnI.nil _ _, Below.refl _ _⟩
  | some ad =>
    have hc : ∀ j u, (ivs M)[j]? = some u → w.cell? (ad.add j) = some u := by
      intro j u hj
      have hjl : j < M.length := by
        have := (List.getElem?_eq_some_iff.1 hj).1
        simpa [ivs] using this
      obtain ⟨b, o, e, hA⟩ := hI.out (by intro e; rw [e] at hjl; simp at hjl)
      cases e
      have := hA.cell j hjl
      rw [add_none, this]
      simp [ivs, hjl] at hj
      rw [hj]
    obtain ⟨v', w', hr, h2, h3, h4⟩ := run_append_own (P := Tryz.prog) w B 25 ty 3 i0 (.int .i64 0) 1 8 Tryz.underlying25 hi hz0 hz1 hz2 rfl (by decide) (.slice none 0 0) 0 [] (World.ownsRow_nil _ _ _ _) ad m c (ivs M) (by simp [ivs, hm]) hc (ivs_one M) (by unfold maxLen; omega) (by omega) hB
    exact ⟨v', w', hr, ⟨hm, by simpa using h2⟩, (Below.refl _ _).grown h3 (Nat.le_refl _) (fun k hk => by simp [Value.ownBlock] at hk)⟩
/-- The same two where they stand behind a guard. -/
theorem wpList_copyW {w : World} {ops : Array Oper} {rest : List Oper} {op : Oper} {a : Act} {Q : Exit → Act → World → Prop} (hw : Region.wanted op (yielded ops a.tmps) = true) (s x : Operand)
    (ho : op.op = .call { callee := .builtin .append, args := #[s, x], argTypes := #[25, 25] })
    (B : Nat) (hs : a.eval s = .slice none 0 0) (xo : Option Addr) (m c : Nat) (M : List Int) (hm : m = M.length) (hI : Ints w xo c M) (hnz : xo = none → c = 0) (hx : a.eval x = .slice xo m c) (hl : m ≤ 17592186044416) (hB : B ≤ w.heap.size)
    (h : ∀ v' w', OwnI w' B v' m M → Below w.heap.size w w' → wpList Tryz.prog ops Q rest (a.put op.dst v') w') : wpList Tryz.prog ops Q (op :: rest) a w := by
  obtain ⟨v', w', hr, h1, h2⟩ := run_copyI B op.type xo m c M hm hI hnz hl hB
  refine wpList_step fun K hK => ?_
  rw [if_pos hw]
  unfold Oper.wp execOp
  simp only [ho, resolve, invoke, builtin, Sem.run_bind, Sem.run_pure, Result.andThen_ok, List.map_toArray, List.map_cons, List.map_nil, hs, hx, hr]
  exact hK _ _ (h v' w' h1 h2)
def inX (B : Nat) : List Obj := [.cells #[.int .i64 0] 3, .cells #[.int .i64 24, .int .i64 1, .int .i64 0, .slice none 0 0, .int .i64 26, .int .i64 0, .int .i64 0, .slice (some ⟨B + 0, 0, none⟩) 1 1] 45, .cells #[.int .i64 1] 3, .cells #[.int .i64 0, .int .i64 1] 3, .cells #[.int .i64 1] 3, .cells #[.int .i64 0, .int .i64 1] 3, .cells #[.slice none 0 0, .slice none 0 0, .int .i64 1, .int .i64 (-1), .slice (some ⟨B + 2, 0, none⟩) 1 1, .slice none 0 0, .slice none 0 0, .slice (some ⟨B + 3, 0, none⟩) 2 2, .int .i64 1, .int .i64 (-1), .slice (some ⟨B + 4, 0, none⟩) 1 1, .slice (some ⟨B + 5, 0, none⟩) 2 2] 50, .cells #[.string ⟨#[109, 97, 105, 110]⟩, .slice none 0 0, .int .i64 0, .slice (some ⟨B + 1, 0, none⟩) 2 2, .slice (some ⟨B + 6, 0, none⟩) 2 2] 53]
theorem in_fus {W : World} {B g8 : Nat} (hx : ∀ i (h : i < (inX B).length), W.heap[B + i]? = some (inX B)[i]) (h8 : W.heap[g8]? = some (.cells #[.string ⟨#[109, 97, 105, 110]⟩, .slice none 0 0, .int .i64 0, .slice (some ⟨B + 1, 0, none⟩) 2 2, .slice (some ⟨B + 6, 0, none⟩) 2 2] 53)) : Fus W (some ⟨g8, 0, none⟩) 1 [inF] := by
  have h0 := hx 0 (by simp [inX])
  have h1 := hx 1 (by simp [inX])
  have h2 := hx 2 (by simp [inX])
  have h3 := hx 3 (by simp [inX])
  have h4 := hx 4 (by simp [inX])
  have h5 := hx 5 (by simp [inX])
  have h6 := hx 6 (by simp [inX])
  have h7 := hx 7 (by simp [inX])
  have hl : ∀ j : Nat, j < 8 → B + j < W.heap.size := fun j hj => (Array.getElem?_eq_some_iff.1 (hx j (by simpa [inX] using hj))).1
  clear hx
  have i0 : Ints W (some ⟨B + 0, 0, none⟩) 1 [0] := ints_exact (L := [0]) h0 (by decide)
  have i2 : Ints W (some ⟨B + 2, 0, none⟩) 1 [1] := ints_exact (L := [1]) h2 (by decide)
  have i3 : Ints W (some ⟨B + 3, 0, none⟩) 2 [0, 1] := ints_exact (L := [0, 1]) h3 (by decide)
  have i4 : Ints W (some ⟨B + 4, 0, none⟩) 1 [1] := ints_exact (L := [1]) h4 (by decide)
  have i5 : Ints W (some ⟨B + 5, 0, none⟩) 2 [0, 1] := ints_exact (L := [0, 1]) h5 (by decide)
  have hv0 : Vls W (some ⟨B + 1, 0, none⟩) 2 inF.vals := by
    refine ⟨Nat.le_of_ble_eq_true (by kernel_rfl), by decide, fun _ => ⟨B + 1, 0, rfl, hl 1 (by omega), fun i hi => ?_⟩⟩
    match i, hi with
    | 0, _ => exact ⟨none, 0, cell_arr (i := 0) h1 rfl, cell_arr (i := 1) h1 rfl, cell_arr (i := 2) h1 rfl, cell_arr (i := 3) h1 rfl, (ints_none W)⟩
    | 1, _ => exact ⟨some ⟨B + 0, 0, none⟩, 1, cell_arr (i := 4) h1 rfl, cell_arr (i := 5) h1 rfl, cell_arr (i := 6) h1 rfl, cell_arr (i := 7) h1 rfl, i0⟩
  have hk0 : Bks W (some ⟨B + 6, 0, none⟩) 2 inF.blks := by
    refine ⟨Nat.le_of_ble_eq_true (by kernel_rfl), by decide, fun _ => ⟨B + 6, 0, rfl, hl 6 (by omega), fun i hi => ?_⟩⟩
    match i, hi with
    | 0, _ => exact ⟨none, 0, none, 0, some ⟨B + 2, 0, none⟩, 1, none, 0, cell_arr (i := 0) h6 rfl, cell_arr (i := 1) h6 rfl, cell_arr (i := 2) h6 rfl, cell_arr (i := 3) h6 rfl, cell_arr (i := 4) h6 rfl, cell_arr (i := 5) h6 rfl, (ints_none W), (ints_none W), i2, (ints_none W)⟩
    | 1, _ => exact ⟨none, 0, some ⟨B + 3, 0, none⟩, 2, some ⟨B + 4, 0, none⟩, 1, some ⟨B + 5, 0, none⟩, 2, cell_arr (i := 6) h6 rfl, cell_arr (i := 7) h6 rfl, cell_arr (i := 8) h6 rfl, cell_arr (i := 9) h6 rfl, cell_arr (i := 10) h6 rfl, cell_arr (i := 11) h6 rfl, (ints_none W), i3, i4, i5⟩
  refine ⟨Nat.le_of_ble_eq_true (by kernel_rfl), by decide, fun _ => ⟨g8, 0, rfl, (Array.getElem?_eq_some_iff.1 h8).1, fun i hi => ?_⟩⟩
  match i, hi with
  | 0, _ => exact ⟨none, 0, some ⟨B + 1, 0, none⟩, 2, some ⟨B + 6, 0, none⟩, 2, cell_arr (i := 0) h8 rfl, cell_arr (i := 1) h8 rfl, cell_arr (i := 2) h8 rfl, cell_arr (i := 3) h8 rfl, cell_arr (i := 4) h8 rfl, (ints_none W), hv0, hk0⟩
theorem Only.unset {F : Nat → Prop} {w w' : World} {g j : Nat} {u : Value} (h : Only F w w') (hg : F g) : Only F w (w'.setCell ⟨g, j, none⟩ u) := h.trans (Only.of_set w' ⟨g, j, none⟩ u) fun i _ e => by rw [show i = g from e]; exact hg
set_option maxRecDepth 100000 in
set_option maxHeartbeats 4000000 in
theorem input_any (w : World) (hTab : Tab w) (la : Option Addr) (n lc : Nat) (l : List Int) (hn : n = l.length) (hI : Ints w la lc l) (hz : la = none → lc = 0) : Calls Tryz.prog 8 #[.slice la n lc] w fun e w' => e = .returned (.bool true) ∧ Below w.heap.size w w' := by
  have HAL : Hid _ := alive10_any w hTab
  have HT : Hid (Tab w) := hTab
  have hnc : n ≤ lc := by have := hI.le; omega
  have hcm : lc ≤ 9223372036854775807 := hI.mx
  have HN : Hid (n = l.length) := hn
  have HI : Hid (Ints w la lc l) := hI
  have HZ : Hid (la = none → lc = 0) := hz
  clear hTab hn hI hz
  go_enter Tryz.func8, Tryz.ntmps8
  go_upto_region 2 with (go_at_call 9; refine Calls.mono HAL.out ?_; rintro e wL ⟨rfl, bL⟩)
  have HBL : Hid (Below w.heap.size w wL) := bL
  clear bL HAL
  by_cases h1 : 1000 < n
  · have q1 : decide ((1000 : Int) < (n : Int)) = true := by simp; omega
    go_wp2_with fail
    go_ret
    exact ⟨rfl, HBL.out⟩
  have q1 : decide ((1000 : Int) < (n : Int)) = false := by simp; omega
  have hn1 : n ≤ 1000 := by omega
  clear h1
  obtain ⟨W1, hW1⟩ : ∃ W1, W1 = ((((((((wL.alloc (.cells #[.int .i64 0] 3)).alloc (.cells #[.int .i64 24, .int .i64 1, .int .i64 0, .slice none 0 0, .int .i64 26, .int .i64 0, .int .i64 0, .slice (some ⟨wL.heap.size, 0, none⟩) 1 1] 45)).alloc (.cells #[.int .i64 1] 3)).alloc (.cells #[.int .i64 0, .int .i64 1] 3)).alloc (.cells #[.int .i64 1] 3)).alloc (.cells #[.int .i64 0, .int .i64 1] 3)).alloc (.cells #[.slice none 0 0, .slice none 0 0, .int .i64 1, .int .i64 (-1), .slice (some ⟨wL.heap.size + 1 + 1, 0, none⟩) 1 1, .slice none 0 0, .slice none 0 0, .slice (some ⟨wL.heap.size + 1 + 1 + 1, 0, none⟩) 2 2, .int .i64 1, .int .i64 (-1), .slice (some ⟨wL.heap.size + 1 + 1 + 1 + 1, 0, none⟩) 1 1, .slice (some ⟨wL.heap.size + 1 + 1 + 1 + 1 + 1, 0, none⟩) 2 2] 50)).alloc (.cells #[.string ⟨#[109, 97, 105, 110]⟩, .slice none 0 0, .int .i64 0, .slice (some ⟨wL.heap.size + 1, 0, none⟩) 2 2, .slice (some ⟨wL.heap.size + 1 + 1 + 1 + 1 + 1 + 1, 0, none⟩) 2 2] 53)) := ⟨_, rfl⟩
  have e1 : W1 = al wL (inX wL.heap.size) := hW1
  have bl : Below wL.heap.size wL W1 := by rw [e1]; exact al_below _ wL
  have hx : ∀ i (h : i < (inX wL.heap.size).length), W1.heap[wL.heap.size + i]? = some (inX wL.heap.size)[i] := fun i h => by rw [e1]; exact al_at _ wL i h
  have h7 : W1.heap[wL.heap.size + 1 + 1 + 1 + 1 + 1 + 1 + 1]? = some (.cells #[.string ⟨#[109, 97, 105, 110]⟩, .slice none 0 0, .int .i64 0, .slice (some ⟨wL.heap.size + 1, 0, none⟩) 2 2, .slice (some ⟨wL.heap.size + 1 + 1 + 1 + 1 + 1 + 1, 0, none⟩) 2 2] 53 (0, 0)) := hx 7 (by simp [inX])
  have bW1 : Below w.heap.size w W1 := HBL.out.trans (bl.mono HBL.out.size)
  have s1 := bl.size
  have hl7 := (Array.getElem?_eq_some_iff.1 h7).1
  have HW1 : Hid (W1 = ((((((((wL.alloc (.cells #[.int .i64 0] 3)).alloc (.cells #[.int .i64 24, .int .i64 1, .int .i64 0, .slice none 0 0, .int .i64 26, .int .i64 0, .int .i64 0, .slice (some ⟨wL.heap.size, 0, none⟩) 1 1] 45)).alloc (.cells #[.int .i64 1] 3)).alloc (.cells #[.int .i64 0, .int .i64 1] 3)).alloc (.cells #[.int .i64 1] 3)).alloc (.cells #[.int .i64 0, .int .i64 1] 3)).alloc (.cells #[.slice none 0 0, .slice none 0 0, .int .i64 1, .int .i64 (-1), .slice (some ⟨wL.heap.size + 1 + 1, 0, none⟩) 1 1, .slice none 0 0, .slice none 0 0, .slice (some ⟨wL.heap.size + 1 + 1 + 1, 0, none⟩) 2 2, .int .i64 1, .int .i64 (-1), .slice (some ⟨wL.heap.size + 1 + 1 + 1 + 1, 0, none⟩) 1 1, .slice (some ⟨wL.heap.size + 1 + 1 + 1 + 1 + 1, 0, none⟩) 2 2] 50)).alloc (.cells #[.string ⟨#[109, 97, 105, 110]⟩, .slice none 0 0, .int .i64 0, .slice (some ⟨wL.heap.size + 1, 0, none⟩) 2 2, .slice (some ⟨wL.heap.size + 1 + 1 + 1 + 1 + 1 + 1, 0, none⟩) 2 2] 53))) := hW1
  have HX : Hid (∀ i (h : i < (inX wL.heap.size).length), W1.heap[wL.heap.size + i]? = some (inX wL.heap.size)[i]) := hx
  have H7 : Hid (W1.heap[wL.heap.size + 1 + 1 + 1 + 1 + 1 + 1 + 1]? = some (.cells #[.string ⟨#[109, 97, 105, 110]⟩, .slice none 0 0, .int .i64 0, .slice (some ⟨wL.heap.size + 1, 0, none⟩) 2 2, .slice (some ⟨wL.heap.size + 1 + 1 + 1 + 1 + 1 + 1, 0, none⟩) 2 2] 53 (0, 0))) := h7
  have HB1 : Hid (Below w.heap.size w W1) := bW1
  clear hW1 e1 bl hx h7 bW1
  go_upto_region 5 with fail
  rw [← HW1.out]
  clear HW1
  go_upto_region 6 with (at_builtin; refine wpList_copyW (by rfl) _ _ rfl W1.heap.size rfl la n lc l HN.out (HI.out.below HB1.out (Nat.le_refl _)) HZ.out rfl (by omega) (Nat.le_refl _) ?_; intro vi w2 oi b2; obtain ⟨ia, ic, ei, hic, hic'⟩ := own_slice oi.out; subst ei)
  have s2 := b2.size
  have h72 := (b2.block _ hl7).trans H7.out
  have k0 : w2.cell? ⟨wL.heap.size + 1 + 1 + 1 + 1 + 1 + 1 + 1, 0, none⟩ = some (.string ⟨#[109, 97, 105, 110]⟩) := cell_arr (i := 0) h72 rfl
  have k1 : w2.cell? ⟨wL.heap.size + 1 + 1 + 1 + 1 + 1 + 1 + 1, 1, none⟩ = some (.slice none 0 0) := cell_arr (i := 1) h72 rfl
  have k2 : w2.cell? ⟨wL.heap.size + 1 + 1 + 1 + 1 + 1 + 1 + 1, 2, none⟩ = some (.int .i64 0) := cell_arr (i := 2) h72 rfl
  have k3 : w2.cell? ⟨wL.heap.size + 1 + 1 + 1 + 1 + 1 + 1 + 1, 3, none⟩ = some (.slice (some ⟨wL.heap.size + 1, 0, none⟩) 2 2) := cell_arr (i := 3) h72 rfl
  have k4 : w2.cell? ⟨wL.heap.size + 1 + 1 + 1 + 1 + 1 + 1 + 1, 4, none⟩ = some (.slice (some ⟨wL.heap.size + 1 + 1 + 1 + 1 + 1 + 1, 0, none⟩) 2 2) := cell_arr (i := 4) h72 rfl
  obtain ⟨W3, hW3⟩ : ∃ W3, W3 = w2.alloc (.cells #[.string ⟨#[109, 97, 105, 110]⟩, .slice none 0 0, .int .i64 0, .slice (some ⟨wL.heap.size + 1, 0, none⟩) 2 2, .slice (some ⟨wL.heap.size + 1 + 1 + 1 + 1 + 1 + 1, 0, none⟩) 2 2] 53) := ⟨_, rfl⟩
  have b3 : Below w2.heap.size w2 W3 := by rw [hW3]; exact below_new w2 _
  have h8 : W3.heap[w2.heap.size]? = some (.cells #[.string ⟨#[109, 97, 105, 110]⟩, .slice none 0 0, .int .i64 0, .slice (some ⟨wL.heap.size + 1, 0, none⟩) 2 2, .slice (some ⟨wL.heap.size + 1 + 1 + 1 + 1 + 1 + 1, 0, none⟩) 2 2] 53 (0, 0)) := by rw [hW3]; exact heap_alloc_new _ _
  have b13 : Below W1.heap.size W1 W3 := b2.trans (b3.mono s2)
  have s3 := b3.size
  have hF : Fus W3 (some ⟨w2.heap.size, 0, none⟩) 1 [inF] := in_fus (B := wL.heap.size) (fun i h => (b13.block _ (Array.getElem?_eq_some_iff.1 (HX.out i h)).1).trans (HX.out i h)) h8
  have oi3 := oi.keep b3
  obtain ⟨_, _, ei, hIi⟩ := oi3.ints
  cases ei
  have bw3 : Below w.heap.size w W3 := HB1.out.trans (b13.mono HB1.out.size)
  have HNW : Hid (Calls Tryz.prog 11 #[.agg #[.slice (some ⟨w2.heap.size, 0, none⟩) 1 1, .int .i64 0], .slice ia n ic] W3 fun e w' => ∃ s d mb, s.mb = mb ∧ e = .returned (.tuple #[.pointer (some ⟨mb, 0, none⟩), .int .i64 0]) ∧ Mach [inF] s d w' (inQ l 0) ∧ Below W3.heap.size W3 w' ∧ W3.heap.size ≤ s.lo ∧ ∀ k, foot s d k → W3.heap.size ≤ k) := by
    refine (mNew_yes W3 (HT.out.below bw3 HT.out.1) (n := 0) (FS := [inF]) rfl hF (by decide) in_few in_fewC in_few10 in_check inF rfl hIi HN.out (by omega) (inQ l 0) (in_begin l)).mono ?_
    intro e w' q
    obtain ⟨s, d, q1, q2, q3, q4, q5⟩ := q.out
    exact ⟨s, d, s.mb, rfl, q1, q2, q3, q4, q5⟩
  have HW3 : Hid (W3 = w2.alloc (.cells #[.string ⟨#[109, 97, 105, 110]⟩, .slice none 0 0, .int .i64 0, .slice (some ⟨wL.heap.size + 1, 0, none⟩) 2 2, .slice (some ⟨wL.heap.size + 1 + 1 + 1 + 1 + 1 + 1, 0, none⟩) 2 2] 53)) := hW3
  have HOI : Hid (OwnI W3 W1.heap.size (.slice ia n ic) n l) := oi3
  have HBW : Hid (Below w.heap.size w W3) := bw3
  clear hW3 b3 h8 b13 hF oi3 hIi bw3 b2 h72 oi HT
  go_upto_region 9 with (go_at_call 11; rw [← HW3.out]; refine Calls.mono HNW.out ?_; rintro e wN ⟨s, d, mb, hmb, rfl, hM, bN, hlo, hft⟩)
  have HMB : Hid (s.mb = mb) := hmb
  have HOI4 : Hid (OwnI wN W1.heap.size (.slice ia n ic) n l) := HOI.out.keep bN
  have HM0 : Hid (Mach [inF] s d wN (inQ l 0)) := hM
  have HBN : Hid (Below w.heap.size w wN) := HBW.out.trans (bN.mono HBW.out.size)
  have HLO : Hid (∀ b, (Value.slice ia n ic).ownBlock = some b → w.heap.size ≤ b ∧ b < W3.heap.size) := fun b hb => ⟨Nat.le_trans HB1.out.size (own_block HOI.out.out hb).1, (own_block HOI.out.out hb).2⟩
  have HFT : Hid (W3.heap.size ≤ s.lo ∧ ∀ k, foot s d k → W3.heap.size ≤ k) := ⟨hlo, hft⟩
  clear hmb hM bN hlo hft HNW HW3 k0 k1 k2 k3 k4 HX H7 HOI
  have ST : Hid (∃ X, OwnI wN W1.heap.size (.slice ia n ic) n X ∧ Only (fun b => (Value.slice ia n ic).ownBlock = some b) wN wN) := ⟨l, HOI4.out, Only.refl _ _⟩
  go_wp2_with fail
  go_loopg [8] n (fun q iv wr => ∃ i : Nat, i ≤ n ∧ q = n - i ∧ iv = .int .i64 (i : Int) ∧ Hid (∃ X, OwnI wr W1.heap.size (.slice ia n ic) n X ∧ Only (fun b => (Value.slice ia n ic).ownBlock = some b) wN wr))
  case atStart => exact ⟨0, by omega, by omega, rfl, ST.out⟩
  case round =>
    clear ST
    obtain ⟨i, hi, rfl, rfl, HS⟩ := hrel
    by_cases hlt : i < n
    · obtain ⟨X, oX, uX⟩ := HS.out
      obtain ⟨gi, _, e9, _, _, _, _⟩ := own_some oX.out (by omega)
      cases e9
      obtain ⟨z, kz⟩ : ∃ z, wr.cell? ⟨gi, i, none⟩ = some z := ⟨_, (own_cell oX.out i (by omega)).trans (List.getElem?_eq_getElem (by rw [oX.out.1]; omega))⟩
      have fz := own_fz oX.out i
      have HNX : Hid (∃ X, OwnI (wr.setCell ⟨gi, i, none⟩ (.int .i64 (-5 - (i : Int)))) W1.heap.size (.slice (some ⟨gi, 0, none⟩) n ic) n X ∧ Only (fun b => (Value.slice (some ⟨gi, 0, none⟩) n ic).ownBlock = some b) wN (wr.setCell ⟨gi, i, none⟩ (.int .i64 (-5 - (i : Int))))) := by
        refine ⟨X.set i (-5 - (i : Int)), ⟨by simpa using oX.len, ?_⟩, uX.unset rfl⟩
        have := own_set oX.out i (by omega) (.int .i64 (-5 - (i : Int)))
        rw [ivs, ← List.map_set] at this
        exact this
      clear HS oX uX
      go_wp2_with fail
      go_roundg (n - (i + 1))
      case rel => exact ⟨i + 1, by omega, rfl, by go_num, HNX.out⟩
      case measure => omega
    · have hM : Mach [inF] s d wr (inQ l 0) := by
        obtain ⟨X, oX, uX⟩ := HS.out
        refine HM0.out.apart uX fun k hk => ?_
        have h1 := (HLO.out k hk).2
        exact ⟨fun h => by have := HFT.out.2 k h; omega, fun h => by have := HFT.out.1; omega⟩
      have hBr : Below w.heap.size w wr := by
        obtain ⟨X, oX, uX⟩ := HS.out
        exact HBN.out.trans (uX.below HBN.out.size fun k hk => (HLO.out k hk).1)
      have HRN : Hid (Calls Tryz.prog 13 #[.pointer (some ⟨mb, 0, none⟩), .int .i64 10000] wr fun e w' => ∃ ao c, e = .returned (.tuple #[.agg #[.slice ao n c, .int .i64 2, .int .i64 5, .int .i64 0, .int .i64 (2 + 3 * (n : Int)), .int .i64 0, .int .i64 1], .int .i64 0]) ∧ Evs w' ao c (evl l) ∧ Below w.heap.size w w') := by
        have hN := HN.out
        refine (HMB.out ▸ (mRun_any in_few10 hM.stp (fuel := 10000) (N := 2 + 3 * l.length) (by omega) (inQ l) rfl (inQ_steps l (by omega)) (inQ_end l) (MF := inQ l (2 + 3 * l.length)) (by rw [if_pos (by omega)]))).mono ?_
        rintro e w' ⟨v, d', B, rfl, _, _, hf, _, hR⟩
        rw [inQ_e] at hR ⊢
        have hR2 : Row w' B 55 2 v ((evl l).map evc) := hR
        obtain ⟨ao, c, rfl, hE⟩ := evs_of hR2
        refine ⟨ao, c, ?_, hE, hBr.trans (hf.only.below hBr.size fun k hk => Nat.le_trans HBW.out.size (HFT.out.2 k hk))⟩
        have e1 : (evl l).length = n := by simp [evl, hN]
        rw [e1]
        simp only [otv, inp3]
        have e2 : (((2 + 3 * l.length : Nat) : Int)) = 2 + 3 * (n : Int) := by omega
        rw [e2]
      clear HS hM hBr HM0 HBN HOI4 HLO HFT HMB
      go_upto_region 14 with (go_at_call 13; refine Calls.mono HRN.out ?_; rintro e wR ⟨ao, c, rfl, hE, bR⟩)
      obtain ⟨W5, hW5⟩ : ∃ W, W = wR.alloc (.cells #[.slice ao n c, .int .i64 2, .int .i64 5, .int .i64 0, .int .i64 (2 + 3 * (n : Int)), .int .i64 0, .int .i64 1] 35) := ⟨_, rfl⟩
      rw [← hW5]
      have k5 : W5.heap[wR.heap.size]? = some (.cells #[.slice ao n c, .int .i64 2, .int .i64 5, .int .i64 0, .int .i64 (2 + 3 * (n : Int)), .int .i64 0, .int .i64 1] 35 (0, 0)) := by rw [hW5]; exact heap_alloc_new _ _
      have b5 : Below wR.heap.size wR W5 := by rw [hW5]; exact below_new _ _
      have x0 : W5.cell? ⟨wR.heap.size, 0, none⟩ = some (.slice ao n c) := cell_arr k5 rfl
      have x1 : W5.cell? ⟨wR.heap.size, 1, none⟩ = some (.int .i64 2) := cell_arr k5 rfl
      have x2 : W5.cell? ⟨wR.heap.size, 2, none⟩ = some (.int .i64 5) := cell_arr k5 rfl
      have x4 : W5.cell? ⟨wR.heap.size, 4, none⟩ = some (.int .i64 (2 + 3 * (n : Int))) := cell_arr k5 rfl
      have hlt5 := (Array.getElem?_eq_some_iff.1 k5).1
      have HE : Hid (Evs W5 ao c (evl l)) := hE.belowR b5
      have hEl : (evl l).length = l.length := by simp [evl]
      have hcn : n ≤ c := by have := hE.le; rw [hEl] at this; have := HN.out; omega
      have hcx : c ≤ 9223372036854775807 := hE.mx
      have HB5 : Hid (Below w.heap.size w W5) := bR.trans (b5.mono bR.size)
      have HX0 : Hid (W5.cell? ⟨wR.heap.size, 0, none⟩ = some (.slice ao n c)) := x0
      have q4 : ((2 + 3 * (n : Int)) != (2 + 3 * (n : Int))) = false := by simp
      have q5 : ((n : Int) != (n : Int)) = false := by simp
      clear hE bR b5 k5 hW5 HRN hEl
      go_wp2_with fail
      clear x0 x1 x2 x4 q4 q5
      have S0 : Hid (Below W5.heap.size W5 W5) := Below.refl _ _
      go_loopg [11] n (fun q iv wq => ∃ t : Nat, t ≤ n ∧ q = n - t ∧ iv = .int .i64 (t : Int) ∧ Hid (Below W5.heap.size W5 wq))
      case atStart => exact ⟨0, by omega, by omega, rfl, S0.out⟩
      case round =>
        clear S0
        obtain ⟨t, ht, rfl, rfl, HQ⟩ := hrel
        by_cases htn : t < n
        · have htl : t < l.length := by have := HN.out; omega
          have y0 : wr.cell? ⟨wR.heap.size, 0, none⟩ = some (.slice ao n c) := (HQ.out.cell (p := ⟨wR.heap.size, 0, none⟩) hlt5).trans HX0.out
          obtain ⟨eb, eo, rfl, _, y1, y2⟩ := (HE.out.belowR HQ.out).at (k := t) (by simp [evl]; exact htl)
          have e1 : (evl l)[t]'(by simp [evl]; exact htl) = (1, l[t]) := by simp [evl]
          rw [e1] at y1 y2
          simp only at y1 y2
          obtain ⟨lb, lo, rfl, y3⟩ := ((HI.out.below HB5.out (Nat.le_refl _)).below HQ.out (Nat.le_refl _)).at htl
          obtain ⟨x, hx⟩ : ∃ x, x = l[t] := ⟨_, rfl⟩
          rw [← hx] at y2 y3
          have q6 : (x != x) = false := by simp
          clear e1 hx
          go_wp2_with fail
          go_quiet (fail)
          go_wp2_with fail
          go_roundg (n - (t + 1))
          case rel => exact ⟨t + 1, by omega, rfl, by go_num, below_drewN HQ.out _⟩
          case measure => omega
        · go_wp2_with fail
          try rw [Exit.noGoto_ret]
          go_ret
          exact ⟨rfl, HB5.out.trans (HQ.out.mono HB5.out.size)⟩
end Go.Proofs.YtfbkopjncmkbiaaGreatDoor
