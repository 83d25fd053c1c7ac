import Derived.Test.YtjiaedckecfjbaaDoorVaU
set_option linter.unusedVariables false
set_option linter.unusedSimpArgs false
namespace Go.Proofs.YtjiaedckecfjbaaDoor
open Go.ChangeShapes Go.WideShapes Go.ChangeAt Go.RowKit Go.Maps

/-- Two boxes of the call's own. -/
structure TwoR (w : World) (A B : Obj) (w' : World) : Prop where
  a : OneR w A w'
  b : OneR (w.alloc A) B w'
theorem TwoR.start (w : World) (A B : Obj) : TwoR w A B ((w.alloc A).alloc B) := ⟨(OneR.start w A).next (below_newR _ _), OneR.start _ B⟩
theorem TwoR.next {w A B w' w''} (h : TwoR w A B w') (hb : Below w'.heap.size w' w'') : TwoR w A B w'' := ⟨h.a.next hb, h.b.next hb⟩
set_option maxRecDepth 100000 in
set_option maxHeartbeats 4000000 in
theorem funFit_frame (w : World) (ca : Option Addr) (cn cc : Nat) (fa : Option Addr) (fn fc : Nat) (m : Int) (s : ByteArray) (fr fi ct pa : Int) (h : ¬ ((2 ≤ fr ∧ fr ≤ 1099511627776) ∧ (0 ≤ pa ∧ pa ≤ 8))) :
    Calls Tryd.prog 39 #[.agg #[.slice ca cn cc, .slice fa fn fc, .int .i64 m], .agg #[.string s, .int .i64 fr, .int .i64 fi, .int .i64 ct, .int .i64 pa]] w fun e w' => e = .returned (.bool false) ∧ Below w.heap.size w w' := by
  have HB : Hid (∀ A B, Below w.heap.size w ((w.alloc A).alloc B)) := fun A B => (TwoR.start w A B).a.low
  by_cases h1 : 2 ≤ fr ∧ fr ≤ 1099511627776
  · have HW1 : Hid (∀ W, Calls Tryd.prog 47 #[.int .i64 fr, .int .i64 2, .int .i64 1099511627776] W fun e w' => e = .returned (.bool true) ∧ w' = W) := fun W => withinR W _ _ _ (decide_eq_true h1)
    have HW2 : Hid (∀ W, Calls Tryd.prog 47 #[.int .i64 pa, .int .i64 0, .int .i64 8] W fun e w' => e = .returned (.bool false) ∧ w' = W) := fun W => withinR W _ _ _ (decide_eq_false fun q => h ⟨h1, q⟩)
    clear h h1
    go_enter Tryd.func39, Tryd.ntmps39
    go_wp2_with fail
    refine Calls.mono (HW1.out _) ?_
    rintro e w1 ⟨rfl, rfl⟩
    go_wp2_with fail
    refine Calls.mono (HW2.out _) ?_
    rintro e w1 ⟨rfl, rfl⟩
    go_wp2_with fail
    go_ret
    exact ⟨rfl, HB.out _ _⟩
  · have HW1 : Hid (∀ W, Calls Tryd.prog 47 #[.int .i64 fr, .int .i64 2, .int .i64 1099511627776] W fun e w' => e = .returned (.bool false) ∧ w' = W) := fun W => withinR W _ _ _ (decide_eq_false h1)
    clear h h1
    go_enter Tryd.func39, Tryd.ntmps39
    go_wp2_with fail
    refine Calls.mono (HW1.out _) ?_
    rintro e w1 ⟨rfl, rfl⟩
    go_wp2_with fail
    go_ret
    exact ⟨rfl, HB.out _ _⟩
set_option maxRecDepth 100000 in
set_option maxHeartbeats 4000000 in
theorem funFit_in (w : World) (cb co : Nat) (cn cc : Nat) (fa : Option Addr) (fn fc : Nat) (m : Int) (C : List Ri) (hcn : cn = C.length) (hC : StsG w (some ⟨cb, co, none⟩) cc 5 (C.map riv)) (hlen : cn ≤ 1000000000) (hfl : fn ≤ 1000000) (f : Rf) (p r : Nat) (hfi : f.fi = (p : Int)) (hct : f.ct = (r : Int) + 1) (hpq : p + (r + 1) ≤ cn) (h1 : 2 ≤ f.fr ∧ f.fr ≤ 1099511627776) (h2 : 0 ≤ f.pa ∧ f.pa ≤ 8) (T : Bool) (hT : T = funF C fn f) :
    Calls Tryd.prog 39 #[.agg #[.slice (some ⟨cb, co, none⟩) cn cc, .slice fa fn fc, .int .i64 m], .agg #[.string f.name, .int .i64 f.fr, .int .i64 (p : Int), .int .i64 ((r : Int) + 1), .int .i64 f.pa]] w fun e w' => e = .returned (.bool T) ∧ Below w.heap.size w w' := by
  have HW1 : Hid (∀ W, Calls Tryd.prog 47 #[.int .i64 f.fr, .int .i64 2, .int .i64 1099511627776] W fun e w' => e = .returned (.bool true) ∧ w' = W) := fun W => withinR W _ _ _ (decide_eq_true h1)
  have HW2 : Hid (∀ W, Calls Tryd.prog 47 #[.int .i64 f.pa, .int .i64 0, .int .i64 8] W fun e w' => e = .returned (.bool true) ∧ w' = W) := fun W => withinR W _ _ _ (decide_eq_true h2)
  have hle := hC.le
  have hmx := hC.mx
  simp at hle
  have hw1 : IntKind.i64.wrap ((p : Int) + ((r : Int) + 1)) = ((p + (r + 1) : Nat) : Int) := by rw [IntKind.wrap_i64]; omega
  have hw2 : IntKind.i64.wrap ((r : Int) + 1 - 1) = (r : Int) := by rw [IntKind.wrap_i64]; omega
  have hp1 : p ≤ p + (r + 1) := by omega
  have hp2 : p + (r + 1) ≤ cc := by omega
  -- what the instructions say
  have HX : Hid ((∀ i, i < r + 1 → regsF (C.getD (p + i) riZ) = true ∧ numF fn f (C.getD (p + i) riZ) = true) → T = lastF (C.getD (p + r) riZ).op) := fun h => by
    rw [hT]
    unfold funF
    rw [decide_eq_true h1, decide_eq_true h2, Bool.true_and, Bool.true_and]
    have e1 : (f.fi + f.ct - 1).toNat = p + r := by rw [hfi, hct]; omega
    rw [e1]
    have ea : ((C.drop f.fi.toNat).take f.ct.toNat).all (fun x => regsF x && numF fn f x) = true := by
      rw [List.all_eq_true]
      intro x hx
      rw [List.mem_iff_getElem?] at hx
      obtain ⟨i, hi⟩ := hx
      have hil : i < r + 1 := by
        rcases Nat.lt_or_ge i (r + 1) with q | q
        · exact q
        · rw [List.getElem?_eq_none (by rw [List.length_take, hct]; omega)] at hi
          cases hi
      rw [List.getElem?_take_of_lt (by rw [hct]; omega), List.getElem?_drop, hfi, Int.toNat_natCast] at hi
      have hg : C.getD (p + i) riZ = x := by simp [List.getD, hi]
      have := h i hil
      rw [hg] at this
      simp [this]
    rw [ea, Bool.true_and]
  have HY : Hid (∀ i, i < r + 1 → (regsF (C.getD (p + i) riZ) && numF fn f (C.getD (p + i) riZ)) = false → T = false) := fun i hi h => by
    rw [hT]
    unfold funF
    rw [decide_eq_true h1, decide_eq_true h2, Bool.true_and, Bool.true_and]
    have ea : ((C.drop f.fi.toNat).take f.ct.toNat).all (fun x => regsF x && numF fn f x) = false := by
      rw [List.all_eq_false]
      refine ⟨C.getD (p + i) riZ, ?_, by rw [h]; simp⟩
      have hl : p + i < C.length := by omega
      rw [List.mem_iff_getElem?]
      refine ⟨i, ?_⟩
      rw [List.getElem?_take_of_lt (by rw [hct]; omega), List.getElem?_drop, hfi, Int.toNat_natCast]
      simp [List.getD, hl]
    rw [ea, Bool.false_and]
  have HN3 : Hid (∀ W op, Calls Tryd.prog 49 #[.int .i64 op, .agg #[.string f.name, .int .i64 f.fr, .int .i64 (p : Int), .int .i64 ((r : Int) + 1), .int .i64 f.pa], .int .i64 (fn : Int)] W fun e w' => e = .returned (.tuple #[.int .i64 (loN op f.fi), .int .i64 (hiN op f.fr f.fi f.ct fn)]) ∧ Below W.heap.size W w') := fun W op => by
    have q := numbers_any W op f.name f.fr f.fi f.ct f.pa (fn : Int) h1 (by rw [hfi, hct]; omega) (by omega)
    rw [hfi, hct] at q
    rw [hfi, hct]
    exact q
  have HW3 : Hid (∀ W x T, numF fn f x = T → Calls Tryd.prog 47 #[.int .i64 x.n, .int .i64 (loN x.op f.fi), .int .i64 (hiN x.op f.fr f.fi f.ct fn)] W fun e w' => e = .returned (.bool T) ∧ w' = W) := fun W x T hT => withinR W _ _ _ (by rw [← hT, numF_eq])
  obtain ⟨A, hA⟩ : ∃ A : Obj, A = .cells #[.slice (some ⟨cb, co, none⟩) cn cc, .slice fa fn fc, .int .i64 m] 25 := ⟨_, rfl⟩
  obtain ⟨B, hB⟩ : ∃ B : Obj, B = .cells #[.string f.name, .int .i64 f.fr, .int .i64 (p : Int), .int .i64 ((r : Int) + 1), .int .i64 f.pa] 40 := ⟨_, rfl⟩
  have HO0 : Hid (TwoR w A B ((w.alloc A).alloc B)) := TwoR.start w A B
  obtain ⟨xb, hxb⟩ : ∃ xb, xb = w.heap.size := ⟨_, rfl⟩
  have HC : Hid (∀ W, TwoR w A B W → (xb < W.heap.size ∧ xb + 1 < W.heap.size) ∧ (W.cell? ⟨xb, 0, none⟩ = some (.slice (some ⟨cb, co, none⟩) cn cc) ∧ W.cell? ⟨xb, 1, none⟩ = some (.slice fa fn fc) ∧ W.cell? ⟨xb, 2, none⟩ = some (.int .i64 m)) ∧ W.cell? ⟨xb + 1, 0, none⟩ = some (.string f.name) ∧ W.cell? ⟨xb + 1, 1, none⟩ = some (.int .i64 f.fr) ∧ W.cell? ⟨xb + 1, 2, none⟩ = some (.int .i64 (p : Int)) ∧ W.cell? ⟨xb + 1, 3, none⟩ = some (.int .i64 ((r : Int) + 1)) ∧ W.cell? ⟨xb + 1, 4, none⟩ = some (.int .i64 f.pa)) := fun W h => by
    rw [hxb]
    have e := h.a.one
    have e2 := h.b.one
    rw [hA] at e
    rw [hB] at e2
    have z : (w.alloc A).heap.size = w.heap.size + 1 := by simp
    rw [z] at e2
    exact ⟨⟨h.a.lt, (Array.getElem?_eq_some_iff.1 e2).1⟩, ⟨cell_arr e rfl, cell_arr e rfl, cell_arr e rfl⟩, cell_arr e2 rfl, cell_arr e2 rfl, cell_arr e2 rfl, cell_arr e2 rfl, cell_arr e2 rfl⟩
  have HCC : Hid (∀ W, TwoR w A B W → ∀ i, i < r + 1 → cb < W.heap.size ∧ W.cell? ⟨cb, co + p * 5 + i * 5, none⟩ = some (.int .i64 (C.getD (p + i) riZ).op) ∧ W.cell? ⟨cb, co + p * 5 + i * 5 + 1, none⟩ = some (.int .i64 (C.getD (p + i) riZ).a) ∧ W.cell? ⟨cb, co + p * 5 + i * 5 + 2, none⟩ = some (.int .i64 (C.getD (p + i) riZ).b) ∧ W.cell? ⟨cb, co + p * 5 + i * 5 + 3, none⟩ = some (.int .i64 (C.getD (p + i) riZ).c) ∧ W.cell? ⟨cb, co + p * 5 + i * 5 + 4, none⟩ = some (.int .i64 (C.getD (p + i) riZ).n)) := fun W h i hi => by
    have hl : p + i < C.length := by omega
    obtain ⟨b, o, e, hlb, g⟩ := ins_at (hC.below h.a.low (Nat.le_refl _)) hl
    cases e
    have eq : C.getD (p + i) riZ = C[p + i] := by simp [List.getD, hl]
    have eo : co + (p + i) * 5 = co + p * 5 + i * 5 := by omega
    rw [eq, ← eo]
    exact ⟨hlb, g⟩
  obtain ⟨W, hW⟩ : ∃ W, W = (w.alloc A).alloc B := ⟨_, rfl⟩
  rw [← hW] at HO0
  obtain ⟨⟨l1, l2⟩, ⟨c0, c1, c2⟩, d0, d1, d2, d3, d4⟩ := HC.out W HO0.out
  clear hC hcn hT hpq h1 h2 hfi hct hle
  have hii : ∀ i : Nat, i < r + 1 → (i : Int) < ((r + 1 : Nat) : Int) := fun i h => by omega
  have HII : Hid _ := hii
  clear hii
  generalize f.fr = frr at *
  generalize f.name = fnm at *
  generalize f.pa = fpa at *
  have HXB : Hid _ := hxb
  clear hxb
  go_enter Tryd.func39, Tryd.ntmps39
  go_upto_region 1 with fail
  rw [← hA, ← hB, ← hW]
  rw [← HXB.out]
  clear hW hA hB
  go_wp2_with fail
  refine Calls.mono (HW1.out _) ?_
  rintro e w1 ⟨rfl, rfl⟩
  go_wp2_with fail
  refine Calls.mono (HW2.out _) ?_
  rintro e w1 ⟨rfl, rfl⟩
  go_wp2_with fail
  rw [show p + (r + 1) - p = r + 1 by omega]
  go_loopw [32] (fun v wr => ∃ i : Nat, i ≤ r + 1 ∧ v = .int .i64 (i : Int) ∧ Hid (∀ j, j < i → regsF (C.getD (p + j) riZ) = true ∧ numF fn f (C.getD (p + j) riZ) = true) ∧ Hid (TwoR w A B wr)) (fun v _ => r + 1 - (intOf v).toNat)
  case atStart => exact ⟨0, by omega, rfl, fun j h => absurd h (Nat.not_lt_zero _), HO0.out⟩
  case round =>
    clear l1 l2 c0 c1 c2 d0 d1 d2 d3 d4 HO0 HW1 HW2
    obtain ⟨i, hi, rfl, HE, HO⟩ := hrel
    obtain ⟨wq, rfl⟩ : ∃ wq, wq = wr := ⟨_, rfl⟩
    by_cases hlt : i < r + 1
    · have hix : (i : Int) < (r : Int) + 1 := by omega
      have hip := HII.out i hlt
      obtain ⟨hlb, q0, q1, q2, q3, q4⟩ := HCC.out wq HO.out i hlt
      obtain ⟨x, hx⟩ : ∃ x, x = C.getD (p + i) riZ := ⟨_, rfl⟩
      rw [← hx] at q0 q1 q2 q3 q4
      have HXX : Hid (x = C.getD (p + i) riZ) := hx
      obtain ⟨W5, hW5⟩ : ∃ W5, W5 = wq.alloc (.cells #[.int .i64 x.op, .int .i64 x.a, .int .i64 x.b, .int .i64 x.c, .int .i64 x.n] 55) := ⟨_, rfl⟩
      have B5 : Below wq.heap.size wq W5 := by rw [hW5]; exact below_newR _ _
      have e5 : W5.heap[wq.heap.size]? = some (.cells #[.int .i64 x.op, .int .i64 x.a, .int .i64 x.b, .int .i64 x.c, .int .i64 x.n] 55 (0, 0)) := by rw [hW5]; exact heap_alloc_new _ _
      obtain ⟨kb, hkb⟩ : ∃ kb, kb = wq.heap.size := ⟨_, rfl⟩
      rw [← hkb] at e5
      have HO5 : Hid (TwoR w A B W5) := HO.out.next B5
      have HX5 : Hid (∀ W, Below W5.heap.size W5 W → kb < W.heap.size ∧ W.cell? ⟨kb, 0, none⟩ = some (.int .i64 x.op) ∧ W.cell? ⟨kb, 1, none⟩ = some (.int .i64 x.a) ∧ W.cell? ⟨kb, 2, none⟩ = some (.int .i64 x.b) ∧ W.cell? ⟨kb, 3, none⟩ = some (.int .i64 x.c) ∧ W.cell? ⟨kb, 4, none⟩ = some (.int .i64 x.n)) := fun W h => by
        have e := (h.block _ (Array.getElem?_eq_some_iff.1 e5).1).trans e5
        exact ⟨(Array.getElem?_eq_some_iff.1 e).1, cell_arr e rfl, cell_arr e rfl, cell_arr e rfl, cell_arr e rfl, cell_arr e rfl⟩
      obtain ⟨lk, r0, r1, r2, r3, r4⟩ := HX5.out W5 (Below.refl _ _)
      obtain ⟨⟨l1, l2⟩, ⟨c0, c1, c2⟩, d0, d1, d2, d3, d4⟩ := HC.out W5 HO5.out
      have HRF : Hid (∀ W T, regsF x = T → Calls Tryd.prog 50 #[.agg #[.int .i64 x.op, .int .i64 x.a, .int .i64 x.b, .int .i64 x.c, .int .i64 x.n]] W fun e w' => e = .returned (.bool T) ∧ Below W.heap.size W w') := fun W T hT => regsFit_any W x.op x.a x.b x.c x.n hT
      clear hx B5 e5
      cases hR : regsF x with
      | false =>
        have HF : Hid (T = false) := HY.out i hlt (by rw [← HXX.out, hR]; rfl)
        have HRR : Hid _ := fun W => HRF.out W _ hR
        clear HRF hR HW3 HY
        go_upto_region 7 with fail
        rw [← hW5, ← hkb]
        clear hW5 hkb q0 q1 q2 q3 q4
        go_wp2_with fail
        refine Calls.mono (HN3.out _ _) ?_
        rintro e w6 ⟨rfl, b6⟩
        have HO6 : Hid _ := HO5.out.next b6
        obtain ⟨k9, s0, s1, s2, s3, s4⟩ := HX5.out w6 b6
        clear l1 l2 c0 c1 c2 d0 d1 d2 d3 d4 lk r0 r1 r2 r3 r4
        go_wp2_with fail
        refine Calls.mono (HRR.out _) ?_
        rintro e w7 ⟨rfl, b7⟩
        have HO7 : Hid (TwoR w A B w7) := HO6.out.next b7
        have HL : Hid _ := HO7.out.a.low
        go_wp2_with fail
        go_ret
        exact ⟨by rw [HF.out]; rfl, HL.out⟩
      | true =>
        have HRR : Hid _ := fun W => HRF.out W _ hR
        cases hN : numF fn f x with
        | false =>
          have HF : Hid (T = false) := HY.out i hlt (by rw [← HXX.out, hR, hN]; rfl)
          have HNN : Hid _ := fun W => HW3.out W x _ hN
          clear HRF hR hN HY HW3
          go_upto_region 7 with fail
          rw [← hW5, ← hkb]
          clear hW5 hkb q0 q1 q2 q3 q4
          go_wp2_with fail
          refine Calls.mono (HN3.out _ _) ?_
          rintro e w6 ⟨rfl, b6⟩
          have HO6 : Hid _ := HO5.out.next b6
          obtain ⟨k9, s0, s1, s2, s3, s4⟩ := HX5.out w6 b6
          clear l1 l2 c0 c1 c2 d0 d1 d2 d3 d4 lk r0 r1 r2 r3 r4
          go_wp2_with fail
          refine Calls.mono (HRR.out _) ?_
          rintro e w7 ⟨rfl, b7⟩
          have HO7 : Hid (TwoR w A B w7) := HO6.out.next b7
          obtain ⟨k8, s0, s1, s2, s3, s4⟩ := HX5.out w7 (b6.trans (b7.mono b6.size))
          go_wp2_with fail
          refine Calls.mono (HNN.out _) ?_
          rintro e w8 ⟨rfl, rfl⟩
          have HL : Hid _ := HO7.out.a.low
          go_wp2_with fail
          go_ret
          exact ⟨by rw [HF.out]; rfl, HL.out⟩
        | true =>
          have HE2 : Hid (∀ j, j < i + 1 → regsF (C.getD (p + j) riZ) = true ∧ numF fn f (C.getD (p + j) riZ) = true) := fun j hj => by
            rcases Nat.lt_succ_iff_lt_or_eq.1 hj with q | rfl
            · exact HE.out j q
            · rw [← HXX.out]; exact ⟨hR, hN⟩
          have HNN : Hid _ := fun W => HW3.out W x _ hN
          clear HRF hR hN HY HE HW3
          go_upto_region 7 with fail
          rw [← hW5, ← hkb]
          clear hW5 hkb q0 q1 q2 q3 q4
          go_wp2_with fail
          refine Calls.mono (HN3.out _ _) ?_
          rintro e w6 ⟨rfl, b6⟩
          have HO6 : Hid _ := HO5.out.next b6
          obtain ⟨k9, s0, s1, s2, s3, s4⟩ := HX5.out w6 b6
          clear l1 l2 c0 c1 c2 d0 d1 d2 d3 d4 lk r0 r1 r2 r3 r4
          go_wp2_with fail
          refine Calls.mono (HRR.out _) ?_
          rintro e w7 ⟨rfl, b7⟩
          have HO7 : Hid (TwoR w A B w7) := HO6.out.next b7
          obtain ⟨k8, s0, s1, s2, s3, s4⟩ := HX5.out w7 (b6.trans (b7.mono b6.size))
          go_wp2_with fail
          refine Calls.mono (HNN.out _) ?_
          rintro e w8 ⟨rfl, rfl⟩
          clear s0 s1 s2 s3 s4
          go_wp2_with fail
          go_roundw
          case rel => exact ⟨i + 1, by omega, by go_num, HE2.out, HO7.out⟩
          case measure => simp [intOf]; omega
    · have hin : i = r + 1 := by omega
      subst hin
      have HTT : Hid (T = lastF (C.getD (p + r) riZ).op) := HX.out HE.out
      have hip := HII.out r (by omega)
      obtain ⟨hlb, q0, q1, q2, q3, q4⟩ := HCC.out wq HO.out r (by omega)
      obtain ⟨⟨l1, l2⟩, ⟨c0, c1, c2⟩, d0, d1, d2, d3, d4⟩ := HC.out wq HO.out
      generalize (C.getD (p + r) riZ).op = xo at *
      have HIL : Hid _ := fun W => isLastR W xo
      have HL : Hid _ := HO.out.a.low
      clear HX HY HN3 HW3 HCC HC HII HE q1 q2 q3 q4 HO
      go_wp2_with fail
      refine Calls.mono (HIL.out _) ?_
      rintro e w6 ⟨rfl, rfl⟩
      go_wp2_with fail
      go_ret
      exact ⟨by rw [HTT.out]; rfl, HL.out⟩
end Go.Proofs.YtjiaedckecfjbaaDoor
