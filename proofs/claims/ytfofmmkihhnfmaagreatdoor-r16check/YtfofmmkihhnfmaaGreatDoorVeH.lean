import Derived.Test.YtfofmmkihhnfmaaGreatDoorVeG
set_option linter.unusedVariables false
set_option linter.unusedSimpArgs false
namespace Go.Proofs.YtfofmmkihhnfmaaGreatDoor
open Go.ChangeShapes Go.WideShapes Go.ChangeAt Go.RowKit Go.Maps

/-- What is written over code. -/
def o35 : List Value := [.int .i64 35, .int .i64 0, .int .i64 0, .int .i64 0, .int .i64 1]
def oth : List Value := [.string ⟨#[111, 116, 104, 101, 114]⟩, .int .i64 0, .int .i64 0, .int .i64 0, .int .i64 0]
set_option maxRecDepth 100000 in
set_option maxHeartbeats 8000000 in
theorem rKept_any (w0 w : World) (g gc h hc : Nat) (mx : Int) (ca : Option Addr) (cn cc : Nat) (fa : Option Addr) (fn fc : Nat) (m : Int) (C : List Ri) (FS : List Rf) (hcn : cn = C.length) (hfn : fn = FS.length) (hC : StsG w0 ca cc 5 (C.map riv)) (hF : StsG w0 fa fc 5 (FS.map rfv)) (hlen : cn ≤ 100000000) (hfl : fn ≤ 1000000) (hL : LnC w0 w (.slice (some ⟨g, 0, none⟩) (cn + 1) gc) (.slice (some ⟨h, 0, none⟩) (fn + 1) hc) (C.map riv ++ [mkI]) (FS.map rfv ++ [mkR])) :
    Calls Tryz.prog 16 #[.agg #[.slice (some ⟨g, 0, none⟩) cn gc, .slice (some ⟨h, 0, none⟩) fn hc, .int .i64 mx], .agg #[.slice ca cn cc, .slice fa fn fc, .int .i64 m]] w fun e w' => e = .returned (.bool true) ∧ LnC w0 w' (.slice (some ⟨g, 0, none⟩) (cn + 1) gc) (.slice (some ⟨h, 0, none⟩) (fn + 1) hc) (List.replicate cn o35 ++ [mkI]) (List.replicate fn oth ++ [mkR]) ∧ Only (GH g h) w w' := by
  obtain ⟨W1, hW1⟩ : ∃ W, W = (w.alloc (.cells #[.slice (some ⟨g, 0, none⟩) cn gc, .slice (some ⟨h, 0, none⟩) fn hc, .int .i64 mx] 25)).alloc (.cells #[.slice ca cn cc, .slice fa fn fc, .int .i64 m] 25) := ⟨_, rfl⟩
  have eal : W1 = al w [.cells #[.slice (some ⟨g, 0, none⟩) cn gc, .slice (some ⟨h, 0, none⟩) fn hc, .int .i64 mx] 25, .cells #[.slice ca cn cc, .slice fa fn fc, .int .i64 m] 25] := hW1
  obtain ⟨p, hp⟩ : ∃ p, p = w.heap.size := ⟨_, rfl⟩
  have k0 : W1.heap[p]? = some (.cells #[.slice (some ⟨g, 0, none⟩) cn gc, .slice (some ⟨h, 0, none⟩) fn hc, .int .i64 mx] 25 (0, 0)) := by rw [eal, hp]; exact al_at _ w 0 (by simp)
  have k1 : W1.heap[p + 1]? = some (.cells #[.slice ca cn cc, .slice fa fn fc, .int .i64 m] 25 (0, 0)) := by rw [eal, hp]; exact al_at _ w 1 (by simp)
  have b1 : Below w.heap.size w W1 := by rw [eal]; exact al_below _ w
  have HB1 : Hid (LnB W1 p #[.slice (some ⟨g, 0, none⟩) cn gc, .slice (some ⟨h, 0, none⟩) fn hc, .int .i64 mx] #[.slice ca cn cc, .slice fa fn fc, .int .i64 m]) := ⟨k0, k1⟩
  have HIN : Hid (∀ W, Below w0.heap.size w0 W → StsG W ca cc 5 (C.map riv) ∧ StsG W fa fc 5 (FS.map rfv)) := fun W bW => ⟨hC.below bW (Nat.le_refl _), hF.below bW (Nat.le_refl _)⟩
  have HLE : Hid (cn = C.length ∧ fn = FS.length ∧ cn ≤ 100000000 ∧ fn ≤ 1000000) := ⟨hcn, hfn, hlen, hfl⟩
  have HG : Hid (g < p ∧ h < p) := by
    have a := own_block hL.ins.out (g := g) rfl
    have b := own_block hL.fns.out (g := h) rfl
    show _ ∧ _
    omega
  have HL1 : Hid _ := hL.keep b1
  have HO1 : Hid (Only (GH g h) w W1) := Only.of_below b1 _
  have hcb : cn ≤ 100000000 := hlen
  have hfb : fn ≤ 1000000 := hfl
  have hgc : cn + 1 ≤ gc := by obtain ⟨_, _, ev, q, _⟩ := own_slice hL.ins.out; simp only [Value.slice.injEq, List.length_append, List.length_map, List.length_cons, List.length_nil, List.length_replicate] at ev q; omega
  have hhc : fn + 1 ≤ hc := by obtain ⟨_, _, ev, q, _⟩ := own_slice hL.fns.out; simp only [Value.slice.injEq, List.length_append, List.length_map, List.length_cons, List.length_nil, List.length_replicate] at ev q; omega
  have hgm : gc ≤ 9223372036854775807 := by obtain ⟨_, _, ev, _, q⟩ := own_slice hL.ins.out; simp only [Value.slice.injEq] at ev; omega
  have hhm : hc ≤ 9223372036854775807 := by obtain ⟨_, _, ev, _, q⟩ := own_slice hL.fns.out; simp only [Value.slice.injEq] at ev; omega
  clear hcn hfn hC hF hlen hfl eal k0 k1 b1 hL
  go_enter Tryz.func16, Tryz.ntmps16
  go_upto_region 1 with fail
  rw [← hW1, ← hp]
  clear hW1 hp
  have HL2 : Hid (LnC w0 W1 (.slice (some ⟨g, 0, none⟩) (cn + 1) gc) (.slice (some ⟨h, 0, none⟩) (fn + 1) hc) (ovr5 o35 (C.map riv) mkI 0) (ovr5 oth (FS.map rfv) mkR 0)) := by rw [ovr5_zero, ovr5_zero]; exact HL1.out
  clear HL1
  have bl0 := (Array.getElem?_eq_some_iff.1 HB1.out.k0).1
  have bl1 := (Array.getElem?_eq_some_iff.1 HB1.out.k1).1
  have c0 : W1.cell? ⟨p, 0, none⟩ = some (.slice (some ⟨g, 0, none⟩) cn gc) := cell_arr HB1.out.k0 rfl
  have c1 : W1.cell? ⟨p, 1, none⟩ = some (.slice (some ⟨h, 0, none⟩) fn hc) := cell_arr HB1.out.k0 rfl
  have d0 : W1.cell? ⟨p + 1, 0, none⟩ = some (.slice ca cn cc) := cell_arr HB1.out.k1 rfl
  have d1 : W1.cell? ⟨p + 1, 1, none⟩ = some (.slice fa fn fc) := cell_arr HB1.out.k1 rfl
  have m0 : W1.cell? ⟨g, cn * 5, none⟩ = some (.int .i64 (-71)) := rowE_cell (r := 0) HL2.out.ins (i := cn) (by have := ovr5_mark o35 (C.map riv) mkI (i := 0) (by omega); rw [List.length_map, ← HLE.out.1] at this; exact this) rfl
  have m1 : W1.cell? ⟨h, fn * 5 + 2, none⟩ = some (.int .i64 (-71)) := rowE_cell (r := 2) HL2.out.fns (i := fn) (by have := ovr5_mark oth (FS.map rfv) mkR (i := 0) (by omega); rw [List.length_map, ← HLE.out.2.1] at this; exact this) rfl
  have gl0 : g < W1.heap.size := by have := HG.out; omega
  have gl1 : h < W1.heap.size := by have := HG.out; omega
  have w1 : IntKind.i64.wrap ((cn : Int) + 1) = ((cn + 1 : Nat) : Int) := by rw [IntKind.wrap_i64]; omega
  have w2 : IntKind.i64.wrap ((fn : Int) + 1) = ((fn + 1 : Nat) : Int) := by rw [IntKind.wrap_i64]; omega
  have hlt1 : cn < cn + 1 := by omega
  have hlt2 : fn < fn + 1 := by omega
  go_wp2_with fail
  clear bl0 bl1 c0 c1 d0 d1 m0 m1 gl0 gl1 w1 w2 hlt1 hlt2
  go_loopw [7, 8] (fun v7 v8 wr => ∃ i : Nat, i ≤ cn ∧ v7 = .bool true ∧ v8 = .int .i64 (i : Int) ∧ Hid (LnC w0 wr (.slice (some ⟨g, 0, none⟩) (cn + 1) gc) (.slice (some ⟨h, 0, none⟩) (fn + 1) hc) (ovr5 o35 (C.map riv) mkI i) (ovr5 oth (FS.map rfv) mkR 0)) ∧ Hid (LnB wr p #[.slice (some ⟨g, 0, none⟩) cn gc, .slice (some ⟨h, 0, none⟩) fn hc, .int .i64 mx] #[.slice ca cn cc, .slice fa fn fc, .int .i64 m]) ∧ Hid (Only (GH g h) w wr)) (fun v7 v8 _ => cn - (intOf v8).toNat)
  case atStart => exact ⟨0, Nat.zero_le _, rfl, rfl, HL2.out, HB1.out, HO1.out⟩
  case round =>
    obtain ⟨i, hi, rfl, rfl, HL, HB, HO⟩ := hrel
    by_cases hlt : i < cn
    · have HLT : Hid (i < cn) := hlt
      have his : i < C.length := by have := HLE.out.1; omega
      have HIS : Hid (i < C.length) := his
      have HIL : Hid (i < (C.map riv).length) := by show _ < _; rw [List.length_map]; exact his
      have hib : i < 100000000 := by omega
      obtain ⟨sb, so, e0, hsb, s0, s1, s2, s3, s4⟩ := ins_at (HIN.out wr HL.out.low).1 his
      subst e0
      obtain ⟨X, hX⟩ : ∃ X, X = C[i]'HIS.out := ⟨_, rfl⟩
      have HXE : Hid ((C.map riv)[i]'HIL.out = riv X) := by show _ = _; rw [hX, List.getElem_map]
      replace s0 : wr.cell? ⟨sb, so + i * 5, none⟩ = some (.int .i64 X.op) := by rw [hX]; exact s0
      replace s1 : wr.cell? ⟨sb, so + i * 5 + 1, none⟩ = some (.int .i64 X.a) := by rw [hX]; exact s1
      replace s2 : wr.cell? ⟨sb, so + i * 5 + 2, none⟩ = some (.int .i64 X.b) := by rw [hX]; exact s2
      replace s3 : wr.cell? ⟨sb, so + i * 5 + 3, none⟩ = some (.int .i64 X.c) := by rw [hX]; exact s3
      replace s4 : wr.cell? ⟨sb, so + i * 5 + 4, none⟩ = some (.int .i64 X.n) := by rw [hX]; exact s4
      have hq : (ovr5 o35 (C.map riv) mkI i)[i]? = some (riv X) := by rw [ovr5_at _ _ _ HIL.out, HXE.out]
      have t0 : wr.cell? ⟨g, i * 5, none⟩ = some (.int .i64 X.op) := rowE_cell (r := 0) HL.out.ins hq rfl
      have t1 : wr.cell? ⟨g, i * 5 + 1, none⟩ = some (.int .i64 X.a) := rowE_cell (r := 1) HL.out.ins hq rfl
      have t2 : wr.cell? ⟨g, i * 5 + 2, none⟩ = some (.int .i64 X.b) := rowE_cell (r := 2) HL.out.ins hq rfl
      have t3 : wr.cell? ⟨g, i * 5 + 3, none⟩ = some (.int .i64 X.c) := rowE_cell (r := 3) HL.out.ins hq rfl
      have t4 : wr.cell? ⟨g, i * 5 + 4, none⟩ = some (.int .i64 X.n) := rowE_cell (r := 4) HL.out.ins hq rfl
      obtain ⟨gb, gcap, gcs, ge, _, _, _, gk⟩ := HL.out.ins.some (by have := (List.getElem?_eq_some_iff.1 hq).1; omega)
      simp only [Value.slice.injEq, Option.some.injEq, Addr.mk.injEq] at ge
      obtain ⟨⟨rfl, _⟩, _, _⟩ := ge
      have z0 : wr.frozen? ⟨g, i * 5, none⟩ = false := fz_of gk
      have z1 : wr.frozen? ⟨g, i * 5 + 1, none⟩ = false := fz_of gk
      have z2 : wr.frozen? ⟨g, i * 5 + 2, none⟩ = false := fz_of gk
      have z3 : wr.frozen? ⟨g, i * 5 + 3, none⟩ = false := fz_of gk
      have z4 : wr.frozen? ⟨g, i * 5 + 4, none⟩ = false := fz_of gk
      have hgl : g < wr.heap.size := (Array.getElem?_eq_some_iff.1 gk).1
      have HQ : Hid _ := hq
      clear hX hq gk
      have bl0 := (Array.getElem?_eq_some_iff.1 HB.out.k0).1
      have bl1 := (Array.getElem?_eq_some_iff.1 HB.out.k1).1
      have c0 : wr.cell? ⟨p, 0, none⟩ = some (.slice (some ⟨g, 0, none⟩) cn gc) := cell_arr HB.out.k0 rfl
      have c1 : wr.cell? ⟨p, 1, none⟩ = some (.slice (some ⟨h, 0, none⟩) fn hc) := cell_arr HB.out.k0 rfl
      have d0 : wr.cell? ⟨p + 1, 0, none⟩ = some (.slice (some ⟨sb, so, none⟩) cn cc) := cell_arr HB.out.k1 rfl
      have d1 : wr.cell? ⟨p + 1, 1, none⟩ = some (.slice fa fn fc) := cell_arr HB.out.k1 rfl
      go_wp2_with fail
      go_quiet (fail)
      go_wp2_with fail
      go_roundw
      case rel =>
        refine ⟨i + 1, by have := HLT.out; omega, rfl, by go_num, ?_, ?_, ?_⟩
        · rw [← ovr5_set _ _ _ HIL.out]
          exact (HL.out.keep (below_drewN (Below.refl _ _) _)).putI (by rw [ovr5_len _ _ _ (Nat.le_of_lt HIL.out), List.length_map, ← HLE.out.1]) (by rw [ovr5_len _ _ _ (Nat.le_of_lt HIL.out)]; have := HIL.out; omega) (by obtain ⟨_, e⟩ := List.getElem?_eq_some_iff.1 HQ.out; exact e) _ _ _ _ _
        · exact (HB.out.keep (below_drewN (Below.refl _ _) _)).put (by have := HG.out; omega) (by have := HG.out; omega) _ _ _ _ _ _ _ _ _ _
        · exact onlyE_put (onlyE_keep HO.out (below_drewN (Below.refl _ _) _)) (Or.inl rfl) _ _ _ _ _ _ _ _ _ _
      case measure => have := HLT.out; simp [intOf]; omega
    · have hie : i = cn := by omega
      have HE1 : Hid (LnC w0 wr (.slice (some ⟨g, 0, none⟩) (cn + 1) gc) (.slice (some ⟨h, 0, none⟩) (fn + 1) hc) (ovr5 o35 (C.map riv) mkI cn) (ovr5 oth (FS.map rfv) mkR 0)) := by have := HL.out; rw [hie] at this; exact this
      have HBE : Hid _ := HB.out
      have HOE : Hid _ := HO.out
      have bl0 := (Array.getElem?_eq_some_iff.1 HB.out.k0).1
      have bl1 := (Array.getElem?_eq_some_iff.1 HB.out.k1).1
      have c0 : wr.cell? ⟨p, 0, none⟩ = some (.slice (some ⟨g, 0, none⟩) cn gc) := cell_arr HB.out.k0 rfl
      have c1 : wr.cell? ⟨p, 1, none⟩ = some (.slice (some ⟨h, 0, none⟩) fn hc) := cell_arr HB.out.k0 rfl
      have d0 : wr.cell? ⟨p + 1, 0, none⟩ = some (.slice ca cn cc) := cell_arr HB.out.k1 rfl
      have d1 : wr.cell? ⟨p + 1, 1, none⟩ = some (.slice fa fn fc) := cell_arr HB.out.k1 rfl
      clear HL hie
      go_wp2_with fail
      clear bl0 bl1 c0 c1 d0 d1
      go_loopw [7, 9] (fun v7 v8 wr => ∃ i : Nat, i ≤ fn ∧ v7 = .bool true ∧ v8 = .int .i64 (i : Int) ∧ Hid (LnC w0 wr (.slice (some ⟨g, 0, none⟩) (cn + 1) gc) (.slice (some ⟨h, 0, none⟩) (fn + 1) hc) (ovr5 o35 (C.map riv) mkI cn) (ovr5 oth (FS.map rfv) mkR i)) ∧ Hid (LnB wr p #[.slice (some ⟨g, 0, none⟩) cn gc, .slice (some ⟨h, 0, none⟩) fn hc, .int .i64 mx] #[.slice ca cn cc, .slice fa fn fc, .int .i64 m]) ∧ Hid (Only (GH g h) w wr)) (fun v7 v8 _ => fn - (intOf v8).toNat)
      case atStart => exact ⟨0, Nat.zero_le _, rfl, rfl, HE1.out, HBE.out, HOE.out⟩
      case round =>
        obtain ⟨i, hi, rfl, rfl, HL, HB, HO⟩ := hrel
        by_cases hlt : i < fn
        · have HLT : Hid (i < fn) := hlt
          have his : i < FS.length := by have := HLE.out.2.1; omega
          have HIS : Hid (i < FS.length) := his
          have HIL : Hid (i < (FS.map rfv).length) := by show _ < _; rw [List.length_map]; exact his
          have hib : i < 100000000 := by omega
          obtain ⟨sb, so, e0, hsb, s0, s1, s2, s3, s4⟩ := fnr_at (HIN.out wr HL.out.low).2 his
          subst e0
          obtain ⟨X, hX⟩ : ∃ X, X = FS[i]'HIS.out := ⟨_, rfl⟩
          have HXE : Hid ((FS.map rfv)[i]'HIL.out = rfv X) := by show _ = _; rw [hX, List.getElem_map]
          replace s0 : wr.cell? ⟨sb, so + i * 5, none⟩ = some (.string X.name) := by rw [hX]; exact s0
          replace s1 : wr.cell? ⟨sb, so + i * 5 + 1, none⟩ = some (.int .i64 X.fr) := by rw [hX]; exact s1
          replace s2 : wr.cell? ⟨sb, so + i * 5 + 2, none⟩ = some (.int .i64 X.fi) := by rw [hX]; exact s2
          replace s3 : wr.cell? ⟨sb, so + i * 5 + 3, none⟩ = some (.int .i64 X.ct) := by rw [hX]; exact s3
          replace s4 : wr.cell? ⟨sb, so + i * 5 + 4, none⟩ = some (.int .i64 X.pa) := by rw [hX]; exact s4
          have hq : (ovr5 oth (FS.map rfv) mkR i)[i]? = some (rfv X) := by rw [ovr5_at _ _ _ HIL.out, HXE.out]
          have t0 : wr.cell? ⟨h, i * 5, none⟩ = some (.string X.name) := rowE_cell (r := 0) HL.out.fns hq rfl
          have t1 : wr.cell? ⟨h, i * 5 + 1, none⟩ = some (.int .i64 X.fr) := rowE_cell (r := 1) HL.out.fns hq rfl
          have t2 : wr.cell? ⟨h, i * 5 + 2, none⟩ = some (.int .i64 X.fi) := rowE_cell (r := 2) HL.out.fns hq rfl
          have t3 : wr.cell? ⟨h, i * 5 + 3, none⟩ = some (.int .i64 X.ct) := rowE_cell (r := 3) HL.out.fns hq rfl
          have t4 : wr.cell? ⟨h, i * 5 + 4, none⟩ = some (.int .i64 X.pa) := rowE_cell (r := 4) HL.out.fns hq rfl
          obtain ⟨gb, gcap, gcs, ge, _, _, _, gk⟩ := HL.out.fns.some (by have := (List.getElem?_eq_some_iff.1 hq).1; omega)
          simp only [Value.slice.injEq, Option.some.injEq, Addr.mk.injEq] at ge
          obtain ⟨⟨rfl, _⟩, _, _⟩ := ge
          have z0 : wr.frozen? ⟨h, i * 5, none⟩ = false := fz_of gk
          have z1 : wr.frozen? ⟨h, i * 5 + 1, none⟩ = false := fz_of gk
          have z2 : wr.frozen? ⟨h, i * 5 + 2, none⟩ = false := fz_of gk
          have z3 : wr.frozen? ⟨h, i * 5 + 3, none⟩ = false := fz_of gk
          have z4 : wr.frozen? ⟨h, i * 5 + 4, none⟩ = false := fz_of gk
          have hgl : h < wr.heap.size := (Array.getElem?_eq_some_iff.1 gk).1
          have HQ : Hid _ := hq
          clear hX hq gk
          have bl0 := (Array.getElem?_eq_some_iff.1 HB.out.k0).1
          have bl1 := (Array.getElem?_eq_some_iff.1 HB.out.k1).1
          have c0 : wr.cell? ⟨p, 0, none⟩ = some (.slice (some ⟨g, 0, none⟩) cn gc) := cell_arr HB.out.k0 rfl
          have c1 : wr.cell? ⟨p, 1, none⟩ = some (.slice (some ⟨h, 0, none⟩) fn hc) := cell_arr HB.out.k0 rfl
          have d0 : wr.cell? ⟨p + 1, 0, none⟩ = some (.slice ca cn cc) := cell_arr HB.out.k1 rfl
          have d1 : wr.cell? ⟨p + 1, 1, none⟩ = some (.slice (some ⟨sb, so, none⟩) fn fc) := cell_arr HB.out.k1 rfl
          go_wp2_with fail
          go_quiet (fail)
          go_wp2_with fail
          go_roundw
          case rel =>
            refine ⟨i + 1, by have := HLT.out; omega, rfl, by go_num, ?_, ?_, ?_⟩
            · rw [← ovr5_set _ _ _ HIL.out]
              exact (HL.out.keep (below_drewN (Below.refl _ _) _)).putR (by rw [ovr5_len _ _ _ (Nat.le_of_lt HIL.out), List.length_map, ← HLE.out.2.1]) (by rw [ovr5_len _ _ _ (Nat.le_of_lt HIL.out)]; have := HIL.out; omega) (by obtain ⟨_, e⟩ := List.getElem?_eq_some_iff.1 HQ.out; exact e) _ _ _ _ _
            · exact (HB.out.keep (below_drewN (Below.refl _ _) _)).put (by have := HG.out; omega) (by have := HG.out; omega) _ _ _ _ _ _ _ _ _ _
            · exact onlyE_put (onlyE_keep HO.out (below_drewN (Below.refl _ _) _)) (Or.inr rfl) _ _ _ _ _ _ _ _ _ _
          case measure => have := HLT.out; simp [intOf]; omega
        · have hie : i = fn := by omega
          have HE2 : Hid (LnC w0 wr (.slice (some ⟨g, 0, none⟩) (cn + 1) gc) (.slice (some ⟨h, 0, none⟩) (fn + 1) hc) (ovr5 o35 (C.map riv) mkI cn) (ovr5 oth (FS.map rfv) mkR fn)) := by have := HL.out; rw [hie] at this; exact this
          have HFIN : Hid (LnC w0 wr (.slice (some ⟨g, 0, none⟩) (cn + 1) gc) (.slice (some ⟨h, 0, none⟩) (fn + 1) hc) (List.replicate cn o35 ++ [mkI]) (List.replicate fn oth ++ [mkR])) := by
            have e1 := ovr5_end o35 (C.map riv) mkI
            have e2 := ovr5_end oth (FS.map rfv) mkR
            rw [List.length_map, ← HLE.out.1] at e1
            rw [List.length_map, ← HLE.out.2.1] at e2
            rw [← e1, ← e2]
            exact HE2.out
          have bl0 := (Array.getElem?_eq_some_iff.1 HB.out.k0).1
          have bl1 := (Array.getElem?_eq_some_iff.1 HB.out.k1).1
          have c0 : wr.cell? ⟨p, 0, none⟩ = some (.slice (some ⟨g, 0, none⟩) cn gc) := cell_arr HB.out.k0 rfl
          have c1 : wr.cell? ⟨p, 1, none⟩ = some (.slice (some ⟨h, 0, none⟩) fn hc) := cell_arr HB.out.k0 rfl
          have d0 : wr.cell? ⟨p + 1, 0, none⟩ = some (.slice ca cn cc) := cell_arr HB.out.k1 rfl
          have d1 : wr.cell? ⟨p + 1, 1, none⟩ = some (.slice fa fn fc) := cell_arr HB.out.k1 rfl
          clear HL HE2 hie
          go_wp2_with fail
          go_ret
          exact ⟨rfl, HFIN.out, HO.out⟩
end Go.Proofs.YtfofmmkihhnfmaaGreatDoor
