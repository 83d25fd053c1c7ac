import Derived.Test.YtfofmmkihhnfmaaGreatDoorVeH
set_option linter.unusedVariables false
set_option linter.unusedSimpArgs false
namespace Go.Proofs.YtfofmmkihhnfmaaGreatDoor
open Go.ChangeShapes Go.WideShapes Go.ChangeAt Go.RowKit Go.Maps

/-- A list part of which was filled again. -/
def fil5 (o : List Value) (L : List (List Value)) (mk : List Value) (i : Nat) : List (List Value) := (L.take i ++ List.replicate (L.length - i) o) ++ [mk]
theorem fil5_len (o : List Value) (L : List (List Value)) (mk : List Value) {i : Nat} (hi : i ≤ L.length) : (fil5 o L mk i).length = L.length + 1 := by
  unfold fil5
  simp
  omega
theorem fil5_zero (o : List Value) (L : List (List Value)) (mk : List Value) : fil5 o L mk 0 = List.replicate L.length o ++ [mk] := by
  unfold fil5
  simp
theorem fil5_at (o : List Value) (L : List (List Value)) (mk : List Value) {i : Nat} (hi : i < L.length) : (fil5 o L mk i)[i]? = some o := by
  unfold fil5
  rw [List.getElem?_append_left (by simp; omega), List.getElem?_append_right (by simp; omega), List.length_take, Nat.min_eq_left (Nat.le_of_lt hi), Nat.sub_self, List.getElem?_replicate, if_pos (by omega)]
theorem fil5_set (o : List Value) (L : List (List Value)) (mk : List Value) {i : Nat} (hi : i < L.length) : (fil5 o L mk i).set i L[i] = fil5 o L mk (i + 1) := by
  unfold fil5
  rw [List.set_append_left _ _ (by simp; omega), List.set_append_right _ _ (by simp; omega), List.length_take, Nat.min_eq_left (Nat.le_of_lt hi), Nat.sub_self]
  congr 1
  rw [show L.length - i = (L.length - (i + 1)) + 1 by omega, List.replicate_succ, List.set_cons_zero, ← List.take_append_getElem hi, List.append_assoc]
  rfl
theorem fil5_end (o : List Value) (L : List (List Value)) (mk : List Value) : fil5 o L mk L.length = L ++ [mk] := by
  unfold fil5
  simp
set_option maxRecDepth 100000 in
set_option maxHeartbeats 8000000 in
theorem rFill_any (w0 w : World) (g gc h hc : Nat) (mx : Int) (ca : Option Addr) (cn cc : Nat) (fa : Option Addr) (fn fc : Nat) (m : Int) (C : List Ri) (FS : List Rf) (hcn : cn = C.length) (hfn : fn = FS.length) (hC : StsG w0 ca cc 5 (C.map riv)) (hF : StsG w0 fa fc 5 (FS.map rfv)) (hlen : cn ≤ 100000000) (hfl : fn ≤ 1000000) (hL : LnC w0 w (.slice (some ⟨g, 0, none⟩) (cn + 1) gc) (.slice (some ⟨h, 0, none⟩) (fn + 1) hc) (List.replicate cn o35 ++ [mkI]) (List.replicate fn oth ++ [mkR])) :
    Calls Tryz.prog 17 #[.agg #[.slice (some ⟨g, 0, none⟩) cn gc, .slice (some ⟨h, 0, none⟩) fn hc, .int .i64 mx], .agg #[.slice ca cn cc, .slice fa fn fc, .int .i64 m]] w fun e w' => e = .returned (.tuple #[]) ∧ LnC w0 w' (.slice (some ⟨g, 0, none⟩) (cn + 1) gc) (.slice (some ⟨h, 0, none⟩) (fn + 1) hc) (C.map riv ++ [mkI]) (FS.map rfv ++ [mkR]) ∧ Only (GH g h) w w' := by
  obtain ⟨W1, hW1⟩ : ∃ W, W = (w.alloc (.cells #[.slice (some ⟨g, 0, none⟩) cn gc, .slice (some ⟨h, 0, none⟩) fn hc, .int .i64 mx] 25)).alloc (.cells #[.slice ca cn cc, .slice fa fn fc, .int .i64 m] 25) := ⟨_, rfl⟩
  have eal : W1 = al w [.cells #[.slice (some ⟨g, 0, none⟩) cn gc, .slice (some ⟨h, 0, none⟩) fn hc, .int .i64 mx] 25, .cells #[.slice ca cn cc, .slice fa fn fc, .int .i64 m] 25] := hW1
  obtain ⟨p, hp⟩ : ∃ p, p = w.heap.size := ⟨_, rfl⟩
  have k0 : W1.heap[p]? = some (.cells #[.slice (some ⟨g, 0, none⟩) cn gc, .slice (some ⟨h, 0, none⟩) fn hc, .int .i64 mx] 25 (0, 0)) := by rw [eal, hp]; exact al_at _ w 0 (by simp)
  have k1 : W1.heap[p + 1]? = some (.cells #[.slice ca cn cc, .slice fa fn fc, .int .i64 m] 25 (0, 0)) := by rw [eal, hp]; exact al_at _ w 1 (by simp)
  have b1 : Below w.heap.size w W1 := by rw [eal]; exact al_below _ w
  have HB1 : Hid (LnB W1 p #[.slice (some ⟨g, 0, none⟩) cn gc, .slice (some ⟨h, 0, none⟩) fn hc, .int .i64 mx] #[.slice ca cn cc, .slice fa fn fc, .int .i64 m]) := ⟨k0, k1⟩
  have HIN : Hid (∀ W, Below w0.heap.size w0 W → StsG W ca cc 5 (C.map riv) ∧ StsG W fa fc 5 (FS.map rfv)) := fun W bW => ⟨hC.below bW (Nat.le_refl _), hF.below bW (Nat.le_refl _)⟩
  have HLE : Hid (cn = C.length ∧ fn = FS.length ∧ cn ≤ 100000000 ∧ fn ≤ 1000000) := ⟨hcn, hfn, hlen, hfl⟩
  have HG : Hid (g < p ∧ h < p) := by
    have a := own_block hL.ins.out (g := g) rfl
    have b := own_block hL.fns.out (g := h) rfl
    show _ ∧ _
    omega
  have HL1 : Hid _ := hL.keep b1
  have HO1 : Hid (Only (GH g h) w W1) := Only.of_below b1 _
  have hcb : cn ≤ 100000000 := hlen
  have hfb : fn ≤ 1000000 := hfl
  have hgc : cn + 1 ≤ gc := by obtain ⟨_, _, ev, q, _⟩ := own_slice hL.ins.out; simp only [Value.slice.injEq, List.length_append, List.length_map, List.length_cons, List.length_nil, List.length_replicate] at ev q; omega
  have hhc : fn + 1 ≤ hc := by obtain ⟨_, _, ev, q, _⟩ := own_slice hL.fns.out; simp only [Value.slice.injEq, List.length_append, List.length_map, List.length_cons, List.length_nil, List.length_replicate] at ev q; omega
  have hgm : gc ≤ 9223372036854775807 := by obtain ⟨_, _, ev, _, q⟩ := own_slice hL.ins.out; simp only [Value.slice.injEq] at ev; omega
  have hhm : hc ≤ 9223372036854775807 := by obtain ⟨_, _, ev, _, q⟩ := own_slice hL.fns.out; simp only [Value.slice.injEq] at ev; omega
  clear hcn hfn hC hF hlen hfl eal k0 k1 b1 hL
  go_enter Tryz.func17, Tryz.ntmps17
  go_upto_region 1 with fail
  rw [← hW1, ← hp]
  clear hW1 hp
  have HL2 : Hid (LnC w0 W1 (.slice (some ⟨g, 0, none⟩) (cn + 1) gc) (.slice (some ⟨h, 0, none⟩) (fn + 1) hc) (fil5 o35 (C.map riv) mkI 0) (fil5 oth (FS.map rfv) mkR 0)) := by
    rw [fil5_zero, fil5_zero, List.length_map, List.length_map, ← HLE.out.1, ← HLE.out.2.1]
    exact HL1.out
  clear HL1
  go_wp2_with fail
  go_loopw [4] (fun v8 wr => ∃ i : Nat, i ≤ cn ∧ v8 = .int .i64 (i : Int) ∧ Hid (LnC w0 wr (.slice (some ⟨g, 0, none⟩) (cn + 1) gc) (.slice (some ⟨h, 0, none⟩) (fn + 1) hc) (fil5 o35 (C.map riv) mkI i) (fil5 oth (FS.map rfv) mkR 0)) ∧ Hid (LnB wr p #[.slice (some ⟨g, 0, none⟩) cn gc, .slice (some ⟨h, 0, none⟩) fn hc, .int .i64 mx] #[.slice ca cn cc, .slice fa fn fc, .int .i64 m]) ∧ Hid (Only (GH g h) w wr)) (fun v8 _ => cn - (intOf v8).toNat)
  case atStart => exact ⟨0, Nat.zero_le _, rfl, HL2.out, HB1.out, HO1.out⟩
  case round =>
    obtain ⟨i, hi, rfl, HL, HB, HO⟩ := hrel
    by_cases hlt : i < cn
    · have HLT : Hid (i < cn) := hlt
      have his : i < C.length := by have := HLE.out.1; omega
      have HIS : Hid (i < C.length) := his
      have HIL : Hid (i < (C.map riv).length) := by show _ < _; rw [List.length_map]; exact his
      have hib : i < 100000000 := by omega
      obtain ⟨sb, so, e0, hsb, s0, s1, s2, s3, s4⟩ := ins_at (HIN.out wr HL.out.low).1 his
      subst e0
      obtain ⟨X, hX⟩ : ∃ X, X = C[i]'HIS.out := ⟨_, rfl⟩
      have HXE : Hid ((C.map riv)[i]'HIL.out = riv X) := by show _ = _; rw [hX, List.getElem_map]
      replace s0 : wr.cell? ⟨sb, so + i * 5, none⟩ = some (.int .i64 X.op) := by rw [hX]; exact s0
      replace s1 : wr.cell? ⟨sb, so + i * 5 + 1, none⟩ = some (.int .i64 X.a) := by rw [hX]; exact s1
      replace s2 : wr.cell? ⟨sb, so + i * 5 + 2, none⟩ = some (.int .i64 X.b) := by rw [hX]; exact s2
      replace s3 : wr.cell? ⟨sb, so + i * 5 + 3, none⟩ = some (.int .i64 X.c) := by rw [hX]; exact s3
      replace s4 : wr.cell? ⟨sb, so + i * 5 + 4, none⟩ = some (.int .i64 X.n) := by rw [hX]; exact s4
      have hq : (fil5 o35 (C.map riv) mkI i)[i]? = some o35 := fil5_at _ _ _ HIL.out
      have t0 : wr.cell? ⟨g, i * 5, none⟩ = some (.int .i64 35) := rowE_cell (r := 0) HL.out.ins hq rfl
      have t1 : wr.cell? ⟨g, i * 5 + 1, none⟩ = some (.int .i64 0) := rowE_cell (r := 1) HL.out.ins hq rfl
      have t2 : wr.cell? ⟨g, i * 5 + 2, none⟩ = some (.int .i64 0) := rowE_cell (r := 2) HL.out.ins hq rfl
      have t3 : wr.cell? ⟨g, i * 5 + 3, none⟩ = some (.int .i64 0) := rowE_cell (r := 3) HL.out.ins hq rfl
      have t4 : wr.cell? ⟨g, i * 5 + 4, none⟩ = some (.int .i64 1) := rowE_cell (r := 4) HL.out.ins hq rfl
      obtain ⟨gb, gcap, gcs, ge, _, _, _, gk⟩ := HL.out.ins.some (by have := (List.getElem?_eq_some_iff.1 hq).1; omega)
      simp only [Value.slice.injEq, Option.some.injEq, Addr.mk.injEq] at ge
      obtain ⟨⟨rfl, _⟩, _, _⟩ := ge
      have z0 : wr.frozen? ⟨g, i * 5, none⟩ = false := fz_of gk
      have z1 : wr.frozen? ⟨g, i * 5 + 1, none⟩ = false := fz_of gk
      have z2 : wr.frozen? ⟨g, i * 5 + 2, none⟩ = false := fz_of gk
      have z3 : wr.frozen? ⟨g, i * 5 + 3, none⟩ = false := fz_of gk
      have z4 : wr.frozen? ⟨g, i * 5 + 4, none⟩ = false := fz_of gk
      have hgl : g < wr.heap.size := (Array.getElem?_eq_some_iff.1 gk).1
      have HQ : Hid _ := hq
      clear hX hq gk
      have bl0 := (Array.getElem?_eq_some_iff.1 HB.out.k0).1
      have bl1 := (Array.getElem?_eq_some_iff.1 HB.out.k1).1
      have c0 : wr.cell? ⟨p, 0, none⟩ = some (.slice (some ⟨g, 0, none⟩) cn gc) := cell_arr HB.out.k0 rfl
      have c1 : wr.cell? ⟨p, 1, none⟩ = some (.slice (some ⟨h, 0, none⟩) fn hc) := cell_arr HB.out.k0 rfl
      have d0 : wr.cell? ⟨p + 1, 0, none⟩ = some (.slice (some ⟨sb, so, none⟩) cn cc) := cell_arr HB.out.k1 rfl
      have d1 : wr.cell? ⟨p + 1, 1, none⟩ = some (.slice fa fn fc) := cell_arr HB.out.k1 rfl
      go_wp2_with fail
      go_region
      have HNL : Hid _ := (HL.out.putI (i := i) (by rw [fil5_len _ _ _ (Nat.le_of_lt HIL.out), List.length_map, ← HLE.out.1]) (by rw [fil5_len _ _ _ (Nat.le_of_lt HIL.out)]; have := HIL.out; omega) (by obtain ⟨_, e⟩ := List.getElem?_eq_some_iff.1 HQ.out; exact e) (.int .i64 X.op) (.int .i64 X.a) (.int .i64 X.b) (.int .i64 X.c) (.int .i64 X.n)).keep (Below.refl _ _).drew
      have HNB : Hid _ := (HB.out.put (g := g) (by have := HG.out; omega) (by have := HG.out; omega) (i * 5) (i * 5 + 1) (i * 5 + 2) (i * 5 + 3) (i * 5 + 4) (.int .i64 X.op) (.int .i64 X.a) (.int .i64 X.b) (.int .i64 X.c) (.int .i64 X.n)).keep (Below.refl _ _).drew
      have HNO : Hid _ := onlyE_keep (onlyE_put HO.out (g := g) (Or.inl rfl) (i * 5) (i * 5 + 1) (i * 5 + 2) (i * 5 + 3) (i * 5 + 4) (.int .i64 X.op) (.int .i64 X.a) (.int .i64 X.b) (.int .i64 X.c) (.int .i64 X.n)) (Below.refl _ _).drew
      have HNS : Hid (fil5 o35 (C.map riv) mkI (i + 1) = (fil5 o35 (C.map riv) mkI i).set i [(.int .i64 X.op), (.int .i64 X.a), (.int .i64 X.b), (.int .i64 X.c), (.int .i64 X.n)]) := by
        show _ = _
        rw [← fil5_set _ _ _ HIL.out, HXE.out]
        rfl
      clear HL HB HO HQ HXE s0 s1 s2 s3 s4 t0 t1 t2 t3 t4 z0 z1 z2 z3 z4 bl0 bl1 c0 c1 d0 d1
      go_wp2_with fail
      go_roundw
      case rel =>
        refine ⟨i + 1, by have := HLT.out; omega, by go_num, ?_, HNB, HNO⟩
        rw [HNS.out]
        exact HNL
      case measure => have := HLT.out; simp [intOf]; omega
    · have hie : i = cn := by omega
      have HE1 : Hid (LnC w0 wr (.slice (some ⟨g, 0, none⟩) (cn + 1) gc) (.slice (some ⟨h, 0, none⟩) (fn + 1) hc) (fil5 o35 (C.map riv) mkI cn) (fil5 oth (FS.map rfv) mkR 0)) := by have := HL.out; rw [hie] at this; exact this
      have HBE : Hid _ := HB.out
      have HOE : Hid _ := HO.out
      have bl0 := (Array.getElem?_eq_some_iff.1 HB.out.k0).1
      have bl1 := (Array.getElem?_eq_some_iff.1 HB.out.k1).1
      have c0 : wr.cell? ⟨p, 0, none⟩ = some (.slice (some ⟨g, 0, none⟩) cn gc) := cell_arr HB.out.k0 rfl
      have c1 : wr.cell? ⟨p, 1, none⟩ = some (.slice (some ⟨h, 0, none⟩) fn hc) := cell_arr HB.out.k0 rfl
      have d0 : wr.cell? ⟨p + 1, 0, none⟩ = some (.slice ca cn cc) := cell_arr HB.out.k1 rfl
      have d1 : wr.cell? ⟨p + 1, 1, none⟩ = some (.slice fa fn fc) := cell_arr HB.out.k1 rfl
      clear HL hie
      go_wp2_with fail
      clear bl0 bl1 c0 c1 d0 d1
      go_loopw [5] (fun v8 wr => ∃ i : Nat, i ≤ fn ∧ v8 = .int .i64 (i : Int) ∧ Hid (LnC w0 wr (.slice (some ⟨g, 0, none⟩) (cn + 1) gc) (.slice (some ⟨h, 0, none⟩) (fn + 1) hc) (fil5 o35 (C.map riv) mkI cn) (fil5 oth (FS.map rfv) mkR i)) ∧ Hid (LnB wr p #[.slice (some ⟨g, 0, none⟩) cn gc, .slice (some ⟨h, 0, none⟩) fn hc, .int .i64 mx] #[.slice ca cn cc, .slice fa fn fc, .int .i64 m]) ∧ Hid (Only (GH g h) w wr)) (fun v8 _ => fn - (intOf v8).toNat)
      case atStart => exact ⟨0, Nat.zero_le _, rfl, HE1.out, HBE.out, HOE.out⟩
      case round =>
        obtain ⟨i, hi, rfl, HL, HB, HO⟩ := hrel
        by_cases hlt : i < fn
        · have HLT : Hid (i < fn) := hlt
          have his : i < FS.length := by have := HLE.out.2.1; omega
          have HIS : Hid (i < FS.length) := his
          have HIL : Hid (i < (FS.map rfv).length) := by show _ < _; rw [List.length_map]; exact his
          have hib : i < 100000000 := by omega
          obtain ⟨sb, so, e0, hsb, s0, s1, s2, s3, s4⟩ := fnr_at (HIN.out wr HL.out.low).2 his
          subst e0
          obtain ⟨X, hX⟩ : ∃ X, X = FS[i]'HIS.out := ⟨_, rfl⟩
          have HXE : Hid ((FS.map rfv)[i]'HIL.out = rfv X) := by show _ = _; rw [hX, List.getElem_map]
          replace s0 : wr.cell? ⟨sb, so + i * 5, none⟩ = some (.string X.name) := by rw [hX]; exact s0
          replace s1 : wr.cell? ⟨sb, so + i * 5 + 1, none⟩ = some (.int .i64 X.fr) := by rw [hX]; exact s1
          replace s2 : wr.cell? ⟨sb, so + i * 5 + 2, none⟩ = some (.int .i64 X.fi) := by rw [hX]; exact s2
          replace s3 : wr.cell? ⟨sb, so + i * 5 + 3, none⟩ = some (.int .i64 X.ct) := by rw [hX]; exact s3
          replace s4 : wr.cell? ⟨sb, so + i * 5 + 4, none⟩ = some (.int .i64 X.pa) := by rw [hX]; exact s4
          have hq : (fil5 oth (FS.map rfv) mkR i)[i]? = some oth := fil5_at _ _ _ HIL.out
          have t0 : wr.cell? ⟨h, i * 5, none⟩ = some (.string ⟨#[111, 116, 104, 101, 114]⟩) := rowE_cell (r := 0) HL.out.fns hq rfl
          have t1 : wr.cell? ⟨h, i * 5 + 1, none⟩ = some (.int .i64 0) := rowE_cell (r := 1) HL.out.fns hq rfl
          have t2 : wr.cell? ⟨h, i * 5 + 2, none⟩ = some (.int .i64 0) := rowE_cell (r := 2) HL.out.fns hq rfl
          have t3 : wr.cell? ⟨h, i * 5 + 3, none⟩ = some (.int .i64 0) := rowE_cell (r := 3) HL.out.fns hq rfl
          have t4 : wr.cell? ⟨h, i * 5 + 4, none⟩ = some (.int .i64 0) := rowE_cell (r := 4) HL.out.fns hq rfl
          obtain ⟨gb, gcap, gcs, ge, _, _, _, gk⟩ := HL.out.fns.some (by have := (List.getElem?_eq_some_iff.1 hq).1; omega)
          simp only [Value.slice.injEq, Option.some.injEq, Addr.mk.injEq] at ge
          obtain ⟨⟨rfl, _⟩, _, _⟩ := ge
          have z0 : wr.frozen? ⟨h, i * 5, none⟩ = false := fz_of gk
          have z1 : wr.frozen? ⟨h, i * 5 + 1, none⟩ = false := fz_of gk
          have z2 : wr.frozen? ⟨h, i * 5 + 2, none⟩ = false := fz_of gk
          have z3 : wr.frozen? ⟨h, i * 5 + 3, none⟩ = false := fz_of gk
          have z4 : wr.frozen? ⟨h, i * 5 + 4, none⟩ = false := fz_of gk
          have hgl : h < wr.heap.size := (Array.getElem?_eq_some_iff.1 gk).1
          have HQ : Hid _ := hq
          clear hX hq gk
          have bl0 := (Array.getElem?_eq_some_iff.1 HB.out.k0).1
          have bl1 := (Array.getElem?_eq_some_iff.1 HB.out.k1).1
          have c0 : wr.cell? ⟨p, 0, none⟩ = some (.slice (some ⟨g, 0, none⟩) cn gc) := cell_arr HB.out.k0 rfl
          have c1 : wr.cell? ⟨p, 1, none⟩ = some (.slice (some ⟨h, 0, none⟩) fn hc) := cell_arr HB.out.k0 rfl
          have d0 : wr.cell? ⟨p + 1, 0, none⟩ = some (.slice ca cn cc) := cell_arr HB.out.k1 rfl
          have d1 : wr.cell? ⟨p + 1, 1, none⟩ = some (.slice (some ⟨sb, so, none⟩) fn fc) := cell_arr HB.out.k1 rfl
          go_wp2_with fail
          go_region
          have HNL : Hid _ := (HL.out.putR (i := i) (by rw [fil5_len _ _ _ (Nat.le_of_lt HIL.out), List.length_map, ← HLE.out.2.1]) (by rw [fil5_len _ _ _ (Nat.le_of_lt HIL.out)]; have := HIL.out; omega) (by obtain ⟨_, e⟩ := List.getElem?_eq_some_iff.1 HQ.out; exact e) (.string X.name) (.int .i64 X.fr) (.int .i64 X.fi) (.int .i64 X.ct) (.int .i64 X.pa)).keep (Below.refl _ _).drew
          have HNB : Hid _ := (HB.out.put (g := h) (by have := HG.out; omega) (by have := HG.out; omega) (i * 5) (i * 5 + 1) (i * 5 + 2) (i * 5 + 3) (i * 5 + 4) (.string X.name) (.int .i64 X.fr) (.int .i64 X.fi) (.int .i64 X.ct) (.int .i64 X.pa)).keep (Below.refl _ _).drew
          have HNO : Hid _ := onlyE_keep (onlyE_put HO.out (g := h) (Or.inr rfl) (i * 5) (i * 5 + 1) (i * 5 + 2) (i * 5 + 3) (i * 5 + 4) (.string X.name) (.int .i64 X.fr) (.int .i64 X.fi) (.int .i64 X.ct) (.int .i64 X.pa)) (Below.refl _ _).drew
          have HNS : Hid (fil5 oth (FS.map rfv) mkR (i + 1) = (fil5 oth (FS.map rfv) mkR i).set i [(.string X.name), (.int .i64 X.fr), (.int .i64 X.fi), (.int .i64 X.ct), (.int .i64 X.pa)]) := by
            show _ = _
            rw [← fil5_set _ _ _ HIL.out, HXE.out]
            rfl
          clear HL HB HO HQ HXE s0 s1 s2 s3 s4 t0 t1 t2 t3 t4 z0 z1 z2 z3 z4 bl0 bl1 c0 c1 d0 d1
          go_wp2_with fail
          go_roundw
          case rel =>
            refine ⟨i + 1, by have := HLT.out; omega, by go_num, ?_, HNB, HNO⟩
            rw [HNS.out]
            exact HNL
          case measure => have := HLT.out; simp [intOf]; omega
        · have hie : i = fn := by omega
          have HFIN : Hid (LnC w0 wr (.slice (some ⟨g, 0, none⟩) (cn + 1) gc) (.slice (some ⟨h, 0, none⟩) (fn + 1) hc) (C.map riv ++ [mkI]) (FS.map rfv ++ [mkR])) := by
            have e1 := fil5_end o35 (C.map riv) mkI
            have e2 := fil5_end oth (FS.map rfv) mkR
            rw [List.length_map, ← HLE.out.1] at e1
            rw [List.length_map, ← HLE.out.2.1] at e2
            rw [← e1, ← e2]
            have := HL.out
            rw [hie] at this
            exact this
          have bl0 := (Array.getElem?_eq_some_iff.1 HB.out.k0).1
          have bl1 := (Array.getElem?_eq_some_iff.1 HB.out.k1).1
          have c0 : wr.cell? ⟨p, 0, none⟩ = some (.slice (some ⟨g, 0, none⟩) cn gc) := cell_arr HB.out.k0 rfl
          have c1 : wr.cell? ⟨p, 1, none⟩ = some (.slice (some ⟨h, 0, none⟩) fn hc) := cell_arr HB.out.k0 rfl
          have d0 : wr.cell? ⟨p + 1, 0, none⟩ = some (.slice ca cn cc) := cell_arr HB.out.k1 rfl
          have d1 : wr.cell? ⟨p + 1, 1, none⟩ = some (.slice fa fn fc) := cell_arr HB.out.k1 rfl
          clear HL hie
          go_wp2_with fail
          exact bodyPost_end (v := .tuple #[]) (by simp [results, Tryz.results17, go_sem]) rfl ⟨rfl, HFIN.out, HO.out⟩
end Go.Proofs.YtfofmmkihhnfmaaGreatDoor
