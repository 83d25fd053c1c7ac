import Derived.Test.YtpgbkkllnbahpaaSoC
set_option linter.unusedVariables false
set_option linter.unusedSimpArgs false
namespace Go.Proofs.Ytpgbkkllnbahpaa
open Go.ChangeShapes Go.WideShapes Go.ChangeAt Go.RowKit Go.Maps

def meetP (x y : Iv) : Bool := decide (x.2.1 ≤ y.2.2) && decide (y.2.1 ≤ x.2.2)
set_option maxRecDepth 10000 in
theorem meet_any (w : World) (x y : Iv) : Calls Try.prog 16 #[va x, va y] w fun e w' => e = .returned (.bool (meetP x y)) ∧ Below w.heap.size w w' := by
  obtain ⟨x0, x1, x2⟩ := x
  obtain ⟨y0, y1, y2⟩ := y
  unfold va meetP
  simp only
  by_cases h1 : x1 ≤ y2
  · go_enter Try.func16, Try.ntmps16
    go_wp2
    go_ret
    exact ⟨by simp [h1], by repeat (first | refine Below.alloc ?_ (by first | omega | (simp; done) | (simp; omega)) _ | refine Below.drew ?_ | exact Below.refl _ _)⟩
  · have t1 : decide (x1 ≤ y2) = false := by simp; omega
    go_enter Try.func16, Try.ntmps16
    go_wp2
    go_ret
    exact ⟨by simp [h1], by repeat (first | refine Below.alloc ?_ (by first | omega | (simp; done) | (simp; omega)) _ | refine Below.drew ?_ | exact Below.refl _ _)⟩
structure BxL (w : World) (xb : Nat) (x : Lc) : Prop where
  out : w.heap[xb]? = some (.cells #[.int .i64 x.1, .int .i64 x.2] 37 (0, 0))
theorem BxL.keep {w w' : World} {xb x} (h : BxL w xb x) (hb : Below w.heap.size w w') : BxL w' xb x := ⟨(hb.block xb (Array.getElem?_eq_some_iff.1 h.out).1).trans h.out⟩
theorem BxL.lt {w : World} {xb x} (h : BxL w xb x) : xb < w.heap.size := (Array.getElem?_eq_some_iff.1 h.out).1
theorem BxL.cells {w : World} {xb x} (h : BxL w xb x) : w.cell? ⟨xb, 0, none⟩ = some (.int .i64 x.1) ∧ w.cell? ⟨xb, 1, none⟩ = some (.int .i64 x.2) := by
  refine ⟨?_, ?_⟩ <;> simp [World.cell?, h.out]
theorem plc_at {pl : List Lc} {q : Nat} (h : q < pl.length) : pl[q] = plc pl (q : Int) := by simp [plc, List.getD, h]
set_option maxRecDepth 100000 in
set_option maxHeartbeats 8000000 in
theorem scanApart_any (w : World) (ao : Option Addr) (n c : Nat) (L : List Iv) (hn : n = L.length) (h : Ivs w ao c L) (regs : Int) : Calls Try.prog 5 #[.slice ao n c, .int .i64 regs] w fun e w' => e = .returned (.bool true) ∧ Below w.heap.size w w' := by
  have HN : Hid (n = L.length) := hn
  have HH : Hid (Ivs w ao c L) := h
  have HAL : Hid (Calls Try.prog 9 #[] w fun e w' => e = .returned (.bool true) ∧ Below w.heap.size w w') := alive_any w
  by_cases hr : regs < 1
  · clear h hn
    go_enter Try.func5, Try.ntmps5
    go_wp2_with (go_at_call 9; refine Calls.mono HAL.out ?_; rintro e w1 ⟨rfl, hb1⟩; have HB1 : Hid (Below w.heap.size w w1) := hb1; clear hb1)
    go_ret
    exact ⟨rfl, HB1.out⟩
  by_cases hr8 : 8 < regs
  · clear h hn
    go_enter Try.func5, Try.ntmps5
    go_wp2_with (go_at_call 9; refine Calls.mono HAL.out ?_; rintro e w1 ⟨rfl, hb1⟩; have HB1 : Hid (Below w.heap.size w w1) := hb1; clear hb1)
    go_ret
    exact ⟨rfl, HB1.out⟩
  obtain ⟨r, hrr⟩ : ∃ r : Nat, regs = (r : Int) := ⟨regs.toNat, by omega⟩
  subst hrr
  have hr1 : 1 ≤ r := by omega
  have hr9 : r ≤ 8 := by omega
  have t1 : decide ((r : Int) < 1) = false := by simp; omega
  have t2 : decide ((8 : Int) < (r : Int)) = false := by simp; omega
  have HSO : Hid (∀ W, Below w.heap.size w W → Calls Try.prog 15 #[.slice ao n c] W fun e w' => ∃ S v, e = .returned v ∧ Row w' W.heap.size 35 3 v (S.map vc) ∧ Srt S ∧ S.length ≤ 3000 ∧ Below W.heap.size W w') := fun W hW => sorted_any W ao n c L hn (h.below hW (Nat.le_refl _))
  clear h hn hr hr8
  go_enter Try.func5, Try.ntmps5
  go_wp2_with (first
    | (go_at_call 11; refine Calls.mono (scanG_any w3 _ _ _ S HSN.out HI3.out HS.out r hr1 hr9 (by omega)) ?_; rintro e w4 ⟨po, pk, rfl, R4, hb4⟩; have HB4 : Hid (Below w.heap.size w w4) := HB3.out.trans (hb4.mono HB3.out.size); have HI4 : Hid (Ivs w4 so sc S) := HIB.out.below hb4 (Nat.le_refl _); have HP4 : Hid (Row w4 w3.heap.size 37 2 (.slice po (scn S r).pl.length pk) ((scn S r).pl.map lc)) := R4; clear R4 hb4)
    | (go_at_call 10; refine Calls.mono (ls_any w2 so sn sc S HSN.out HI.out HS.out hS3) ?_; rintro e w3 ⟨g, q, rfl, hI3, hb3⟩; have HB3 : Hid (Below w.heap.size w w3) := HB2.out.trans (hb3.mono HB2.out.size); have HI3 : Hid (Ivs w3 (some ⟨g, 0, none⟩) q S) := hI3; have HIB : Hid (Ivs w3 so sc S) := HI.out.below hb3 (Nat.le_refl _); clear hb3 hI3)
    | (go_at_call 15; refine Calls.mono (HSO.out w1 HB1.out) ?_; rintro e w2 ⟨S, v2, rfl, R2, hS, hS3, hb2⟩; have HB2 : Hid (Below w.heap.size w w2) := HB1.out.trans (hb2.mono HB1.out.size); have HS : Hid (Srt S) := hS; obtain ⟨so, sc, rfl, hI⟩ := row_ivs R2 hS.fit; have HI : Hid (Ivs w2 so sc S) := hI; have hsc : S.length ≤ sc := hI.le; have hscm : sc ≤ 9223372036854775807 := hI.mx; clear R2 hb2 hS hI; obtain ⟨sn, hsn⟩ : ∃ sn, sn = S.length := ⟨_, rfl⟩; have HSN : Hid (sn = S.length) := hsn; rw [← hsn] at hS3 hsc ⊢; clear hsn)
    | (go_at_call 9; refine Calls.mono HAL.out ?_; rintro e w1 ⟨rfl, hb1⟩; have HB1 : Hid (Below w.heap.size w w1) := hb1; clear hb1))
  obtain ⟨⟨F0, hinv⟩, hapt, hbnd⟩ := scan_all HS.out r
  have HINV : Hid (Inv S r S.length F0 (scn S r)) := hinv
  have HAPT : Hid (Apt S r S.length (scn S r)) := hapt
  have HBND : Hid (Bnd (scn S r) (grt S + 1).toNat S.length r) := hbnd
  obtain ⟨m, hm⟩ : ∃ m, m = (scn S r).pl.length := ⟨_, rfl⟩
  have HM : Hid (m = (scn S r).pl.length) := hm
  obtain ⟨pl, hpl⟩ : ∃ pl, pl = (scn S r).pl := ⟨_, rfl⟩
  obtain ⟨sl, hsl⟩ : ∃ sl, sl = (scn S r).sl := ⟨_, rfl⟩
  have HPL : Hid (pl = (scn S r).pl ∧ sl = (scn S r).sl) := ⟨hpl, hsl⟩
  rw [← hm, ← hsl]
  rw [← hm, ← hpl] at HP4
  have hsl3 : sl ≤ 3000 := by rw [hsl]; have := hbnd.sl; have := HSN.out; omega
  have hmx : m ≤ 262144 := by
    rw [hm, hbnd.pl]
    have := grt_lt fun x hx => by have := HS.out.ok x hx; simp [okI] at this; exact this.1.2
    omega
  have HMG : Hid (∀ x ∈ S, 0 ≤ x.1 ∧ x.1 < (m : Int)) := fun x hx => by
    have := HS.out.g1.reg x hx
    rw [hm, hbnd.pl]
    exact this
  have HMP : Hid (m = pl.length) := by show m = _; rw [hm, hpl]
  clear hinv hapt hbnd hm hpl hsl HSO HAL t1 t2 HI3 HIB HI HB1 HB2 HB3
  go_loopw [10, 11] (fun u v wr => ∃ k : Nat, k ≤ sn ∧ v = .int .i64 k ∧ u = .int .i64 (((S.take k).filter fun y => decide ((plc pl y.1).1 = 2)).length : Int) ∧ Hid (Below w4.heap.size w4 wr)) (fun _ v _ => sn - (intOf v).toNat)
  case atStart => exact ⟨0, by omega, rfl, rfl, Below.refl _ _⟩
  case round =>
    obtain ⟨k, hk, rfl, rfl, HB⟩ := hrel
    obtain ⟨wq, rfl⟩ : ∃ wq, wq = wr := ⟨_, rfl⟩
    by_cases hlt : k < sn
    · have hk2 : k < S.length := by have := HSN.out; omega
      obtain ⟨b, o, rfl, hbw, c0, c1, c2⟩ := (HI4.out.below HB.out (Nat.le_refl _)).at hk2
      obtain ⟨q, hq⟩ : ∃ q : Nat, S[k].1 = (q : Int) := ⟨S[k].1.toNat, by have := (HMG.out S[k] (List.getElem_mem hk2)).1; omega⟩
      have hqm : q < m := by have := (HMG.out S[k] (List.getElem_mem hk2)).2; omega
      have hqi : (q : Int) < (m : Int) := by omega
      have hqd : decide (m ≤ q) = false := by simp; omega
      have RQ := HP4.out.keep HB.out
      obtain ⟨pb, _, e, p1, p2, _, pbl⟩ := own_some RQ.out (by simp only [List.length_map, ← HMP.out]; omega)
      simp only [Value.slice.injEq] at e
      obtain ⟨rfl, e1, e2⟩ := e
      subst e2
      have hmp : m ≤ pk := by rw [e1]; exact p1
      clear e1 p1
      obtain ⟨f0, f1⟩ := row_lc RQ HMP.out (k := q) (by have := HMP.out; omega)
      have hpx : pl[q]'(by have := HMP.out; omega) = plc pl S[k].1 := by rw [hq]; exact plc_at _
      rw [hpx] at f0 f1
      have HKIN : Hid (_ ∨ _) := HINV.out.kin S[k] (by rw [List.take_of_length_le (Nat.le_refl _)]; exact List.getElem_mem hk2)
      rw [← HPL.out.1, ← HPL.out.2] at HKIN
      have HCT : Hid (_ = _) := cnt_step hk2 (fun y => decide ((plc pl y.1).1 = 2))
      have hcl : ((S.take k).filter fun y => decide ((plc pl y.1).1 = 2)).length ≤ 3000 := by
        have := List.length_filter_le (fun y : Iv => decide ((plc pl y.1).1 = 2)) (S.take k)
        simp at this
        omega
      obtain ⟨ct, hct⟩ : ∃ ct, ct = ((S.take k).filter fun y => decide ((plc pl y.1).1 = 2)).length := ⟨_, rfl⟩
      rw [← hct] at hcl HCT ⊢
      obtain ⟨x1, x2, hxx⟩ : ∃ x1 x2, plc pl S[k].1 = (x1, x2) := ⟨_, _, rfl⟩
      have HXX : Hid (plc pl S[k].1 = (x1, x2)) := hxx
      rw [hxx] at f0 f1 HKIN
      simp only [hxx] at HCT
      simp only at f0 f1
      rw [hq] at c0
      have HK2 : Hid (k < S.length) := hk2
      have HBB : Hid (Below w4.heap.size w4 (wq.alloc (.cells #[.int .i64 x1, .int .i64 x2] 37))) := HB.out.alloc HB.out.size _
      have HXB : Hid (BxL (wq.alloc (.cells #[.int .i64 x1, .int .i64 x2] 37)) wq.heap.size (x1, x2)) := ⟨heap_alloc_new _ _⟩
      have key : ∀ (d : Nat), (ct : Int) + d = (((S.take (k + 1)).filter fun y => decide ((plc pl y.1).1 = 2)).length : Int) → True := fun _ _ => trivial
      clear hxx hpx RQ hct key
      rcases HKIN.out with ⟨z1, z2, z3⟩ | ⟨z1, z2, z3⟩
      · simp only at z1 z2 z3
        subst z1
        have t3 : decide (x2 < 0) = false := by simp; omega
        have t4 : decide ((r : Int) ≤ x2) = false := by simp; omega
        have HC2 : Hid ((((S.take (k + 1)).filter fun y => decide ((plc pl y.1).1 = 2)).length : Int) = (ct : Int)) := by rw [HCT.out]; simp [Hid]
        clear HCT HKIN
        go_wp2_with fail
        obtain ⟨W1, hW1⟩ : ∃ W1, W1 = wq.alloc (.cells #[.int .i64 1, .int .i64 x2] 37) := ⟨_, rfl⟩
        rw [← hW1] at HBB HXB ⊢
        generalize wq.heap.size = xb at HXB ⊢
        clear hW1 c0 c1 c2 f0 f1 hbw pbl t3 t4 HB
        go_loopw [13] (fun v wr => ∃ j : Nat, j ≤ k ∧ v = .int .i64 j ∧ Hid (Below W1.heap.size W1 wr)) (fun v _ => k - (intOf v).toNat)
        case atStart => exact ⟨0, by omega, rfl, Below.refl _ _⟩
        case round =>
          obtain ⟨j, hj, rfl, HW⟩ := hrel
          obtain ⟨wz, rfl⟩ : ∃ wz, wz = wr := ⟨_, rfl⟩
          by_cases hjl : j < k
          · have hj2 : j < S.length := by have := HSN.out; omega
            have hk3 : k < S.length := HK2.out
            have HBZ : Hid (Below w4.heap.size w4 wz) := HBB.out.trans (HW.out.mono HBB.out.size)
            obtain ⟨_, _, e, hbw, c0, c1, c2⟩ := (HI4.out.below HBZ.out (Nat.le_refl _)).at hk3
            cases e
            rw [hq] at c0
            have hjs : j < sn := by omega
            obtain ⟨_, _, e, _, d0, d1, d2⟩ := (HI4.out.below HBZ.out (Nat.le_refl _)).at hj2
            cases e
            obtain ⟨p, hp⟩ : ∃ p : Nat, S[j].1 = (p : Int) := ⟨S[j].1.toNat, by have := (HMG.out S[j] (List.getElem_mem hj2)).1; omega⟩
            have hpm : p < m := by have := (HMG.out S[j] (List.getElem_mem hj2)).2; omega
            have hpi : (p : Int) < (m : Int) := by omega
            have RQ := HP4.out.keep HBZ.out
            have pbl := (own_block RQ.out (g := pb) rfl).2
            obtain ⟨f0, f1⟩ := row_lc RQ HMP.out (k := p) (by have := HMP.out; omega)
            have hpx : pl[p]'(by have := HMP.out; omega) = plc pl S[j].1 := by rw [hp]; exact plc_at _
            rw [hpx] at f0 f1
            obtain ⟨y1, y2, hyy⟩ : ∃ y1 y2, plc pl S[j].1 = (y1, y2) := ⟨_, _, rfl⟩
            rw [hyy] at f0 f1
            simp only at f0 f1
            rw [hp] at d0
            have hne : S[k] ≠ S[j] := fun e => by
              exact List.pairwise_iff_getElem.1 (nodup_of_regs HS.out.once) j k hj2 hk3 hjl e.symm
            obtain ⟨x0, x1⟩ := (HXB.out.keep HW.out).cells
            have hxl := (HXB.out.keep HW.out).lt
            simp only at x0 x1
            have HW2 : Hid (∀ q, Below W1.heap.size W1 ((wz.alloc (.cells #[.int .i64 y1, .int .i64 y2] 37)).drewN q)) := fun q => below_dn (HW.out.alloc HW.out.size _) q
            clear hpx RQ
            by_cases h1 : y1 = 1
            · subst h1
              by_cases h2 : x2 = y2
              · subst h2
                have HNM : Hid (meetP S[k] S[j] = false) := by
                  have := HAPT.out.rgs S[k] (by rw [List.take_of_length_le (Nat.le_refl _)]; exact List.getElem_mem hk3) S[j] (by rw [List.take_of_length_le (Nat.le_refl _)]; exact List.getElem_mem hj2) (by rw [← HPL.out.1, HXX.out]) (by rw [← HPL.out.1, hyy]) (by rw [← HPL.out.1, HXX.out, hyy]) hne
                  show meetP _ _ = false
                  simp only [meetP, Bool.and_eq_false_iff, decide_eq_false_iff_not]
                  omega
                have HMC : Hid (∀ W, Calls Try.prog 16 #[.agg #[.int .i64 (q : Int), .int .i64 S[k].2.1, .int .i64 S[k].2.2], .agg #[.int .i64 (p : Int), .int .i64 S[j].2.1, .int .i64 S[j].2.2]] W fun e w' => e = .returned (.bool false) ∧ Below W.heap.size W w') := fun W => by
                  have := meet_any W S[k] S[j]
                  unfold va at this
                  rw [hq, hp, HNM.out] at this
                  exact this
                clear hyy hne
                go_wp2_with fail
                obtain ⟨W2, hW2⟩ : ∃ W2, W2 = wz.alloc (.cells #[.int .i64 1, .int .i64 x2] 37) := ⟨_, rfl⟩
                have hb2 : Below wz.heap.size wz W2 := by rw [hW2]; exact (Below.refl _ _).alloc (Nat.le_refl _) _
                have hyb : BxL W2 wz.heap.size (1, x2) := by rw [hW2]; exact ⟨heap_alloc_new _ _⟩
                rw [← hW2]
                generalize wz.heap.size = yb at hyb ⊢
                have HSS : Hid (∀ w', Below W2.heap.size W2 w' → (w'.cell? ⟨xb, 0, none⟩ = some (.int .i64 1) ∧ w'.cell? ⟨xb, 1, none⟩ = some (.int .i64 x2) ∧ w'.cell? ⟨yb, 0, none⟩ = some (.int .i64 1) ∧ w'.cell? ⟨yb, 1, none⟩ = some (.int .i64 x2) ∧ w'.cell? ⟨b, o + k * 3, none⟩ = some (.int .i64 (q : Int)) ∧ w'.cell? ⟨b, o + k * 3 + 1, none⟩ = some (.int .i64 S[k].2.1) ∧ w'.cell? ⟨b, o + k * 3 + 2, none⟩ = some (.int .i64 S[k].2.2) ∧ w'.cell? ⟨b, o + j * 3, none⟩ = some (.int .i64 (p : Int)) ∧ w'.cell? ⟨b, o + j * 3 + 1, none⟩ = some (.int .i64 S[j].2.1) ∧ w'.cell? ⟨b, o + j * 3 + 2, none⟩ = some (.int .i64 S[j].2.2))) := fun w' hb => by
                  have hbb : Below wz.heap.size wz w' := hb2.trans (hb.mono hb2.size)
                  have ha := ((HXB.out.keep HW.out).keep hbb).cells
                  have hc := (hyb.keep hb).cells
                  exact ⟨ha.1, ha.2, hc.1, hc.2, (hbb.cell (p := ⟨b, o + k * 3, none⟩) hbw).trans c0, (hbb.cell (p := ⟨b, o + k * 3 + 1, none⟩) hbw).trans c1, (hbb.cell (p := ⟨b, o + k * 3 + 2, none⟩) hbw).trans c2, (hbb.cell (p := ⟨b, o + j * 3, none⟩) hbw).trans d0, (hbb.cell (p := ⟨b, o + j * 3 + 1, none⟩) hbw).trans d1, (hbb.cell (p := ⟨b, o + j * 3 + 2, none⟩) hbw).trans d2⟩
                have S0 := HSS.out W2.drew (Below.refl _ _).drew
                have HB9 : Hid (Below W1.heap.size W1 W2) := HW.out.trans (hb2.mono HW.out.size)
                clear c0 c1 c2 d0 d1 d2 f0 f1 x0 x1 hb2 hyb hW2 HW2
                refine led_start (S := fun w' : World => w'.cell? ⟨xb, 0, none⟩ = some (.int .i64 1) ∧ w'.cell? ⟨xb, 1, none⟩ = some (.int .i64 x2) ∧ w'.cell? ⟨yb, 0, none⟩ = some (.int .i64 1) ∧ w'.cell? ⟨yb, 1, none⟩ = some (.int .i64 x2) ∧ w'.cell? ⟨b, o + k * 3, none⟩ = some (.int .i64 (q : Int)) ∧ w'.cell? ⟨b, o + k * 3 + 1, none⟩ = some (.int .i64 S[k].2.1) ∧ w'.cell? ⟨b, o + k * 3 + 2, none⟩ = some (.int .i64 S[k].2.2) ∧ w'.cell? ⟨b, o + j * 3, none⟩ = some (.int .i64 (p : Int)) ∧ w'.cell? ⟨b, o + j * 3 + 1, none⟩ = some (.int .i64 S[j].2.1) ∧ w'.cell? ⟨b, o + j * 3 + 2, none⟩ = some (.int .i64 S[j].2.2)) (z := 100) (by kernel_rfl) ?_
                show led _ _ _ _ _ 19 _ _ _
                refine led_takeF (i := 0) (v := ?v0) rfl (by kernel_rfl) (by kernel_rfl) (by kernel_rfl) (by kernel_rfl) (fun _ _ _ h => h) (.inl ⟨by kernel_rfl, ?hy0⟩) S0 ?rest0
                case hy0 =>
                  rintro w' ⟨h1, h2, h3, h4, h5, h6, h7, h8, h9, h10⟩
                  go_simp
                  all_goals with_reducible rfl
                try simp only [Act.put, List.getElem_toArray, List.getElem_cons_succ, List.getElem_cons_zero, List.setIfInBounds_toArray, List.set_cons_zero, List.set_cons_succ]
                refine led_takeF (i := 1) (v := ?v1) rfl (by kernel_rfl) (by kernel_rfl) (by kernel_rfl) (by kernel_rfl) (fun _ _ _ h => h) (.inl ⟨by kernel_rfl, ?hy1⟩) S0 ?rest1
                case hy1 =>
                  rintro w' ⟨h1, h2, h3, h4, h5, h6, h7, h8, h9, h10⟩
                  go_simp
                  all_goals with_reducible rfl
                try simp only [Act.put, List.getElem_toArray, List.getElem_cons_succ, List.getElem_cons_zero, List.setIfInBounds_toArray, List.set_cons_zero, List.set_cons_succ]
                refine led_takeF (i := 2) (v := ?v2) rfl (by kernel_rfl) (by kernel_rfl) (by kernel_rfl) (by kernel_rfl) (fun _ _ _ h => h) (.inl ⟨by kernel_rfl, ?hy2⟩) S0 ?rest2
                case hy2 =>
                  rintro w' ⟨h1, h2, h3, h4, h5, h6, h7, h8, h9, h10⟩
                  go_simp
                  all_goals with_reducible rfl
                try simp only [Act.put, List.getElem_toArray, List.getElem_cons_succ, List.getElem_cons_zero, List.setIfInBounds_toArray, List.set_cons_zero, List.set_cons_succ]
                refine led_takeF (i := 3) (v := ?v3) rfl (by kernel_rfl) (by kernel_rfl) (by kernel_rfl) (by kernel_rfl) (fun _ _ _ h => h) (.inl ⟨by kernel_rfl, ?hy3⟩) S0 ?rest3
                case hy3 =>
                  rintro w' ⟨h1, h2, h3, h4, h5, h6, h7, h8, h9, h10⟩
                  go_simp
                  all_goals with_reducible rfl
                try simp only [Act.put, List.getElem_toArray, List.getElem_cons_succ, List.getElem_cons_zero, List.setIfInBounds_toArray, List.set_cons_zero, List.set_cons_succ]
                refine led_takeF (i := 4) (v := ?v4) rfl (by kernel_rfl) (by kernel_rfl) (by kernel_rfl) (by kernel_rfl) (fun _ _ _ h => h) (.inl ⟨by kernel_rfl, ?hy4⟩) S0 ?rest4
                case hy4 =>
                  rintro w' ⟨h1, h2, h3, h4, h5, h6, h7, h8, h9, h10⟩
                  go_simp
                  all_goals with_reducible rfl
                try simp only [Act.put, List.getElem_toArray, List.getElem_cons_succ, List.getElem_cons_zero, List.setIfInBounds_toArray, List.set_cons_zero, List.set_cons_succ]
                refine led_takeF (i := 5) (v := ?v5) rfl (by kernel_rfl) (by kernel_rfl) (by kernel_rfl) (by kernel_rfl) (fun _ _ _ h => h) (.inl ⟨by kernel_rfl, ?hy5⟩) S0 ?rest5
                case hy5 =>
                  rintro w' ⟨h1, h2, h3, h4, h5, h6, h7, h8, h9, h10⟩
                  go_simp
                  all_goals with_reducible rfl
                try simp only [Act.put, List.getElem_toArray, List.getElem_cons_succ, List.getElem_cons_zero, List.setIfInBounds_toArray, List.set_cons_zero, List.set_cons_succ]
                refine led_takeF (i := 6) (v := ?v6) rfl (by kernel_rfl) (by kernel_rfl) (by kernel_rfl) (by kernel_rfl) (fun _ _ _ h => h) (.inl ⟨by kernel_rfl, ?hy6⟩) S0 ?rest6
                case hy6 =>
                  rintro w' ⟨h1, h2, h3, h4, h5, h6, h7, h8, h9, h10⟩
                  go_simp
                  all_goals with_reducible rfl
                try simp only [Act.put, List.getElem_toArray, List.getElem_cons_succ, List.getElem_cons_zero, List.setIfInBounds_toArray, List.set_cons_zero, List.set_cons_succ]
                refine led_takeF (i := 7) (v := ?v7) rfl (by kernel_rfl) (by kernel_rfl) (by kernel_rfl) (by kernel_rfl) (fun _ _ _ h => h) (.inl ⟨by kernel_rfl, ?hy7⟩) S0 ?rest7
                case hy7 =>
                  rintro w' ⟨h1, h2, h3, h4, h5, h6, h7, h8, h9, h10⟩
                  go_simp
                  all_goals with_reducible rfl
                try simp only [Act.put, List.getElem_toArray, List.getElem_cons_succ, List.getElem_cons_zero, List.setIfInBounds_toArray, List.set_cons_zero, List.set_cons_succ]
                refine led_takeF (i := 8) (v := ?v8) rfl (by kernel_rfl) (by kernel_rfl) (by kernel_rfl) (by kernel_rfl) (fun _ _ _ h => h) (.inl ⟨by kernel_rfl, ?hy8⟩) S0 ?rest8
                case hy8 =>
                  rintro w' ⟨h1, h2, h3, h4, h5, h6, h7, h8, h9, h10⟩
                  go_simp
                  all_goals with_reducible rfl
                try simp only [Act.put, List.getElem_toArray, List.getElem_cons_succ, List.getElem_cons_zero, List.setIfInBounds_toArray, List.set_cons_zero, List.set_cons_succ]
                refine led_takeF (i := 9) (v := ?v9) rfl (by kernel_rfl) (by kernel_rfl) (by kernel_rfl) (by kernel_rfl) (fun _ _ _ h => h) (.inl ⟨by kernel_rfl, ?hy9⟩) S0 ?rest9
                case hy9 =>
                  rintro w' ⟨h1, h2, h3, h4, h5, h6, h7, h8, h9, h10⟩
                  go_simp
                  all_goals with_reducible rfl
                try simp only [Act.put, List.getElem_toArray, List.getElem_cons_succ, List.getElem_cons_zero, List.setIfInBounds_toArray, List.set_cons_zero, List.set_cons_succ]
                refine led_takeF (i := 10) (v := ?v10) rfl (by kernel_rfl) (by kernel_rfl) (by kernel_rfl) (by kernel_rfl) (fun _ _ _ h => h) (.inl ⟨by kernel_rfl, ?hy10⟩) S0 ?rest10
                case hy10 =>
                  rintro w' ⟨h1, h2, h3, h4, h5, h6, h7, h8, h9, h10⟩
                  go_simp
                  all_goals with_reducible rfl
                try simp only [Act.put, List.getElem_toArray, List.getElem_cons_succ, List.getElem_cons_zero, List.setIfInBounds_toArray, List.set_cons_zero, List.set_cons_succ]
                refine led_takeF (i := 11) (v := ?v11) rfl (by kernel_rfl) (by kernel_rfl) (by kernel_rfl) (by kernel_rfl) (fun _ _ _ h => h) (.inl ⟨by kernel_rfl, ?hy11⟩) S0 ?rest11
                case hy11 =>
                  rintro w' ⟨h1, h2, h3, h4, h5, h6, h7, h8, h9, h10⟩
                  go_simp
                  all_goals with_reducible rfl
                try simp only [Act.put, List.getElem_toArray, List.getElem_cons_succ, List.getElem_cons_zero, List.setIfInBounds_toArray, List.set_cons_zero, List.set_cons_succ]
                refine led_takeF (i := 12) (v := ?v12) rfl (by kernel_rfl) (by kernel_rfl) (by kernel_rfl) (by kernel_rfl) (fun _ _ _ h => h) (.inl ⟨by kernel_rfl, ?hy12⟩) S0 ?rest12
                case hy12 =>
                  rintro w' ⟨h1, h2, h3, h4, h5, h6, h7, h8, h9, h10⟩
                  go_simp
                  all_goals with_reducible rfl
                try simp only [Act.put, List.getElem_toArray, List.getElem_cons_succ, List.getElem_cons_zero, List.setIfInBounds_toArray, List.set_cons_zero, List.set_cons_succ]
                refine led_takeF (i := 13) (v := ?v13) rfl (by kernel_rfl) (by kernel_rfl) (by kernel_rfl) (by kernel_rfl) (fun _ _ _ h => h) (.inl ⟨by kernel_rfl, ?hy13⟩) S0 ?rest13
                case hy13 =>
                  rintro w' ⟨h1, h2, h3, h4, h5, h6, h7, h8, h9, h10⟩
                  go_simp
                  all_goals with_reducible rfl
                try simp only [Act.put, List.getElem_toArray, List.getElem_cons_succ, List.getElem_cons_zero, List.setIfInBounds_toArray, List.set_cons_zero, List.set_cons_succ]
                refine led_takeF (i := 14) (v := ?v14) rfl (by kernel_rfl) (by kernel_rfl) (by kernel_rfl) (by kernel_rfl) (fun _ _ _ h => h) (.inl ⟨by kernel_rfl, ?hy14⟩) S0 ?rest14
                case hy14 =>
                  rintro w' ⟨h1, h2, h3, h4, h5, h6, h7, h8, h9, h10⟩
                  go_simp
                  all_goals with_reducible rfl
                try simp only [Act.put, List.getElem_toArray, List.getElem_cons_succ, List.getElem_cons_zero, List.setIfInBounds_toArray, List.set_cons_zero, List.set_cons_succ]
                refine led_takeF (i := 15) (v := ?v15) rfl (by kernel_rfl) (by kernel_rfl) (by kernel_rfl) (by kernel_rfl) (fun _ _ _ h => h) (.inl ⟨by kernel_rfl, ?hy15⟩) S0 ?rest15
                case hy15 =>
                  rintro w' ⟨h1, h2, h3, h4, h5, h6, h7, h8, h9, h10⟩
                  go_simp
                  all_goals with_reducible rfl
                try simp only [Act.put, List.getElem_toArray, List.getElem_cons_succ, List.getElem_cons_zero, List.setIfInBounds_toArray, List.set_cons_zero, List.set_cons_succ]
                refine led_one (i := 16) rfl (by kernel_rfl) ?_
                intro K16 hK16
                rw [if_pos (by kernel_rfl)]
                go_simp
                refine Calls.mono (HMC.out W2.drew) ?_
                rintro e w9 ⟨rfl, hb9⟩
                have HB10 : Hid (Below W1.heap.size W1 w9) := HB9.out.trans (((Below.refl _ _).drew.trans (hb9.mono (Nat.le_refl _))).mono HB9.out.size)
                have S1 := HSS.out w9 ((Below.refl _ _).drew.trans (hb9.mono (Nat.le_refl _)))
                clear hb9
                go_simp
                refine hK16 _ _ (fun _ => S1) ?_
                clear hK16
                try simp only [Act.put, List.getElem_toArray, List.getElem_cons_succ, List.getElem_cons_zero, List.setIfInBounds_toArray, List.set_cons_zero, List.set_cons_succ]
                refine led_one (i := 17) rfl (by kernel_rfl) ?_
                intro K17 hK17
                rw [if_pos (by kernel_rfl)]
                go_simp
                refine hK17 _ _ (fun _ => S1) ?_
                clear hK17
                try simp only [Act.put, List.getElem_toArray, List.getElem_cons_succ, List.getElem_cons_zero, List.setIfInBounds_toArray, List.set_cons_zero, List.set_cons_succ]
                refine led_one (i := 18) rfl (by kernel_rfl) ?_
                intro K18 hK18
                rw [if_pos (by kernel_rfl)]
                go_simp
                refine hK18 _ _ (fun _ => S1) ?_
                clear hK18
                try simp only [Act.put, List.getElem_toArray, List.getElem_cons_succ, List.getElem_cons_zero, List.setIfInBounds_toArray, List.set_cons_zero, List.set_cons_succ]
                refine led_done (by kernel_rfl) ?_
                go_wp2_with fail
                go_roundw
                case rel => exact ⟨j + 1, by omega, by go_num, HB10.out⟩
                case measure => simp [intOf]; omega
              · have e2 : (x2 == y2) = false := by simp; omega
                clear hyy hne
                go_wp2_with fail
                go_quiet (fail)
                go_wp2_with fail
                go_roundw
                case rel => exact ⟨j + 1, by omega, by go_num, HW2.out _⟩
                case measure => simp [intOf]; omega
            · have e2 : ((1 : Int) == y1) = false := by simp; omega
              clear hyy hne
              go_wp2_with fail
              go_quiet (fail)
              go_wp2_with fail
              go_roundw
              case rel => exact ⟨j + 1, by omega, by go_num, HW2.out _⟩
              case measure => simp [intOf]; omega
          · obtain rfl : j = k := by omega
            have HBZ : Hid (Below w4.heap.size w4 wz) := HBB.out.trans (HW.out.mono HBB.out.size)
            go_wp2_with fail
            go_roundw
            case rel => exact ⟨j + 1, by omega, by go_num, by first | (rw [HC2.out]; done) | (rw [HC2.out]; rfl) | (rw [HC2.out]; go_num), HBZ.out⟩
            case measure => simp [intOf]; omega
      · simp only at z1 z2 z3
        subst z1
        have t3 : decide (x2 < 0) = false := by simp; omega
        have t4 : decide ((sl : Int) ≤ x2) = false := by simp; omega
        have HC2 : Hid ((((S.take (k + 1)).filter fun y => decide ((plc pl y.1).1 = 2)).length : Int) = (ct : Int) + 1) := by rw [HCT.out]; simp [Hid]
        clear HCT HKIN
        go_wp2_with fail
        obtain ⟨W1, hW1⟩ : ∃ W1, W1 = wq.alloc (.cells #[.int .i64 2, .int .i64 x2] 37) := ⟨_, rfl⟩
        rw [← hW1] at HBB HXB ⊢
        generalize wq.heap.size = xb at HXB ⊢
        clear hW1 c0 c1 c2 f0 f1 hbw pbl t3 t4 HB
        go_loopw [13] (fun v wr => ∃ j : Nat, j ≤ k ∧ v = .int .i64 j ∧ Hid (Below W1.heap.size W1 wr)) (fun v _ => k - (intOf v).toNat)
        case atStart => exact ⟨0, by omega, rfl, Below.refl _ _⟩
        case round =>
          obtain ⟨j, hj, rfl, HW⟩ := hrel
          obtain ⟨wz, rfl⟩ : ∃ wz, wz = wr := ⟨_, rfl⟩
          by_cases hjl : j < k
          · have hj2 : j < S.length := by have := HSN.out; omega
            have hk3 : k < S.length := HK2.out
            have HBZ : Hid (Below w4.heap.size w4 wz) := HBB.out.trans (HW.out.mono HBB.out.size)
            obtain ⟨_, _, e, hbw, c0, c1, c2⟩ := (HI4.out.below HBZ.out (Nat.le_refl _)).at hk3
            cases e
            rw [hq] at c0
            have hjs : j < sn := by omega
            obtain ⟨_, _, e, _, d0, d1, d2⟩ := (HI4.out.below HBZ.out (Nat.le_refl _)).at hj2
            cases e
            obtain ⟨p, hp⟩ : ∃ p : Nat, S[j].1 = (p : Int) := ⟨S[j].1.toNat, by have := (HMG.out S[j] (List.getElem_mem hj2)).1; omega⟩
            have hpm : p < m := by have := (HMG.out S[j] (List.getElem_mem hj2)).2; omega
            have hpi : (p : Int) < (m : Int) := by omega
            have RQ := HP4.out.keep HBZ.out
            have pbl := (own_block RQ.out (g := pb) rfl).2
            obtain ⟨f0, f1⟩ := row_lc RQ HMP.out (k := p) (by have := HMP.out; omega)
            have hpx : pl[p]'(by have := HMP.out; omega) = plc pl S[j].1 := by rw [hp]; exact plc_at _
            rw [hpx] at f0 f1
            obtain ⟨y1, y2, hyy⟩ : ∃ y1 y2, plc pl S[j].1 = (y1, y2) := ⟨_, _, rfl⟩
            rw [hyy] at f0 f1
            simp only at f0 f1
            rw [hp] at d0
            have hne : S[k] ≠ S[j] := fun e => by
              exact List.pairwise_iff_getElem.1 (nodup_of_regs HS.out.once) j k hj2 hk3 hjl e.symm
            obtain ⟨x0, x1⟩ := (HXB.out.keep HW.out).cells
            have hxl := (HXB.out.keep HW.out).lt
            simp only at x0 x1
            have HW2 : Hid (∀ q, Below W1.heap.size W1 ((wz.alloc (.cells #[.int .i64 y1, .int .i64 y2] 37)).drewN q)) := fun q => below_dn (HW.out.alloc HW.out.size _) q
            clear hpx RQ
            by_cases h1 : y1 = 2
            · subst h1
              by_cases h2 : x2 = y2
              · subst h2
                exact absurd (HAPT.out.slt S[k] (by rw [List.take_of_length_le (Nat.le_refl _)]; exact List.getElem_mem hk3) S[j] (by rw [List.take_of_length_le (Nat.le_refl _)]; exact List.getElem_mem hj2) (by rw [← HPL.out.1, HXX.out]) (by rw [← HPL.out.1, hyy]) (by rw [← HPL.out.1, HXX.out, hyy])) hne
              · have e2 : (x2 == y2) = false := by simp; omega
                clear hyy hne
                go_wp2_with fail
                go_quiet (fail)
                go_wp2_with fail
                go_roundw
                case rel => exact ⟨j + 1, by omega, by go_num, HW2.out _⟩
                case measure => simp [intOf]; omega
            · have e2 : ((2 : Int) == y1) = false := by simp; omega
              clear hyy hne
              go_wp2_with fail
              go_quiet (fail)
              go_wp2_with fail
              go_roundw
              case rel => exact ⟨j + 1, by omega, by go_num, HW2.out _⟩
              case measure => simp [intOf]; omega
          · obtain rfl : j = k := by omega
            have HBZ : Hid (Below w4.heap.size w4 wz) := HBB.out.trans (HW.out.mono HBB.out.size)
            go_wp2_with fail
            go_roundw
            case rel => exact ⟨j + 1, by omega, by go_num, by first | (rw [HC2.out]; done) | (rw [HC2.out]; rfl) | (rw [HC2.out]; go_num), HBZ.out⟩
            case measure => simp [intOf]; omega
    · obtain rfl : k = sn := by omega
      have HF : Hid (((S.take k).filter fun y => decide ((plc pl y.1).1 = 2)).length = sl) := by
        have := HAPT.out.cnt
        rw [← HPL.out.1, ← HPL.out.2] at this
        rw [HSN.out]
        exact this
      rw [HF.out]
      have HBQ : Hid (Below w.heap.size w wq) := HB4.out.trans (HB.out.mono HB4.out.size)
      go_wp2_with fail
      go_ret
      exact ⟨rfl, HBQ.out⟩
end Go.Proofs.Ytpgbkkllnbahpaa
