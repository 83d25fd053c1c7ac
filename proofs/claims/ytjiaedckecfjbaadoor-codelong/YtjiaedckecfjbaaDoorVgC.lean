import Derived.Test.YtjiaedckecfjbaaDoorVgB
import Derived.BigQuiet
set_option linter.unusedVariables false
set_option linter.unusedSimpArgs false
namespace Go.Proofs.YtjiaedckecfjbaaDoor
open Go.ChangeShapes Go.WideShapes Go.ChangeAt Go.RowKit Go.Maps Go.WideMaps

/-- Are two codes the same. -/
def sameC (m m' : Int) (C C' : List Ri) (FS FS' : List Rf) : Prop := m = m' ∧ C = C' ∧ FS = FS'
set_option maxRecDepth 100000 in
set_option maxHeartbeats 8000000 in
theorem sameC_any (w : World) (ca : Option Addr) (cn cc : Nat) (fa : Option Addr) (fn fc : Nat) (m : Int) (da : Option Addr) (dn dc : Nat) (ga : Option Addr) (gn gc : Nat) (m' : Int) (C C' : List Ri) (FS FS' : List Rf) (h1 : cn = C.length ∧ dn = C'.length ∧ fn = FS.length ∧ gn = FS'.length) (hC : StsG w ca cc 5 (C.map riv)) (hC' : StsG w da dc 5 (C'.map riv)) (hF : StsG w fa fc 5 (FS.map rfv)) (hF' : StsG w ga gc 5 (FS'.map rfv)) {T : Bool} (hT : T = true ↔ sameC m m' C C' FS FS') :
    Calls Tryd.prog 14 #[.agg #[.slice ca cn cc, .slice fa fn fc, .int .i64 m], .agg #[.slice da dn dc, .slice ga gn gc, .int .i64 m']] w fun e w' => SamP w w' T e := by
  obtain ⟨W1, hW1⟩ : ∃ W, W = (w.alloc (.cells #[.slice ca cn cc, .slice fa fn fc, .int .i64 m] 25)).alloc (.cells #[.slice da dn dc, .slice ga gn gc, .int .i64 m'] 25) := ⟨_, rfl⟩
  obtain ⟨p, hp⟩ : ∃ p, p = w.heap.size := ⟨_, rfl⟩
  obtain ⟨q, hq⟩ : ∃ q, q = w.heap.size + 1 := ⟨_, rfl⟩
  obtain ⟨b1, k0, k1, -⟩ := two_new (W0 := w) w (o1 := .cells #[.slice ca cn cc, .slice fa fn fc, .int .i64 m] 25) (o2 := .cells #[.slice da dn dc, .slice ga gn gc, .int .i64 m'] 25) (Below.refl _ _) rfl
  rw [← hW1, ← hp] at k0
  rw [← hW1, ← hq] at k1
  rw [← hW1] at b1
  have HB1 : Hid (Below w.heap.size w W1) := b1
  have HF : Hid ((cn = C.length ∧ dn = C'.length ∧ fn = FS.length ∧ gn = FS'.length) ∧ StsG W1 ca cc 5 (C.map riv) ∧ StsG W1 da dc 5 (C'.map riv) ∧ StsG W1 fa fc 5 (FS.map rfv) ∧ StsG W1 ga gc 5 (FS'.map rfv)) := ⟨h1, hC.below b1 (Nat.le_refl _), hC'.below b1 (Nat.le_refl _), hF.below b1 (Nat.le_refl _), hF'.below b1 (Nat.le_refl _)⟩
  have HT : Hid (T = true ↔ sameC m m' C C' FS FS') := hT
  have p0 : W1.cell? ⟨p, 0, none⟩ = some (.slice ca cn cc) := cell_arr k0 rfl
  have p1 : W1.cell? ⟨p, 1, none⟩ = some (.slice fa fn fc) := cell_arr k0 rfl
  have p2 : W1.cell? ⟨p, 2, none⟩ = some (.int .i64 m) := cell_arr k0 rfl
  have q0 : W1.cell? ⟨q, 0, none⟩ = some (.slice da dn dc) := cell_arr k1 rfl
  have q1 : W1.cell? ⟨q, 1, none⟩ = some (.slice ga gn gc) := cell_arr k1 rfl
  have q2 : W1.cell? ⟨q, 2, none⟩ = some (.int .i64 m') := cell_arr k1 rfl
  have lp := (Array.getElem?_eq_some_iff.1 k0).1
  have lq := (Array.getElem?_eq_some_iff.1 k1).1
  have hno : ∀ {T : Bool}, (T = true ↔ sameC m m' C C' FS FS') → ¬ sameC m m' C C' FS FS' → T = false := fun {T} h1 h2 => by
    cases T with
    | false => rfl
    | true => exact absurd (h1.1 rfl) h2
  have HNO : Hid (¬ sameC m m' C C' FS FS' → T = false) := fun h2 => hno hT h2
  clear h1 hC hC' hF hF' hT b1 k0 k1 hno
  go_enter Tryd.func14, Tryd.ntmps14
  go_upto_region 1 with fail
  rw [← hW1, ← hq, ← hp]
  clear hW1 hp hq
  by_cases e1 : m = m'
  · by_cases e2 : cn = dn
    · by_cases e3 : fn = gn
      · subst e1 e2 e3
        have HCL : Hid (∀ V, Below W1.heap.size W1 V → V.cell? ⟨p, 0, none⟩ = some (.slice ca cn cc) ∧ V.cell? ⟨p, 1, none⟩ = some (.slice fa fn fc) ∧ V.cell? ⟨q, 0, none⟩ = some (.slice da cn dc) ∧ V.cell? ⟨q, 1, none⟩ = some (.slice ga fn gc) ∧ p < V.heap.size ∧ q < V.heap.size) := fun V b => ⟨(b.cell (p := ⟨p, 0, none⟩) lp).trans p0, (b.cell (p := ⟨p, 1, none⟩) lp).trans p1, (b.cell (p := ⟨q, 0, none⟩) lq).trans q0, (b.cell (p := ⟨q, 1, none⟩) lq).trans q1, Nat.lt_of_lt_of_le lp b.size, Nat.lt_of_lt_of_le lq b.size⟩
        go_wp2_with fail
        clear p0 p1 p2 q0 q1 q2 lp lq
        go_loopw [5] (fun iv wr => ∃ k : Nat, k ≤ cn ∧ iv = .int .i64 (k : Int) ∧ Hid (Below W1.heap.size W1 wr) ∧ Hid (C.take k = C'.take k)) (fun iv _ => cn - (intOf iv).toNat)
        case atStart => exact ⟨0, Nat.zero_le _, rfl, Below.refl _ _, by show _ = _; simp⟩
        case round =>
          obtain ⟨k, hk, rfl, HB, HE⟩ := hrel
          obtain ⟨p0, p1, q0, q1, lp, lq⟩ := HCL.out wr HB.out
          by_cases hlt : k < cn
          · have hk1 : k < C.length := by have := HF.out.1; omega
            have hk2 : k < C'.length := by have := HF.out.1; omega
            obtain ⟨b, o, rfl, hlb, hqa⟩ := (HF.out.2.1.below HB.out (Nat.le_refl _)).at (j := k) (by simpa using hk1)
            obtain ⟨b', o', rfl, hlb', hqb⟩ := (HF.out.2.2.1.below HB.out (Nat.le_refl _)).at (j := k) (by simpa using hk2)
            have eg : (C.map riv).getD k [] = riv C[k] := by simp [List.getD, hk1]
            have eg' : (C'.map riv).getD k [] = riv C'[k] := by simp [List.getD, hk2]
            rw [eg] at hqa
            rw [eg'] at hqb
            obtain ⟨x, hx⟩ : ∃ x, x = C[k] := ⟨_, rfl⟩
            obtain ⟨y, hy⟩ : ∃ y, y = C'[k] := ⟨_, rfl⟩
            rw [← hx] at hqa
            rw [← hy] at hqb
            have c0 : wr.cell? ⟨b, o + k * 5, none⟩ = some (.int .i64 x.op) := hqa 0 _ rfl
            have c1 : wr.cell? ⟨b, o + k * 5 + 1, none⟩ = some (.int .i64 x.a) := hqa 1 _ rfl
            have c2 : wr.cell? ⟨b, o + k * 5 + 2, none⟩ = some (.int .i64 x.b) := hqa 2 _ rfl
            have c3 : wr.cell? ⟨b, o + k * 5 + 3, none⟩ = some (.int .i64 x.c) := hqa 3 _ rfl
            have c4 : wr.cell? ⟨b, o + k * 5 + 4, none⟩ = some (.int .i64 x.n) := hqa 4 _ rfl
            have d0 : wr.cell? ⟨b', o' + k * 5, none⟩ = some (.int .i64 y.op) := hqb 0 _ rfl
            have d1 : wr.cell? ⟨b', o' + k * 5 + 1, none⟩ = some (.int .i64 y.a) := hqb 1 _ rfl
            have d2 : wr.cell? ⟨b', o' + k * 5 + 2, none⟩ = some (.int .i64 y.b) := hqb 2 _ rfl
            have d3 : wr.cell? ⟨b', o' + k * 5 + 3, none⟩ = some (.int .i64 y.c) := hqb 3 _ rfl
            have d4 : wr.cell? ⟨b', o' + k * 5 + 4, none⟩ = some (.int .i64 y.n) := hqb 4 _ rfl
            have g1 : cn ≤ cc := by have z := HF.out.2.1.le; rw [List.length_map] at z; have := HF.out.1; omega
            have g2 : cc ≤ 9223372036854775807 := HF.out.2.1.mx
            have g3 : cn ≤ dc := by have z := HF.out.2.2.1.le; rw [List.length_map] at z; have := HF.out.1; omega
            have g4 : dc ≤ 9223372036854775807 := HF.out.2.2.1.mx
            have HBN : Hid (∀ nq, Below W1.heap.size W1 (wr.drewN nq)) := fun nq => ⟨HB.out.os, HB.out.tape, HB.out.output, HB.out.size, HB.out.block⟩
            have hne := ins_neq x.op x.a x.b x.c x.n y.op y.a y.b y.c y.n
            have HX : Hid (C[k]? = some x ∧ C'[k]? = some y) := ⟨by rw [hx]; exact List.getElem?_eq_getElem hk1, by rw [hy]; exact List.getElem?_eq_getElem hk2⟩
            have hwk : wrap64 ((k : Int) + 1) = ((k + 1 : Nat) : Int) := by unfold wrap64; omega
            clear hqa hqb eg eg' hx hy
            generalize hR : decide (x.op = y.op ∧ x.a = y.a ∧ x.b = y.b ∧ x.c = y.c ∧ x.n = y.n) = R at hne
            have HR : Hid (R = true ↔ x = y) := by
              show _ ↔ _
              rw [← hR, decide_eq_true_iff]
              exact ri_eq x y
            clear hR
            generalize x.op = x0 at *
            generalize x.a = x1 at *
            generalize x.b = x2 at *
            generalize x.c = x3 at *
            generalize x.n = x4 at *
            generalize y.op = y0 at *
            generalize y.a = y1 at *
            generalize y.b = y2 at *
            generalize y.c = y3 at *
            generalize y.n = y4 at *
            cases R with
            | true =>
              have HE2 : Hid (C.take (k + 1) = C'.take (k + 1)) := by
                show _ = _
                have e : x = y := HR.out.1 rfl
                rw [List.take_add_one, List.take_add_one, HE.out, HX.out.1, HX.out.2, e]
              clear hk1 hk2
              go_wp2_with fail
              go_quiet (fail)
              show Exit.then _ _ Exit.normal _ _
              go_wp2_with fail
              refine ⟨⟨k + 1, by omega, by simp, HBN.out _, HE2.out⟩, ?_⟩
              simp [intOf]
              omega
            | false =>
              have HTF : Hid (T = false) := HNO.out fun h => by
                have e := h.2.1
                have q1 := HX.out.1
                rw [e, HX.out.2] at q1
                injection q1 with q1
                exact absurd (HR.out.2 q1.symm) (by simp)
              have HBO : Hid (∀ nq, Below w.heap.size w (wr.drewN nq)) := fun nq => HB1.out.trans ((HBN.out nq).mono HB1.out.size)
              clear hk1 hk2
              go_wp2_with fail
              go_quiet (fail)
              show Exit.then _ _ Exit.normal _ _
              go_wp2_with fail
              rw [HTF.out]
              go_ret
              exact ⟨⟨rfl, HBO.out _⟩⟩
          · have HCC : Hid (C = C') := by
              have e : k = cn := by omega
              have z := HE.out
              rw [e] at z
              rw [List.take_of_length_le (by have := HF.out.1; omega), List.take_of_length_le (by have := HF.out.1; omega)] at z
              exact z
            go_wp2_with fail
            clear p0 p1 q0 q1 lp lq HE hlt hk
            go_loopw [6] (fun iv wr => ∃ k : Nat, k ≤ fn ∧ iv = .int .i64 (k : Int) ∧ Hid (Below W1.heap.size W1 wr) ∧ Hid (FS.take k = FS'.take k)) (fun iv _ => fn - (intOf iv).toNat)
            case atStart => exact ⟨0, Nat.zero_le _, rfl, HB.out, by show _ = _; simp⟩
            case round =>
              clear HB
              obtain ⟨k, hk, rfl, HB, HE⟩ := hrel
              obtain ⟨p0, p1, q0, q1, lp, lq⟩ := HCL.out wr HB.out
              by_cases hlt : k < fn
              · have hk1 : k < FS.length := by have := HF.out.1; omega
                have hk2 : k < FS'.length := by have := HF.out.1; omega
                obtain ⟨b, o, rfl, hlb, hqa⟩ := (HF.out.2.2.2.1.below HB.out (Nat.le_refl _)).at (j := k) (by simpa using hk1)
                obtain ⟨b', o', rfl, hlb', hqb⟩ := (HF.out.2.2.2.2.below HB.out (Nat.le_refl _)).at (j := k) (by simpa using hk2)
                have eg : (FS.map rfv).getD k [] = rfv FS[k] := by simp [List.getD, hk1]
                have eg' : (FS'.map rfv).getD k [] = rfv FS'[k] := by simp [List.getD, hk2]
                rw [eg] at hqa
                rw [eg'] at hqb
                obtain ⟨x, hx⟩ : ∃ x, x = FS[k] := ⟨_, rfl⟩
                obtain ⟨y, hy⟩ : ∃ y, y = FS'[k] := ⟨_, rfl⟩
                rw [← hx] at hqa
                rw [← hy] at hqb
                have c0 : wr.cell? ⟨b, o + k * 5, none⟩ = some (.string x.name) := hqa 0 _ rfl
                have c1 : wr.cell? ⟨b, o + k * 5 + 1, none⟩ = some (.int .i64 x.fr) := hqa 1 _ rfl
                have c2 : wr.cell? ⟨b, o + k * 5 + 2, none⟩ = some (.int .i64 x.fi) := hqa 2 _ rfl
                have c3 : wr.cell? ⟨b, o + k * 5 + 3, none⟩ = some (.int .i64 x.ct) := hqa 3 _ rfl
                have c4 : wr.cell? ⟨b, o + k * 5 + 4, none⟩ = some (.int .i64 x.pa) := hqa 4 _ rfl
                have d0 : wr.cell? ⟨b', o' + k * 5, none⟩ = some (.string y.name) := hqb 0 _ rfl
                have d1 : wr.cell? ⟨b', o' + k * 5 + 1, none⟩ = some (.int .i64 y.fr) := hqb 1 _ rfl
                have d2 : wr.cell? ⟨b', o' + k * 5 + 2, none⟩ = some (.int .i64 y.fi) := hqb 2 _ rfl
                have d3 : wr.cell? ⟨b', o' + k * 5 + 3, none⟩ = some (.int .i64 y.ct) := hqb 3 _ rfl
                have d4 : wr.cell? ⟨b', o' + k * 5 + 4, none⟩ = some (.int .i64 y.pa) := hqb 4 _ rfl
                have g1 : fn ≤ fc := by have z := HF.out.2.2.2.1.le; rw [List.length_map] at z; have := HF.out.1; omega
                have g2 : fc ≤ 9223372036854775807 := HF.out.2.2.2.1.mx
                have g3 : fn ≤ gc := by have z := HF.out.2.2.2.2.le; rw [List.length_map] at z; have := HF.out.1; omega
                have g4 : gc ≤ 9223372036854775807 := HF.out.2.2.2.2.mx
                have HBN : Hid (∀ nq, Below W1.heap.size W1 (wr.drewN nq)) := fun nq => ⟨HB.out.os, HB.out.tape, HB.out.output, HB.out.size, HB.out.block⟩
                have hne := fun_neq x.name x.fr x.fi x.ct x.pa y.name y.fr y.fi y.ct y.pa
                have HX : Hid (FS[k]? = some x ∧ FS'[k]? = some y) := ⟨by rw [hx]; exact List.getElem?_eq_getElem hk1, by rw [hy]; exact List.getElem?_eq_getElem hk2⟩
                have hwk : wrap64 ((k : Int) + 1) = ((k + 1 : Nat) : Int) := by unfold wrap64; omega
                clear hqa hqb eg eg' hx hy
                generalize hR : decide (x.name = y.name ∧ x.fr = y.fr ∧ x.fi = y.fi ∧ x.ct = y.ct ∧ x.pa = y.pa) = R at hne
                have HR : Hid (R = true ↔ x = y) := by
                  show _ ↔ _
                  rw [← hR, decide_eq_true_iff]
                  exact rf_eq x y
                clear hR
                generalize x.name = x0 at *
                generalize x.fr = x1 at *
                generalize x.fi = x2 at *
                generalize x.ct = x3 at *
                generalize x.pa = x4 at *
                generalize y.name = y0 at *
                generalize y.fr = y1 at *
                generalize y.fi = y2 at *
                generalize y.ct = y3 at *
                generalize y.pa = y4 at *
                cases R with
                | true =>
                  have HE2 : Hid (FS.take (k + 1) = FS'.take (k + 1)) := by
                    show _ = _
                    have e : x = y := HR.out.1 rfl
                    rw [List.take_add_one, List.take_add_one, HE.out, HX.out.1, HX.out.2, e]
                  clear hk1 hk2
                  go_wp2_with fail
                  go_quiet (fail)
                  show Exit.then _ _ Exit.normal _ _
                  go_wp2_with fail
                  refine ⟨⟨k + 1, by omega, by simp, HBN.out _, HE2.out⟩, ?_⟩
                  simp [intOf]
                  omega
                | false =>
                  have HTF : Hid (T = false) := HNO.out fun h => by
                    have e := h.2.2
                    have q1 := HX.out.1
                    rw [e, HX.out.2] at q1
                    injection q1 with q1
                    exact absurd (HR.out.2 q1.symm) (by simp)
                  have HBO : Hid (∀ nq, Below w.heap.size w (wr.drewN nq)) := fun nq => HB1.out.trans ((HBN.out nq).mono HB1.out.size)
                  clear hk1 hk2
                  go_wp2_with fail
                  go_quiet (fail)
                  show Exit.then _ _ Exit.normal _ _
                  go_wp2_with fail
                  rw [HTF.out]
                  go_ret
                  exact ⟨⟨rfl, HBO.out _⟩⟩
              · have HTT : Hid (T = true) := by
                  have e : k = fn := by omega
                  have z := HE.out
                  rw [e] at z
                  rw [List.take_of_length_le (by have := HF.out.1; omega), List.take_of_length_le (by have := HF.out.1; omega)] at z
                  exact HT.out.2 ⟨rfl, HCC.out, z⟩
                have HBO : Hid (Below w.heap.size w wr) := HB1.out.trans (HB.out.mono HB1.out.size)
                go_wp2_with fail
                rw [HTT.out]
                go_ret
                exact ⟨⟨rfl, HBO.out⟩⟩
      · have HTF : Hid (T = false) := HNO.out fun h => e3 (by have := HF.out.1; rw [this.2.2.1, this.2.2.2, h.2.2])
        have e3' : ((fn : Int) == (gn : Int)) = false := by simp; omega
        go_wp2_with fail
        rw [HTF.out]
        go_ret
        exact ⟨⟨rfl, HB1.out⟩⟩
    · have HTF : Hid (T = false) := HNO.out fun h => e2 (by have := HF.out.1; rw [this.1, this.2.1, h.2.1])
      have e2' : ((cn : Int) == (dn : Int)) = false := by simp; omega
      go_wp2_with fail
      rw [HTF.out]
      go_ret
      exact ⟨⟨rfl, HB1.out⟩⟩
  · have HTF : Hid (T = false) := HNO.out fun h => e1 h.1
    have e1' : (m == m') = false := by simpa using e1
    go_wp2_with fail
    rw [HTF.out]
    go_ret
    exact ⟨⟨rfl, HB1.out⟩⟩
end Go.Proofs.YtjiaedckecfjbaaDoor
