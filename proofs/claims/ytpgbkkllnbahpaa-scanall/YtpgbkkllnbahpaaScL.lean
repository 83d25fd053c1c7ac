import Derived.Test.YtpgbkkllnbahpaaScK
set_option linter.unusedVariables false
set_option linter.unusedSimpArgs false
namespace Go.Proofs.Ytpgbkkllnbahpaa
open Go.ChangeShapes Go.WideShapes Go.ChangeAt Go.RowKit Go.Maps

theorem row_sl {w : World} {B e z v xs} (h : Row w B e z v xs) : ∃ o n k, v = .slice o n k ∧ n = xs.length ∧ n ≤ k ∧ k ≤ 9223372036854775807 := by
  obtain ⟨o, k, e, h1, h2⟩ := own_slice h.out
  exact ⟨o, _, k, e, rfl, h1, h2⟩
/-- The allocation as it lies. -/
structure AL (w : World) (B ab : Nat) (av sv pv : Value) (s : SS) : Prop where
  lo : B ≤ ab
  box : w.heap[ab]? = some (.cells #[av, sv, pv, .int .i64 (s.sl : Int)] 53 (0, 0))
  ra : Row w B 35 3 av (s.act.map vc)
  rs : Row w B 3 1 sv (s.sp.map ic)
  rp : Row w B 37 2 pv (s.pl.map lc)
theorem AL.lt {w B ab av sv pv s} (h : AL w B ab av sv pv s) : ab < w.heap.size := (Array.getElem?_eq_some_iff.1 h.box).1
theorem AL.cells {w B ab av sv pv s} (h : AL w B ab av sv pv s) : w.cell? ⟨ab, 0, none⟩ = some av ∧ w.cell? ⟨ab, 1, none⟩ = some sv ∧ w.cell? ⟨ab, 2, none⟩ = some pv ∧ w.cell? ⟨ab, 3, none⟩ = some (.int .i64 (s.sl : Int)) := by
  refine ⟨?_, ?_, ?_, ?_⟩ <;> simp [World.cell?, h.box]
theorem AL.fz {w B ab av sv pv s} (h : AL w B ab av sv pv s) (q : Nat) : w.frozen? ⟨ab, q, none⟩ = false := by simp [World.frozen?, h.box]
theorem AL.keep {w w' B ab av sv pv s} (h : AL w B ab av sv pv s) (hb : Below w.heap.size w w') : AL w' B ab av sv pv s :=
  ⟨h.lo, (hb.block ab h.lt).trans h.box, h.ra.keep hb, h.rs.keep hb, h.rp.keep hb⟩
/-- The spare registers turned, and stored. -/
theorem AL.setS {w w' B ab av sv pv s sv' sp'} (h : AL w B ab av sv pv s) (R : Row w' B 3 1 sv' (sp'.map ic)) (G : GI B w w' sv sv') : AL (w'.setCell ⟨ab, 1, none⟩ sv') B ab av sv' pv ⟨s.act, sp', s.pl, s.sl⟩ := by
  have nb : sv.ownBlock ≠ some ab := own_not h.rs.out h.box (by decide)
  have kb : w'.heap[ab]? = some (.cells #[av, sv, pv, .int .i64 (s.sl : Int)] 53 (0, 0)) := (G.blk ab h.lt nb).trans h.box
  have R' : Row w' B 35 3 av (s.act.map vc) := h.ra.move fun g hg => G.blk g (own_block h.ra.out hg).2 (own_apart h.ra.out h.rs.out (by decide) g hg)
  have P' : Row w' B 37 2 pv (s.pl.map lc) := h.rp.move fun g hg => G.blk g (own_block h.rp.out hg).2 (own_apart h.rp.out h.rs.out (by decide) g hg)
  have oth : ∀ k, k ≠ ab → (w'.setCell ⟨ab, 1, none⟩ sv').heap[k]? = w'.heap[k]? := fun k hk => Below.heap_setCell _ _ _ _ hk
  refine ⟨h.lo, ?_, R'.move fun g hg => oth g fun e => ?_, R.move fun g hg => oth g fun e => ?_, P'.move fun g hg => oth g fun e => ?_⟩
  · rw [heap_set_at kb]; rfl
  · exact own_not R'.out kb (by decide) (by rw [← e]; exact hg)
  · exact own_not R.out kb (by decide) (by rw [← e]; exact hg)
  · exact own_not P'.out kb (by decide) (by rw [← e]; exact hg)
theorem AL.setA {w w' B ab av sv pv s av' act'} (h : AL w B ab av sv pv s) (R : Row w' B 35 3 av' (act'.map vc)) (G : GI B w w' av av') : AL (w'.setCell ⟨ab, 0, none⟩ av') B ab av' sv pv ⟨act', s.sp, s.pl, s.sl⟩ := by
  have nb : av.ownBlock ≠ some ab := own_not h.ra.out h.box (by decide)
  have kb : w'.heap[ab]? = some (.cells #[av, sv, pv, .int .i64 (s.sl : Int)] 53 (0, 0)) := (G.blk ab h.lt nb).trans h.box
  have R' : Row w' B 3 1 sv (s.sp.map ic) := h.rs.move fun g hg => G.blk g (own_block h.rs.out hg).2 (own_apart h.rs.out h.ra.out (by decide) g hg)
  have P' : Row w' B 37 2 pv (s.pl.map lc) := h.rp.move fun g hg => G.blk g (own_block h.rp.out hg).2 (own_apart h.rp.out h.ra.out (by decide) g hg)
  have oth : ∀ k, k ≠ ab → (w'.setCell ⟨ab, 0, none⟩ av').heap[k]? = w'.heap[k]? := fun k hk => Below.heap_setCell _ _ _ _ hk
  refine ⟨h.lo, ?_, R.move fun g hg => oth g fun e => ?_, R'.move fun g hg => oth g fun e => ?_, P'.move fun g hg => oth g fun e => ?_⟩
  · rw [heap_set_at kb]; rfl
  · exact own_not R.out kb (by decide) (by rw [← e]; exact hg)
  · exact own_not R'.out kb (by decide) (by rw [← e]; exact hg)
  · exact own_not P'.out kb (by decide) (by rw [← e]; exact hg)
/-- Which blocks may have been written. -/
structure Fr (w w' : World) (ab : Nat) (av sv av' sv' : Value) : Prop where
  size : w.heap.size ≤ w'.heap.size
  blk : ∀ g, g < w.heap.size → g ≠ ab → av.ownBlock ≠ some g → sv.ownBlock ≠ some g → w'.heap[g]? = w.heap[g]?
  oa : ∀ g, av'.ownBlock = some g → av.ownBlock = some g ∨ w.heap.size ≤ g
  os : ∀ g, sv'.ownBlock = some g → sv.ownBlock = some g ∨ w.heap.size ≤ g
theorem Fr.refl (w : World) (ab : Nat) (av sv : Value) : Fr w w ab av sv av sv := ⟨Nat.le_refl _, fun _ _ _ _ _ => rfl, fun _ h => .inl h, fun _ h => .inl h⟩
theorem Fr.keep {w w1 w2 ab av sv av' sv'} (h : Fr w w1 ab av sv av' sv') (hb : Below w1.heap.size w1 w2) : Fr w w2 ab av sv av' sv' :=
  ⟨Nat.le_trans h.size hb.size, fun g h1 h2 h3 h4 => (hb.block g (Nat.lt_of_lt_of_le h1 h.size)).trans (h.blk g h1 h2 h3 h4), h.oa, h.os⟩
theorem Fr.setS {B w w1 w2 ab av sv av' sv' v2} {q : Nat} {u : Value} (h : Fr w w1 ab av sv av' sv') (G : GI B w1 w2 sv' v2) : Fr w (w2.setCell ⟨ab, q, none⟩ u) ab av sv av' v2 := by
  refine ⟨by have := h.size; have := G.size; simp [World.setCell]; omega, fun g h1 h2 h3 h4 => ?_, h.oa, fun g hg => ?_⟩
  · rw [Below.heap_setCell _ _ _ _ h2, G.blk g (Nat.lt_of_lt_of_le h1 h.size) fun e => ?_, h.blk g h1 h2 h3 h4]
    rcases h.os g e with q | q
    · exact h4 q
    · omega
  · rcases G.own g hg with q | q
    · exact h.os g q
    · exact .inr (Nat.le_trans h.size q)
theorem Fr.setA {B w w1 w2 ab av sv av' sv' v2} {q : Nat} {u : Value} (h : Fr w w1 ab av sv av' sv') (G : GI B w1 w2 av' v2) : Fr w (w2.setCell ⟨ab, q, none⟩ u) ab av sv v2 sv' := by
  refine ⟨by have := h.size; have := G.size; simp [World.setCell]; omega, fun g h1 h2 h3 h4 => ?_, fun g hg => ?_, h.os⟩
  · rw [Below.heap_setCell _ _ _ _ h2, G.blk g (Nat.lt_of_lt_of_le h1 h.size) fun e => ?_, h.blk g h1 h2 h3 h4]
    rcases h.oa g e with q | q
    · exact h3 q
    · omega
  · rcases G.own g hg with q | q
    · exact h.oa g q
    · exact .inr (Nat.le_trans h.size q)
/-- Every active one has its place. -/
def InR (s : SS) : Prop := ∀ y ∈ s.act, 0 ≤ y.1 ∧ y.1 < (s.pl.length : Int)
set_option maxRecDepth 100000 in
set_option maxHeartbeats 4000000 in
theorem free_any (w : World) (B ab : Nat) (av sv pv : Value) (s : SS) (h : AL w B ab av sv pv s) (hr : InR s) (F : Int) (hB : B ≤ w.heap.size) (hl1 : s.act.length ≤ 100000000) (hl2 : s.sp.length + s.act.length ≤ 100000000) (hl3 : s.pl.length ≤ 100000000) :
    Calls Try.prog 24 #[.pointer (some ⟨ab, 0, none⟩), .int .i64 F] w fun e w' => e = .returned (.tuple #[]) ∧ ∃ av' sv', AL w' B ab av' sv' pv (s.free F) ∧ Below B w w' ∧ Fr w w' ab av sv av' sv' := by
  have HL : Hid (AL w B ab av sv pv s) := h
  have HR : Hid (InR s) := hr
  have HB : Hid (B ≤ w.heap.size) := hB
  have H1 : Hid (s.act.length ≤ 100000000 ∧ s.sp.length + s.act.length ≤ 100000000 ∧ s.pl.length ≤ 100000000) := ⟨hl1, hl2, hl3⟩
  obtain ⟨l0, p0⟩ : ∃ l0 : SS → Nat, l0 = fun s => s.act.length := ⟨_, rfl⟩
  clear h hr hB hl1 hl2 hl3
  go_enter Try.func24, Try.ntmps24
  go_wp2_with fail
  go_loopg [] s.act.length (fun k wr => ∃ (av' sv' : Value) (s' : SS), Hid (AL wr B ab av' sv' pv s') ∧ Hid (Below B w wr ∧ Fr w wr ab av sv av' sv') ∧ Hid (InR s') ∧ Hid (s'.free F = s.free F) ∧ Hid (k = s'.act.length ∧ s'.pl = s.pl ∧ s'.act.length ≤ s.act.length ∧ s'.sp.length + s'.act.length ≤ s.sp.length + s.act.length))
  case atStart => exact ⟨av, sv, s, HL, ⟨Below.refl _ _, Fr.refl _ _ _ _⟩, HR, rfl, ⟨rfl, rfl, Nat.le_refl _, Nat.le_refl _⟩⟩
  case round =>
    obtain ⟨av', sv', s', HA, HBF, HI, HF, HK⟩ := hrel
    have HBW : Hid (Below B w wr) := HBF.out.1
    have HFR : Hid (Fr w wr ab av sv av' sv') := HBF.out.2
    clear HBF
    obtain ⟨wq, rfl⟩ : ∃ wq, wq = wr := ⟨_, rfl⟩
    obtain ⟨c0, c1, c2, c3⟩ := HA.out.cells
    have hlt := HA.out.lt
    obtain ⟨ao, ac, e, a1, a2⟩ := own_slice HA.out.ra.out
    subst e
    have hal : (s'.act.map vc).length = s'.act.length := by simp
    rw [hal] at c0 HA a1 HFR
    clear hal
    cases hact : s'.act with
    | nil =>
      rw [hact] at c0 a1
      simp only [List.length_nil] at c0 a1
      have HE : Hid (s.free F = s') := by
        rw [← HF.out]
        obtain ⟨a9, b9, c9, d9⟩ := s'
        simp only at hact
        subst hact
        rfl
      go_wp2_with fail
      refine bodyPost_end (v := .tuple #[]) (by simp [results, Try.results24, go_sem]) rfl ?_
      rw [HE.out]
      exact ⟨rfl, _, _, HA.out, HBW.out, HFR.out⟩
    | cons y a' =>
      obtain ⟨b, c', e, _, _, _, hbw⟩ := own_some HA.out.ra.out (by rw [hact]; simp)
      simp only [Value.slice.injEq] at e
      obtain ⟨rfl, e1, e2⟩ := e
      clear e1 e2
      obtain ⟨d0, d1, d2⟩ := row_vc HA.out.ra rfl (k := 0) (by rw [hact]; simp)
      have ey : s'.act[0]'(by rw [hact]; simp) = y := by simp [hact]
      rw [ey] at d0 d1 d2
      simp only [Nat.zero_mul, Nat.zero_add] at d0 d1 d2
      have hap : 0 < s'.act.length := by rw [hact]; simp
      by_cases hy : y.2.2 < F
      · have hyr := HI.out y (by rw [hact]; simp)
        obtain ⟨q, hq⟩ : ∃ q : Nat, y.1 = (q : Int) := ⟨y.1.toNat, by omega⟩
        have hql : q < s'.pl.length := by omega
        have hpl : (s'.pl.map lc).length = s'.pl.length := by simp
        obtain ⟨pb, pc, e, p1, p2, _, pbw⟩ := own_some HA.out.rp.out (by omega)
        subst e
        rw [hpl] at c2 p1
        have HA2 := HA.out
        rw [hpl] at HA2
        obtain ⟨f0, f1⟩ := row_lc HA2.rp rfl hql
        have er : s'.pl[q] = plc s'.pl y.1 := by simp [plc, hq, List.getD, hql]
        rw [er] at f0 f1
        obtain ⟨r, hrr⟩ : ∃ r, r = (plc s'.pl y.1).2 := ⟨_, rfl⟩
        rw [← hrr] at f1
        rw [hq] at d0
        clear er hpl f0
        obtain ⟨n, hn⟩ : ∃ n, n = s'.act.length := ⟨_, rfl⟩
        obtain ⟨m, hm⟩ : ∃ m, m = s'.pl.length := ⟨_, rfl⟩
        rw [← hn] at c0 a1 hap HA2
        rw [← hm] at hql c2 p1 HA2
        have HN : Hid (n = s'.act.length ∧ m = s'.pl.length) := ⟨hn, hm⟩
        have HY : Hid (s'.act = y :: a' ∧ r = (plc s'.pl y.1).2) := ⟨hact, hrr⟩
        clear hact ey hrr hn hm hyr
        have HX : Hid (AL wq B ab (.slice (some ⟨b, 0, none⟩) n ac) sv' (.slice (some ⟨pb, 0, none⟩) m pc) s') := HA2
        have HFX : Hid (Fr w wq ab av sv (.slice (some ⟨b, 0, none⟩) n ac) sv') := by have h9 := HFR.out; rw [← HN.out.1] at h9; exact h9
        clear HA2 HA HFR
        go_wp2_with fail
        go_region
        obtain ⟨w1, hw1⟩ : ∃ w1, w1 = (wq.alloc (Obj.cells #[Value.int IntKind.i64 r] 3)).drew := ⟨_, rfl⟩
        rw [← hw1]
        have hb1 : Below wq.heap.size wq w1 := by rw [hw1]; exact ((Below.refl _ _).alloc (Nat.le_refl _) _).drew
        have HB1 : Hid (BxI w1 wq.heap.size r) := by rw [hw1]; exact ⟨heap_alloc_new wq _⟩
        have HA1 : Hid (AL w1 B ab (.slice (some ⟨b, 0, none⟩) n ac) sv' (.slice (some ⟨pb, 0, none⟩) m pc) s') := HX.out.keep hb1
        have HBW1 : Hid (Below B w w1) := HBW.out.trans (hb1.mono (by have := HBW.out.size; have := HB.out; omega))
        have HFR1 : Hid (Fr w w1 ab av sv (.slice (some ⟨b, 0, none⟩) n ac) sv') := HFX.out.keep hb1
        have HNE : Hid (sv'.ownBlock ≠ some wq.heap.size) := fun e => by have := (own_block HX.out.rs.out e).2; omega
        have hl1 := HB1.out.lt
        have hl2 := HA1.out.lt
        clear c0 c1 c2 c3 d0 d1 d2 f1 HX hlt hbw pbw hw1 hb1 HBW
        obtain ⟨c0, c1, c2, c3⟩ := HA1.out.cells
        have r0 := HB1.out.cell
        have hne : sv'.ownBlock ≠ some wq.heap.size := HNE.out
        generalize wq.heap.size = rb at HB1 hl1 r0 hne ⊢
        have HS : Hid (∀ w2 v2, GI B w1.drew w2 sv' v2 → (w2.cell? ⟨ab, 1, none⟩ = some sv' ∧ w2.cell? ⟨rb, 0, none⟩ = some (.int .i64 r) ∧ ab < w2.heap.size ∧ rb < w2.heap.size) ∧ w2.frozen? ⟨ab, 1, none⟩ = false) := fun w2 v2 G => by
          have e1 := G.blk ab hl2 (own_not HA1.out.rs.out HA1.out.box (by decide))
          have e2 := G.blk rb hl1 hne
          have hs := G.size
          refine ⟨⟨?_, ?_, Nat.lt_of_lt_of_le hl2 hs, Nat.lt_of_lt_of_le hl1 hs⟩, ?_⟩
          · rw [World.cell?_of_block (a := ⟨ab, 1, none⟩) e1]; exact c1
          · rw [World.cell?_of_block (a := ⟨rb, 0, none⟩) e2]; exact r0
          · rw [World.frozen?_of_block (a := ⟨ab, 1, none⟩) e1]; exact HA1.out.fz 1
        have HW : Hid (Calls Try.prog 27 #[sv', .int .i64 r, .func (.func 28) #[] #[.pointer (some ⟨rb, 0, none⟩)]] w1.drew fun e w' => ∃ v', e = .returned v' ∧ Row w' B 3 1 v' ((wth (fun o => decide (r < o)) r s'.sp).map ic) ∧ GI B w1.drew w' sv' v') :=
          with_int w1.drew B sv' s'.sp (HA1.out.keep (Below.refl _ _).drew).rs rb r (HB1.out.keep (Below.refl _ _).drew) (by have := H1.out; have := HK.out; omega) (by have := HB.out; have := HBW1.out.size; show B ≤ w1.heap.size; omega)
        have S0 : w1.drew.cell? ⟨ab, 1, none⟩ = some sv' ∧ w1.drew.cell? ⟨rb, 0, none⟩ = some (.int .i64 r) ∧ ab < w1.drew.heap.size ∧ rb < w1.drew.heap.size := ⟨c1, r0, hl2, hl1⟩
        go_wp2_with fail
        refine led_start (S := fun w' : World => w'.cell? ⟨ab, 1, none⟩ = some sv' ∧ w'.cell? ⟨rb, 0, none⟩ = some (.int .i64 r) ∧ ab < w'.heap.size ∧ rb < w'.heap.size) (z := 10) (by kernel_rfl) ?_
        refine led_take (i := 0) (v := ?v0) rfl (by kernel_rfl) (by kernel_rfl) (by kernel_rfl) (by kernel_rfl) (fun _ _ _ h => h) (.inl ⟨by rfl, ?hy0⟩) S0 ?rest0
        case hy0 =>
          rintro w' ⟨h1, h2, h3, h4⟩
          go_simp
          all_goals with_reducible rfl
        try simp only [Act.put, List.getElem_toArray, List.getElem_cons_succ, List.getElem_cons_zero, List.setIfInBounds_toArray, List.set_cons_zero, List.set_cons_succ]
        refine led_take (i := 1) (v := ?v1) rfl (by kernel_rfl) (by kernel_rfl) (by kernel_rfl) (by kernel_rfl) (fun _ _ _ h => h) (.inl ⟨by rfl, ?hy1⟩) S0 ?rest1
        case hy1 =>
          rintro w' ⟨h1, h2, h3, h4⟩
          go_simp
          all_goals with_reducible rfl
        try simp only [Act.put, List.getElem_toArray, List.getElem_cons_succ, List.getElem_cons_zero, List.setIfInBounds_toArray, List.set_cons_zero, List.set_cons_succ]
        refine led_take (i := 2) (v := ?v2) rfl (by kernel_rfl) (by kernel_rfl) (by kernel_rfl) (by kernel_rfl) (fun _ _ _ h => h) (.inl ⟨by rfl, ?hy2⟩) S0 ?rest2
        case hy2 =>
          rintro w' ⟨h1, h2, h3, h4⟩
          go_simp
          all_goals with_reducible rfl
        try simp only [Act.put, List.getElem_toArray, List.getElem_cons_succ, List.getElem_cons_zero, List.setIfInBounds_toArray, List.set_cons_zero, List.set_cons_succ]
        refine led_take (i := 3) (v := ?v3) rfl (by kernel_rfl) (by kernel_rfl) (by kernel_rfl) (by kernel_rfl) (fun _ _ _ h => h) (.inl ⟨by rfl, ?hy3⟩) S0 ?rest3
        case hy3 =>
          rintro w' ⟨h1, h2, h3, h4⟩
          go_simp
          all_goals with_reducible rfl
        try simp only [Act.put, List.getElem_toArray, List.getElem_cons_succ, List.getElem_cons_zero, List.setIfInBounds_toArray, List.set_cons_zero, List.set_cons_succ]
        refine led_take (i := 4) (v := ?v4) rfl (by kernel_rfl) (by kernel_rfl) (by kernel_rfl) (by kernel_rfl) (fun _ _ _ h => h) (.inl ⟨by rfl, ?hy4⟩) S0 ?rest4
        case hy4 =>
          rintro w' ⟨h1, h2, h3, h4⟩
          go_simp
          all_goals with_reducible rfl
        try simp only [Act.put, List.getElem_toArray, List.getElem_cons_succ, List.getElem_cons_zero, List.setIfInBounds_toArray, List.set_cons_zero, List.set_cons_succ]
        refine led_take (i := 5) (v := ?v5) rfl (by kernel_rfl) (by kernel_rfl) (by kernel_rfl) (by kernel_rfl) (fun _ _ _ h => h) (.inl ⟨by rfl, ?hy5⟩) S0 ?rest5
        case hy5 =>
          rintro w' ⟨h1, h2, h3, h4⟩
          go_simp
          all_goals with_reducible rfl
        try simp only [Act.put, List.getElem_toArray, List.getElem_cons_succ, List.getElem_cons_zero, List.setIfInBounds_toArray, List.set_cons_zero, List.set_cons_succ]
        refine led_take (i := 6) (v := ?v6) rfl (by kernel_rfl) (by kernel_rfl) (by kernel_rfl) (by kernel_rfl) (fun _ _ _ h => h) (.inl ⟨by rfl, ?hy6⟩) S0 ?rest6
        case hy6 =>
          rintro w' ⟨h1, h2, h3, h4⟩
          go_simp
          all_goals with_reducible rfl
        try simp only [Act.put, List.getElem_toArray, List.getElem_cons_succ, List.getElem_cons_zero, List.setIfInBounds_toArray, List.set_cons_zero, List.set_cons_succ]
        refine led_one (i := 7) rfl (by kernel_rfl) ?_
        intro K7 hK7
        rw [if_pos (by rfl)]
        go_simp
        refine Calls.mono (HW.out) ?_
        rintro e w2 ⟨v2, rfl, R2, G2⟩; obtain ⟨o2, n2, k2, rfl, hn2, _, _⟩ := row_sl R2; have HR2 : Hid (Row w2 B 3 1 (.slice o2 n2 k2) ((wth (fun o => decide (r < o)) r s'.sp).map ic)) := R2; have HG2 : Hid (GI B w1.drew w2 sv' (.slice o2 n2 k2)) := G2; obtain ⟨S1, fz1⟩ := HS.out w2 _ G2; clear R2 G2 hn2
        go_simp
        refine hK7 _ _ (fun _ => S1) ?_
        clear hK7
        try simp only [Act.put, List.getElem_toArray, List.getElem_cons_succ, List.getElem_cons_zero, List.setIfInBounds_toArray, List.set_cons_zero, List.set_cons_succ]
        refine led_one (i := 8) rfl (by kernel_rfl) ?_
        intro K8 hK8
        rw [if_pos (by rfl)]
        go_simp
        refine hK8 _ _ (fun _ => S1) ?_
        clear hK8
        try simp only [Act.put, List.getElem_toArray, List.getElem_cons_succ, List.getElem_cons_zero, List.setIfInBounds_toArray, List.set_cons_zero, List.set_cons_succ]
        refine led_one (i := 9) rfl (by kernel_rfl) ?_
        intro K9 hK9
        rw [if_pos (by rfl)]
        go_simp
        refine hK9 _ _ (fun _ => S1) ?_
        clear hK9
        try simp only [Act.put, List.getElem_toArray, List.getElem_cons_succ, List.getElem_cons_zero, List.setIfInBounds_toArray, List.set_cons_zero, List.set_cons_succ]
        refine led_one (i := 10) rfl (by kernel_rfl) ?_
        intro K10 hK10
        rw [if_pos (by rfl)]
        go_simp
        refine hK10 _ _ (fun h => absurd rfl h) ?_
        clear hK10
        refine led_done (by kernel_rfl) ?_
        have HA3 := show Hid _ from (HA1.out.keep (Below.refl _ _).drew).setS HR2.out HG2.out
        have HBW3 : Hid (Below B w (w2.setCell ⟨ab, 1, none⟩ (.slice o2 n2 k2))) := (HBW1.out.trans ((Below.refl _ _).drew.trans HG2.out.bel)).setCell (p := ⟨ab, 1, none⟩) HA1.out.lo _
        have HFR3 : Hid (Fr w (w2.setCell ⟨ab, 1, none⟩ (.slice o2 n2 k2)) ab av sv (.slice (some ⟨b, 0, none⟩) n ac) (.slice o2 n2 k2)) := (HFR1.out.keep (Below.refl _ _).drew).setS HG2.out
        obtain ⟨w3, hw3⟩ : ∃ w3, w3 = w2.setCell ⟨ab, 1, none⟩ (.slice o2 n2 k2) := ⟨_, rfl⟩
        rw [← hw3] at HA3 HBW3 HFR3 ⊢
        clear HFR1 HFX hw3 HR2 HG2 HS HW S0 S1 fz1 HA1 HBW1 HB1 c0 c1 c2 c3 r0 hl1 hl2 hne HNE
        obtain ⟨c0, c1, c2, c3⟩ := HA3.out.cells
        have fz0 := HA3.out.fz 0
        have hl3 := HA3.out.lt
        have HD : Hid (Calls Try.prog 29 #[.slice (some ⟨b, 0, none⟩) n ac, .int .i64 0, .int .i64 1] w3 fun e w' => ∃ v', e = .returned v' ∧ Row w' B 35 3 v' (a'.map vc) ∧ GI B w3 w' (.slice (some ⟨b, 0, none⟩) n ac) v') := by
          have h0 := HA3.out.ra
          simp only [HY.out.1] at h0
          exact delete_iv w3 B _ _ h0 (by simp) one_vc (by have := H1.out; have := HK.out; have := HY.out.1; simp only [List.length_map]; rw [← this]; omega) (by have := HB.out; have := HBW3.out.size; omega)
        go_wp2_with (go_at_call 29; refine Calls.mono HD.out ?_; rintro e w4 ⟨v4, rfl, R4, G4⟩; obtain ⟨o4, n4, k4, rfl, hn4, _, _⟩ := row_sl R4; have HR4 : Hid (Row w4 B 35 3 (.slice o4 n4 k4) (a'.map vc)) := R4; have HG4 : Hid (GI B w3 w4 (.slice (some ⟨b, 0, none⟩) n ac) (.slice o4 n4 k4)) := G4; have e4 := G4.blk ab hl3 (own_not HA3.out.ra.out HA3.out.box (by decide)); have c4 : w4.cell? ⟨ab, 0, none⟩ = some (.slice (some ⟨b, 0, none⟩) n ac) := (World.cell?_of_block (a := ⟨ab, 0, none⟩) e4).trans c0; have f4 : w4.frozen? ⟨ab, 0, none⟩ = false := (World.frozen?_of_block (a := ⟨ab, 0, none⟩) e4).trans fz0; have hl4 : ab < w4.heap.size := Nat.lt_of_lt_of_le hl3 G4.size; clear R4 G4 e4 hn4)
        have HA5 := show Hid _ from HA3.out.setA HR4.out HG4.out
        have HBW5 : Hid (Below B w (w4.setCell ⟨ab, 0, none⟩ (.slice o4 n4 k4))) := (HBW3.out.trans HG4.out.bel).setCell (p := ⟨ab, 0, none⟩) HA3.out.lo _
        have HFR5 : Hid (Fr w (w4.setCell ⟨ab, 0, none⟩ (.slice o4 n4 k4)) ab av sv (.slice o4 n4 k4) (.slice o2 n2 k2)) := HFR3.out.setA HG4.out
        clear HFR3 HR4 HG4 HA3 HBW3 c0 c1 c2 c3 fz0 hl3 HD c4 f4 hl4
        go_roundg a'.length
        case measure =>
          have := HK.out.1
          have h9 := HY.out.1
          rw [this, h9]
          simp
        case rel =>
          have h9 := HY.out.1
          have h8 := HY.out.2
          obtain ⟨j1, j2, j3, j4⟩ := HK.out
          have hm9 : (List.map lc s'.pl).length = m := by rw [List.length_map]; exact HN.out.2.symm
          rw [hm9]
          refine ⟨.slice o4 n4 k4, .slice o2 n2 k2, ⟨a', wth (fun o => decide (r < o)) r s'.sp, s'.pl, s'.sl⟩, HA5, ⟨HBW5.out, HFR5.out⟩, fun z hz => HI.out z (by rw [h9]; exact List.mem_cons_of_mem _ hz), ?_, rfl, j2, ?_, ?_⟩
          · show SS.free _ F = s.free F
            rw [← HF.out]
            unfold SS.free
            simp only
            rw [h9]
            simp only [fre, if_pos hy, h8]
          · simp only
            rw [h9] at j3
            simp at j3
            omega
          · simp only
            rw [h9] at j4
            simp [wth] at j4 ⊢
            omega
      · have HE : Hid (s.free F = s') := by
          show s.free F = s'
          rw [← HF.out]
          obtain ⟨a9, b9, c9, d9⟩ := s'
          simp only at hact
          subst hact
          unfold SS.free
          simp only [fre, if_neg hy]
        clear hact ey
        generalize s'.act.length = n at *
        go_wp2_with fail
        refine bodyPost_end (v := .tuple #[]) (by simp [results, Try.results24, go_sem]) rfl ?_
        rw [HE.out]
        exact ⟨rfl, _, _, HA.out, HBW.out, HFR.out⟩
end Go.Proofs.Ytpgbkkllnbahpaa
