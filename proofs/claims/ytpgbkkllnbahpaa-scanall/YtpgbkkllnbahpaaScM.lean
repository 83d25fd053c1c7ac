import Derived.Test.YtpgbkkllnbahpaaScL
set_option linter.unusedVariables false
set_option linter.unusedSimpArgs false
namespace Go.Proofs.Ytpgbkkllnbahpaa
open Go.ChangeShapes Go.WideShapes Go.ChangeAt Go.RowKit Go.Maps

theorem lc_set : ∀ (P : List Lc) (q : Nat) (p : Lc), q < P.length → ((P.map lc).flatten.set (q * 2) (.int .i64 p.1)).set (q * 2 + 1) (.int .i64 p.2) = ((P.set q p).map lc).flatten
  | [], q, p, h => by simp at h
  | x :: P, 0, p, _ => by simp [lc]
  | x :: P, q + 1, p, h => by
    have := lc_set P q p (by simpa using h)
    have e : ((x :: P).map lc).flatten = .int .i64 x.1 :: .int .i64 x.2 :: (P.map lc).flatten := rfl
    rw [e, show (q + 1) * 2 = q * 2 + 1 + 1 by omega]
    simp only [List.set_cons_succ, this, List.map_cons, List.flatten_cons]
    rfl
theorem row_lc_set {w : World} {B b n c : Nat} {P : List Lc} (h : Row w B 37 2 (.slice (some ⟨b, 0, none⟩) n c) (P.map lc)) (hn : n = P.length) {q : Nat} (hq : q < P.length) (p : Lc) : Row ((w.setCell ⟨b, q * 2, none⟩ (.int .i64 p.1)).setCell ⟨b, q * 2 + 1, none⟩ (.int .i64 p.2)) B 37 2 (.slice (some ⟨b, 0, none⟩) n c) ((P.set q p).map lc) := by
  have e1 : (P.map lc).length = n := by simp [hn]
  have e2 : ((P.set q p).map lc).length = n := by simp [hn]
  have h0 := h.out
  rw [e1] at h0
  have h1 := own_set (own_set h0 (q * 2) (by omega) (.int .i64 p.1)) (q * 2 + 1) (by omega) (.int .i64 p.2)
  rw [lc_set P q p hq] at h1
  refine ⟨by rw [e2]; exact h1, fun y hy => ?_⟩
  obtain ⟨z, _, rfl⟩ := List.mem_map.1 hy
  rfl
/-- A place written. -/
theorem AL.setP {w B ab av sv pb n c s} (h : AL w B ab av sv (.slice (some ⟨pb, 0, none⟩) n c) s) (hn : n = s.pl.length) {q : Nat} (hq : q < s.pl.length) (p : Lc) : AL ((w.setCell ⟨pb, q * 2, none⟩ (.int .i64 p.1)).setCell ⟨pb, q * 2 + 1, none⟩ (.int .i64 p.2)) B ab av sv (.slice (some ⟨pb, 0, none⟩) n c) ⟨s.act, s.sp, s.pl.set q p, s.sl⟩ := by
  have oth : ∀ k, k ≠ pb → ((w.setCell ⟨pb, q * 2, none⟩ (.int .i64 p.1)).setCell ⟨pb, q * 2 + 1, none⟩ (.int .i64 p.2)).heap[k]? = w.heap[k]? := fun k hk => by rw [Below.heap_setCell _ _ _ _ hk, Below.heap_setCell _ _ _ _ hk]
  have n1 : ab ≠ pb := fun e => own_not h.rp.out h.box (by decide) (by rw [e]; rfl)
  have n2 : ∀ g, av.ownBlock = some g → g ≠ pb := fun g hg e => own_apart h.ra.out h.rp.out (by decide) g hg (by rw [e]; rfl)
  have n3 : ∀ g, sv.ownBlock = some g → g ≠ pb := fun g hg e => own_apart h.rs.out h.rp.out (by decide) g hg (by rw [e]; rfl)
  exact ⟨h.lo, (oth ab n1).trans h.box, h.ra.move fun g hg => oth g (n2 g hg), h.rs.move fun g hg => oth g (n3 g hg), row_lc_set h.rp hn hq p⟩
/-- The active ones cut at their end. -/
theorem AL.cutA {w B ab b n c sv pv s} (h : AL w B ab (.slice (some ⟨b, 0, none⟩) n c) sv pv s) (hn : n = s.act.length) (hp : 0 < n) : AL (w.setCell ⟨ab, 0, none⟩ (.slice (some ⟨b, 0, none⟩) (n - 1) c)) B ab (.slice (some ⟨b, 0, none⟩) (n - 1) c) sv pv ⟨s.act.dropLast, s.sp, s.pl, s.sl⟩ := by
  have R : Row w B 35 3 (.slice (some ⟨b, 0, none⟩) (n - 1) c) (s.act.dropLast.map vc) := by
    have := row_upto h.ra (by simpa using hn) (m := n - 1) (by omega)
    rw [List.dropLast_eq_take, List.map_take, ← hn]
    exact this
  have oth : ∀ k, k ≠ ab → (w.setCell ⟨ab, 0, none⟩ (.slice (some ⟨b, 0, none⟩) (n - 1) c)).heap[k]? = w.heap[k]? := fun k hk => Below.heap_setCell _ _ _ _ hk
  refine ⟨h.lo, ?_, R.move fun g hg => oth g fun e => ?_, h.rs.move fun g hg => oth g fun e => ?_, h.rp.move fun g hg => oth g fun e => ?_⟩
  · rw [heap_set_at h.box]; rfl
  · exact own_not R.out h.box (by decide) (by rw [← e]; exact hg)
  · exact own_not h.rs.out h.box (by decide) (by rw [← e]; exact hg)
  · exact own_not h.rp.out h.box (by decide) (by rw [← e]; exact hg)
/-- One slot more. -/
theorem AL.slot {w B ab av sv pv s} (h : AL w B ab av sv pv s) : AL (w.setCell ⟨ab, 3, none⟩ (.int .i64 ((s.sl : Int) + 1))) B ab av sv pv ⟨s.act, s.sp, s.pl, s.sl + 1⟩ := by
  have oth : ∀ k, k ≠ ab → (w.setCell ⟨ab, 3, none⟩ (.int .i64 ((s.sl : Int) + 1))).heap[k]? = w.heap[k]? := fun k hk => Below.heap_setCell _ _ _ _ hk
  refine ⟨h.lo, ?_, h.ra.move fun g hg => oth g fun e => ?_, h.rs.move fun g hg => oth g fun e => ?_, h.rp.move fun g hg => oth g fun e => ?_⟩
  · rw [heap_set_at h.box]
    simp
  · exact own_not h.ra.out h.box (by decide) (by rw [← e]; exact hg)
  · exact own_not h.rs.out h.box (by decide) (by rw [← e]; exact hg)
  · exact own_not h.rp.out h.box (by decide) (by rw [← e]; exact hg)
/-- What take leaves. -/
structure TkP (w w' : World) (B ab : Nat) (pv : Value) (s : SS) : Prop where
  out : ∃ av' sv', AL w' B ab av' sv' pv s ∧ Below B w w'
set_option maxRecDepth 100000 in
set_option maxHeartbeats 4000000 in
theorem take_any (w : World) (B ab : Nat) (av sv pv : Value) (s : SS) (h : AL w B ab av sv pv s) (x : Iv) (hx : 0 ≤ x.1 ∧ x.1 < (s.pl.length : Int)) (hr : InR s) (hB : B ≤ w.heap.size) (hl1 : s.act.length ≤ 100000000) (hl2 : s.sp.length ≤ 100000000) (hl3 : s.pl.length ≤ 100000000) (hl4 : s.sl ≤ 100000000) :
    Calls Try.prog 25 #[.pointer (some ⟨ab, 0, none⟩), va x] w fun e w' => e = .returned (.tuple #[]) ∧ TkP w w' B ab pv (s.take x) := by
  obtain ⟨pb, pc, e, p1, p2, _, pbw⟩ := own_some h.rp.out (by simp only [List.length_map]; omega)
  have hpl : (s.pl.map lc).length = s.pl.length := by simp
  rw [hpl] at e p1
  subst e
  obtain ⟨m, hm⟩ : ∃ m, m = s.pl.length := ⟨_, rfl⟩
  have HM : Hid (m = s.pl.length) := hm
  rw [← hm] at p1 h hl3 hx ⊢
  clear hpl
  have HL : Hid (AL w B ab av sv (.slice (some ⟨pb, 0, none⟩) m pc) s) := h
  have HR : Hid (InR s) := hr
  have HB : Hid (B ≤ w.heap.size) := hB
  have H1 : Hid (s.act.length ≤ 100000000 ∧ s.sp.length ≤ 100000000 ∧ m ≤ 100000000 ∧ s.sl ≤ 100000000) := ⟨hl1, hl2, hl3, hl4⟩
  obtain ⟨q, hq⟩ : ∃ q : Nat, x.1 = (q : Int) := ⟨x.1.toNat, by omega⟩
  have hql : q < m := by omega
  have HX : Hid (x.1 = (q : Int)) := hq
  clear h hr hB hl1 hl2 hl3 hl4 hx hm
  unfold va
  rw [hq]
  have HE : Hid ((.agg #[.int .i64 (q : Int), .int .i64 x.2.1, .int .i64 x.2.2] : Value) = va x) := by show _ = _; unfold va; rw [hq]
  clear hq
  go_enter Try.func25, Try.ntmps25
  go_wp2_with fail
  obtain ⟨w1, hw1⟩ : ∃ w1, w1 = w.alloc (Obj.cells #[.int .i64 (q : Int), .int .i64 x.2.1, .int .i64 x.2.2] 35) := ⟨_, rfl⟩
  rw [← hw1]
  have hb1 : Below w.heap.size w w1 := by rw [hw1]; exact (Below.refl _ _).alloc (Nat.le_refl _) _
  have HB1 : Hid (BxV w1 w.heap.size x) := by rw [hw1]; exact ⟨by rw [HX.out]; exact heap_alloc_new w _⟩
  have HA1 : Hid (AL w1 B ab av sv (.slice (some ⟨pb, 0, none⟩) m pc) s) := HL.out.keep hb1
  have HBW1 : Hid (Below B w w1) := hb1.mono HB.out
  have HNE : Hid (av.ownBlock ≠ some w.heap.size) := fun e => by have := (own_block HL.out.ra.out e).2; omega
  have hl1 := HB1.out.lt
  have hl2 := HA1.out.lt
  clear hw1 hb1 HL
  obtain ⟨c0, c1, c2, c3⟩ := HA1.out.cells
  obtain ⟨r0, r1, r2⟩ := HB1.out.cells
  rw [HX.out] at r0
  have hne : av.ownBlock ≠ some w.heap.size := HNE.out
  have HBO : Hid (B ≤ w.heap.size) := HB
  clear HB HNE
  generalize w.heap.size = xb at HB1 hl1 r0 r1 r2 hne HBO ⊢
  have HS : Hid (∀ w2 v2, GI B w1.drew w2 av v2 → (w2.cell? ⟨ab, 0, none⟩ = some av ∧ w2.cell? ⟨xb, 0, none⟩ = some (.int .i64 (q : Int)) ∧ w2.cell? ⟨xb, 1, none⟩ = some (.int .i64 x.2.1) ∧ w2.cell? ⟨xb, 2, none⟩ = some (.int .i64 x.2.2) ∧ ab < w2.heap.size ∧ xb < w2.heap.size) ∧ w2.frozen? ⟨ab, 0, none⟩ = false ∧ BxV w2 xb x) := fun w2 v2 G => by
    have e1 := G.blk ab hl2 (own_not HA1.out.ra.out HA1.out.box (by decide))
    have e2 := G.blk xb hl1 hne
    have hs := G.size
    have hbx : BxV w2 xb x := ⟨e2.trans HB1.out.out⟩
    obtain ⟨y0, y1, y2⟩ := hbx.cells
    rw [HX.out] at y0
    refine ⟨⟨?_, y0, y1, y2, Nat.lt_of_lt_of_le hl2 hs, Nat.lt_of_lt_of_le hl1 hs⟩, ?_, hbx⟩
    · rw [World.cell?_of_block (a := ⟨ab, 0, none⟩) e1]; exact c0
    · rw [World.frozen?_of_block (a := ⟨ab, 0, none⟩) e1]; exact HA1.out.fz 0
  have HW : Hid (Calls Try.prog 30 #[av, .agg #[.int .i64 (q : Int), .int .i64 x.2.1, .int .i64 x.2.2], .func (.func 31) #[] #[.pointer (some ⟨xb, 0, none⟩)]] w1.drew fun e w' => ∃ v', e = .returned v' ∧ Row w' B 35 3 v' ((wth (aft x) x s.act).map vc) ∧ GI B w1.drew w' av v') := by
    rw [HE.out]
    exact with_iv w1.drew B av s.act (HA1.out.keep (Below.refl _ _).drew).ra xb x (HB1.out.keep (Below.refl _ _).drew) (by have := H1.out; omega) (by have := HBW1.out.size; show B ≤ w1.heap.size; have := HBO.out; omega)
  clear HE
  have S0 : w1.drew.cell? ⟨ab, 0, none⟩ = some av ∧ w1.drew.cell? ⟨xb, 0, none⟩ = some (.int .i64 (q : Int)) ∧ w1.drew.cell? ⟨xb, 1, none⟩ = some (.int .i64 x.2.1) ∧ w1.drew.cell? ⟨xb, 2, none⟩ = some (.int .i64 x.2.2) ∧ ab < w1.drew.heap.size ∧ xb < w1.drew.heap.size := ⟨c0, r0, r1, r2, hl2, hl1⟩
  refine led_start (S := fun w' : World => w'.cell? ⟨ab, 0, none⟩ = some av ∧ w'.cell? ⟨xb, 0, none⟩ = some (.int .i64 (q : Int)) ∧ w'.cell? ⟨xb, 1, none⟩ = some (.int .i64 x.2.1) ∧ w'.cell? ⟨xb, 2, none⟩ = some (.int .i64 x.2.2) ∧ ab < w'.heap.size ∧ xb < w'.heap.size) (z := 10) (by kernel_rfl) ?_
  refine led_take (i := 0) (v := ?v0) rfl (by kernel_rfl) (by kernel_rfl) (by kernel_rfl) (by kernel_rfl) (fun _ _ _ h => h) (.inl ⟨by rfl, ?hy0⟩) S0 ?rest0
  case hy0 =>
    rintro w' ⟨h1, h2, h3, h4, h5, h6⟩
    go_simp
    all_goals with_reducible rfl
  try simp only [Act.put, List.getElem_toArray, List.getElem_cons_succ, List.getElem_cons_zero, List.setIfInBounds_toArray, List.set_cons_zero, List.set_cons_succ]
  refine led_take (i := 1) (v := ?v1) rfl (by kernel_rfl) (by kernel_rfl) (by kernel_rfl) (by kernel_rfl) (fun _ _ _ h => h) (.inl ⟨by rfl, ?hy1⟩) S0 ?rest1
  case hy1 =>
    rintro w' ⟨h1, h2, h3, h4, h5, h6⟩
    go_simp
    all_goals with_reducible rfl
  try simp only [Act.put, List.getElem_toArray, List.getElem_cons_succ, List.getElem_cons_zero, List.setIfInBounds_toArray, List.set_cons_zero, List.set_cons_succ]
  refine led_take (i := 2) (v := ?v2) rfl (by kernel_rfl) (by kernel_rfl) (by kernel_rfl) (by kernel_rfl) (fun _ _ _ h => h) (.inl ⟨by rfl, ?hy2⟩) S0 ?rest2
  case hy2 =>
    rintro w' ⟨h1, h2, h3, h4, h5, h6⟩
    go_simp
    all_goals with_reducible rfl
  try simp only [Act.put, List.getElem_toArray, List.getElem_cons_succ, List.getElem_cons_zero, List.setIfInBounds_toArray, List.set_cons_zero, List.set_cons_succ]
  refine led_take (i := 3) (v := ?v3) rfl (by kernel_rfl) (by kernel_rfl) (by kernel_rfl) (by kernel_rfl) (fun _ _ _ h => h) (.inl ⟨by rfl, ?hy3⟩) S0 ?rest3
  case hy3 =>
    rintro w' ⟨h1, h2, h3, h4, h5, h6⟩
    go_simp
    all_goals with_reducible rfl
  try simp only [Act.put, List.getElem_toArray, List.getElem_cons_succ, List.getElem_cons_zero, List.setIfInBounds_toArray, List.set_cons_zero, List.set_cons_succ]
  refine led_take (i := 4) (v := ?v4) rfl (by kernel_rfl) (by kernel_rfl) (by kernel_rfl) (by kernel_rfl) (fun _ _ _ h => h) (.inl ⟨by rfl, ?hy4⟩) S0 ?rest4
  case hy4 =>
    rintro w' ⟨h1, h2, h3, h4, h5, h6⟩
    go_simp
    all_goals with_reducible rfl
  try simp only [Act.put, List.getElem_toArray, List.getElem_cons_succ, List.getElem_cons_zero, List.setIfInBounds_toArray, List.set_cons_zero, List.set_cons_succ]
  refine led_take (i := 5) (v := ?v5) rfl (by kernel_rfl) (by kernel_rfl) (by kernel_rfl) (by kernel_rfl) (fun _ _ _ h => h) (.inl ⟨by rfl, ?hy5⟩) S0 ?rest5
  case hy5 =>
    rintro w' ⟨h1, h2, h3, h4, h5, h6⟩
    go_simp
    all_goals with_reducible rfl
  try simp only [Act.put, List.getElem_toArray, List.getElem_cons_succ, List.getElem_cons_zero, List.setIfInBounds_toArray, List.set_cons_zero, List.set_cons_succ]
  refine led_take (i := 6) (v := ?v6) rfl (by kernel_rfl) (by kernel_rfl) (by kernel_rfl) (by kernel_rfl) (fun _ _ _ h => h) (.inl ⟨by rfl, ?hy6⟩) S0 ?rest6
  case hy6 =>
    rintro w' ⟨h1, h2, h3, h4, h5, h6⟩
    go_simp
    all_goals with_reducible rfl
  try simp only [Act.put, List.getElem_toArray, List.getElem_cons_succ, List.getElem_cons_zero, List.setIfInBounds_toArray, List.set_cons_zero, List.set_cons_succ]
  refine led_one (i := 7) rfl (by kernel_rfl) ?_
  intro K7 hK7
  rw [if_pos (by rfl)]
  go_simp
  refine Calls.mono (HW.out) ?_
  rintro e w2 ⟨v2, rfl, R2, G2⟩; obtain ⟨o2, n2, k2, rfl, hn2, hk2, hk3⟩ := row_sl R2; have HN2 : Hid (n2 = (wth (aft x) x s.act).length) := hn2.trans (by simp); have HR2 : Hid (Row w2 B 35 3 (.slice o2 n2 k2) ((wth (aft x) x s.act).map vc)) := R2; have HG2 : Hid (GI B w1.drew w2 av (.slice o2 n2 k2)) := G2; obtain ⟨S1, fz1, bx1⟩ := HS.out w2 _ G2; clear R2 G2 hn2
  go_simp
  refine hK7 _ _ (fun _ => S1) ?_
  clear hK7
  try simp only [Act.put, List.getElem_toArray, List.getElem_cons_succ, List.getElem_cons_zero, List.setIfInBounds_toArray, List.set_cons_zero, List.set_cons_succ]
  refine led_one (i := 8) rfl (by kernel_rfl) ?_
  intro K8 hK8
  rw [if_pos (by rfl)]
  go_simp
  refine hK8 _ _ (fun _ => S1) ?_
  clear hK8
  try simp only [Act.put, List.getElem_toArray, List.getElem_cons_succ, List.getElem_cons_zero, List.setIfInBounds_toArray, List.set_cons_zero, List.set_cons_succ]
  refine led_one (i := 9) rfl (by kernel_rfl) ?_
  intro K9 hK9
  rw [if_pos (by rfl)]
  go_simp
  refine hK9 _ _ (fun _ => S1) ?_
  clear hK9
  try simp only [Act.put, List.getElem_toArray, List.getElem_cons_succ, List.getElem_cons_zero, List.setIfInBounds_toArray, List.set_cons_zero, List.set_cons_succ]
  refine led_one (i := 10) rfl (by kernel_rfl) ?_
  intro K10 hK10
  rw [if_pos (by rfl)]
  go_simp
  refine hK10 _ _ (fun h => absurd rfl h) ?_
  clear hK10
  refine led_done (by kernel_rfl) ?_
  have HA3 := show Hid _ from (HA1.out.keep (Below.refl _ _).drew).setA HR2.out HG2.out
  have HBW3 : Hid (Below B w (w2.setCell ⟨ab, 0, none⟩ (.slice o2 n2 k2))) := (HBW1.out.trans ((Below.refl _ _).drew.trans HG2.out.bel)).setCell (p := ⟨ab, 0, none⟩) HA1.out.lo _
  have HX3 : Hid (BxV (w2.setCell ⟨ab, 0, none⟩ (.slice o2 n2 k2)) xb x) := ⟨by rw [Below.heap_setCell _ _ _ _ (fun e => by have h1 := bx1.out; have h2 := HA3.out.box; simp only at e; subst e; have h3 := HA1.out.box; have h4 := HB1.out.out; rw [h3] at h4; simp at h4)]; exact bx1.out⟩
  obtain ⟨w3, hw3⟩ : ∃ w3, w3 = w2.setCell ⟨ab, 0, none⟩ (.slice o2 n2 k2) := ⟨_, rfl⟩
  rw [← hw3] at HA3 HBW3 HX3 ⊢
  clear hw3 HR2 HG2 HS HW S0 S1 fz1 HA1 HBW1 HB1 c0 c1 c2 c3 r0 r1 r2 hl1 hl2 hne bx1
  obtain ⟨c0, c1, c2, c3⟩ := HA3.out.cells
  have hl2 := HA3.out.lt
  have hl1 := HX3.out.lt
  obtain ⟨r0, r1, r2⟩ := HX3.out.cells
  rw [HX.out] at r0
  have fz := fun j => own_fz (g := pb) (by have := HA3.out.rp.out; simp only [List.length_map, ← HM.out] at this; exact this) j
  obtain ⟨f0, f1⟩ := row_lc HA3.out.rp HM.out (by have := HM.out; simp only; omega : q < _)
  have fz0 := fz (q * 2)
  have fz1 := fz (q * 2 + 1)
  have m1 : (q : Int) < (m : Int) := by omega
  cases hsp : s.sp with
  | cons r sp' =>
    have R3 := HA3.out.rs
    simp only [hsp] at R3
    obtain ⟨sb, sc, e, s1, s2, _, sbw⟩ := own_some R3.out (by simp)
    simp only [List.length_map, List.length_cons] at e s1
    subst e
    have g0 := row_ic R3 (by simp) (k := 0) (by simp)
    simp only [List.getElem_cons_zero] at g0
    obtain ⟨ns, hns⟩ : ∃ ns, ns = sp'.length + 1 := ⟨_, rfl⟩
    have hnp : 0 < ns := by omega
    have HNS : Hid (ns = sp'.length + 1) := hns
    have HSP : Hid (s.sp = r :: sp') := hsp
    rw [← hns] at c1 s1 HA3
    clear hns hsp R3
    go_wp2_with fail
    go_region
    have HA4 := show Hid _ from (HA3.out.setP HM.out (q := q) (by have := HM.out; simp only; omega) (1, r)).keep (Below.refl _ _).drew
    have HBW4 : Hid (Below B w ((w3.setCell ⟨pb, q * 2, none⟩ (.int .i64 1)).setCell ⟨pb, q * 2 + 1, none⟩ (.int .i64 r)).drew) := ((HBW3.out.setCell (p := ⟨pb, q * 2, none⟩) (own_block HA3.out.rp.out (g := pb) rfl).1 _).setCell (p := ⟨pb, q * 2 + 1, none⟩) (own_block HA3.out.rp.out (g := pb) rfl).1 _).drew
    obtain ⟨w4, hw4⟩ : ∃ w4, w4 = ((w3.setCell ⟨pb, q * 2, none⟩ (.int .i64 1)).setCell ⟨pb, q * 2 + 1, none⟩ (.int .i64 r)).drew := ⟨_, rfl⟩
    rw [← hw4] at HBW4 ⊢
    simp only at HA4
    rw [← hw4] at HA4
    clear hw4 HA3 HBW3 c0 c1 c2 c3 f0 f1 fz0 fz1 g0 r0 r1 r2 hl1 hl2 HX3 sbw fz
    obtain ⟨c0, c1, c2, c3⟩ := HA4.out.cells
    have fz1 := HA4.out.fz 1
    have hl2 := HA4.out.lt
    have HD : Hid (Calls Try.prog 32 #[.slice (some ⟨sb, 0, none⟩) ns sc, .int .i64 0, .int .i64 1] w4 fun e w' => ∃ v', e = .returned v' ∧ Row w' B 3 1 v' (sp'.map ic) ∧ GI B w4 w' (.slice (some ⟨sb, 0, none⟩) ns sc) v') := by
      have h0 := HA4.out.rs
      simp only [HSP.out] at h0
      exact delete_int w4 B _ _ h0 (by simp) one_ic (by have := H1.out; rw [HSP.out] at this; simp only [List.length_map]; omega) (by have := HBO.out; have := HA4.out.lo; omega)
    go_wp2_with (go_at_call 32; refine Calls.mono HD.out ?_; rintro e w5 ⟨v5, rfl, R5, G5⟩; obtain ⟨o5, n5, k5, rfl, hn5, _, _⟩ := row_sl R5; have HR5 : Hid (Row w5 B 3 1 (.slice o5 n5 k5) (sp'.map ic)) := R5; have HG5 : Hid (GI B w4 w5 (.slice (some ⟨sb, 0, none⟩) ns sc) (.slice o5 n5 k5)) := G5; have e5 := G5.blk ab hl2 (own_not HA4.out.rs.out HA4.out.box (by decide)); have c5 : w5.cell? ⟨ab, 1, none⟩ = some (.slice (some ⟨sb, 0, none⟩) ns sc) := (World.cell?_of_block (a := ⟨ab, 1, none⟩) e5).trans c1; have f5 : w5.frozen? ⟨ab, 1, none⟩ = false := (World.frozen?_of_block (a := ⟨ab, 1, none⟩) e5).trans fz1; have hl5 : ab < w5.heap.size := Nat.lt_of_lt_of_le hl2 G5.size; clear R5 G5 e5 hn5)
    refine bodyPost_ret (v := .tuple #[]) (by simp [results, Try.results25, go_sem]) rfl ?_
    have HA6 := HA4.out.setS HR5.out HG5.out
    have e6 : s.take x = ⟨wth (aft x) x s.act, sp', s.pl.set q (1, r), s.sl⟩ := by
      unfold SS.take
      rw [HSP.out]
      simp only [HX.out, Int.toNat_natCast]
    rw [e6]
    exact ⟨rfl, ⟨_, _, HA6, (HBW4.out.trans HG5.out.bel).setCell (p := ⟨ab, 1, none⟩) HA4.out.lo _⟩⟩
  | nil =>
    have HSP : Hid (s.sp = []) := hsp
    have R3 := HA3.out.rs
    simp only [hsp] at R3
    obtain ⟨so, ns, sc, e, hns, _, _⟩ := row_sl R3
    simp at hns
    subst hns
    subst e
    obtain ⟨b, c', e, _, _, hBb, hbw⟩ := own_some HA3.out.ra.out (by simp only [List.length_map, wth, List.length_append, List.length_cons]; omega)
    simp only [Value.slice.injEq] at e
    obtain ⟨rfl, e1, e2⟩ := e
    clear e1 e2 R3 hsp
    obtain ⟨k, hk⟩ : ∃ k, n2 = k + 1 := ⟨n2 - 1, by have := HN2.out; simp only [wth, List.length_append, List.length_cons] at this; omega⟩
    subst hk
    have hkl : k < (wth (aft x) x s.act).length := by have := HN2.out; omega
    obtain ⟨d0, d1, d2⟩ := row_vc HA3.out.ra HN2.out hkl
    obtain ⟨y, hy⟩ : ∃ y, y = (wth (aft x) x s.act)[k] := ⟨_, rfl⟩
    have HY : Hid (y = lastOf (wth (aft x) x s.act)) := by
      show y = _
      rw [hy]
      unfold lastOf
      have := HN2.out
      rw [List.getLastD_eq_getLast?, List.getLast?_eq_getElem?, show (wth (aft x) x s.act).length - 1 = k by omega, List.getElem?_eq_getElem hkl]
      rfl
    simp only at d0 d1 d2
    rw [← hy] at d0 d1 d2
    have hyr : 0 ≤ y.1 ∧ y.1 < (m : Int) := by
      have hmem : y ∈ wth (aft x) x s.act := by rw [hy]; exact List.getElem_mem hkl
      have := HM.out
      simp only [wth, List.mem_append, List.mem_cons] at hmem
      rcases hmem with q1 | q1 | q1
      · have := HR.out y (List.mem_of_mem_take q1); omega
      · rw [q1, HX.out]; omega
      · have := HR.out y (List.mem_of_mem_drop q1); omega
    obtain ⟨p, hp⟩ : ∃ p : Nat, y.1 = (p : Int) := ⟨y.1.toNat, by omega⟩
    have HP : Hid (y.1 = (p : Int)) := hp
    have hpm : p < m := by omega
    have hpi : (p : Int) < (m : Int) := by omega
    rw [hp] at d0
    clear hy hp hyr hkl
    have fz3 := HA3.out.fz 0
    go_wp2_with fail
    have hxa : xb ≠ ab := fun e => by
      have h3 := HA3.out.box
      have h4 := HX3.out.out
      rw [e, h3] at h4
      simp at h4
    have HA5 := show Hid _ from (HA3.out.cutA HN2.out (by omega)).keep ((Below.refl _ _).alloc (Nat.le_refl _) (Obj.cells #[.int .i64 (p : Int), .int .i64 y.2.1, .int .i64 y.2.2] 35))
    have HX5 := show Hid _ from (BxV.mk ((Below.heap_setCell w3 ⟨ab, 0, none⟩ (.slice (some ⟨b, 0, none⟩) k k2) xb hxa).trans HX3.out.out)).keep ((Below.refl _ _).alloc (Nat.le_refl _) (Obj.cells #[.int .i64 (p : Int), .int .i64 y.2.1, .int .i64 y.2.2] 35))
    have HY5 : Hid (BxV ((w3.setCell ⟨ab, 0, none⟩ (.slice (some ⟨b, 0, none⟩) k k2)).alloc (Obj.cells #[.int .i64 (p : Int), .int .i64 y.2.1, .int .i64 y.2.2] 35)) w3.heap.size y) := ⟨by
      have hs : (w3.setCell ⟨ab, 0, none⟩ (.slice (some ⟨b, 0, none⟩) k k2)).heap.size = w3.heap.size := by simp [World.setCell]
      rw [← hs, HP.out]
      exact heap_alloc_new _ _⟩
    have HBW5 : Hid (Below B w ((w3.setCell ⟨ab, 0, none⟩ (.slice (some ⟨b, 0, none⟩) k k2)).alloc (Obj.cells #[.int .i64 (p : Int), .int .i64 y.2.1, .int .i64 y.2.2] 35))) := (HBW3.out.setCell (p := ⟨ab, 0, none⟩) HA3.out.lo _).alloc (by have := HA3.out.lo; simp [World.setCell]; omega) _
    simp only [Nat.add_sub_cancel] at HA5
    obtain ⟨w5, hw5⟩ : ∃ w5, w5 = (w3.setCell ⟨ab, 0, none⟩ (.slice (some ⟨b, 0, none⟩) k k2)).alloc (Obj.cells #[.int .i64 (p : Int), .int .i64 y.2.1, .int .i64 y.2.2] 35) := ⟨_, rfl⟩
    rw [← hw5] at HA5 HX5 HY5 HBW5 ⊢
    obtain ⟨yb, hyb⟩ : ∃ yb, yb = w3.heap.size := ⟨_, rfl⟩
    rw [← hyb] at HY5 ⊢
    clear hw5 hyb HA3 HBW3 c0 c1 c2 c3 f0 f1 fz0 fz1 fz3 r0 r1 r2 hl1 hl2 HX3 fz d0 d1 d2 hbw
    obtain ⟨c0, c1, c2, c3⟩ := HA5.out.cells
    obtain ⟨r0, r1, r2⟩ := HX5.out.cells
    rw [HX.out] at r0
    obtain ⟨d0, d1, d2⟩ := HY5.out.cells
    rw [HP.out] at d0
    have hl2 := HA5.out.lt
    have hl1 := HX5.out.lt
    have hl3 := HY5.out.lt
    have fz := fun j => own_fz (g := pb) (by have := HA5.out.rp.out; simp only [List.length_map, ← HM.out] at this; exact this) j
    obtain ⟨f0, f1⟩ := row_lc HA5.out.rp HM.out (by have := HM.out; simp only; omega : q < _)
    obtain ⟨f2, f3⟩ := row_lc HA5.out.rp HM.out (by have := HM.out; simp only; omega : p < _)
    have hpl : p < s.pl.length := by have := HM.out; omega
    have er : s.pl[p] = plc s.pl y.1 := by simp [plc, HP.out, List.getD, hpl]
    simp only at f2 f3
    rw [er] at f2 f3
    have fz0 := fz (q * 2)
    have fz1 := fz (q * 2 + 1)
    obtain ⟨z, hz⟩ : ∃ z, z = plc s.pl y.1 := ⟨_, rfl⟩
    have HZ : Hid (z = plc s.pl y.1) := hz
    rw [← hz] at f2 f3
    clear fz er hpl hz
    go_region
    have hpb : B ≤ pb := (own_block HA5.out.rp.out (g := pb) rfl).1
    have hyp : yb ≠ pb := fun e => own_not HA5.out.rp.out (by rw [← e]; exact HY5.out.out) (by decide) rfl
    have HA6 := show Hid _ from (HA5.out.setP HM.out (q := q) (by have := HM.out; simp only; omega) z).keep (Below.refl _ _).drew
    have HY6 := show Hid _ from (BxV.mk ((Below.heap_setCell (w5.setCell ⟨pb, q * 2, none⟩ (.int .i64 z.1)) ⟨pb, q * 2 + 1, none⟩ (.int .i64 z.2) yb hyp).trans ((Below.heap_setCell w5 ⟨pb, q * 2, none⟩ (.int .i64 z.1) yb hyp).trans HY5.out.out))).keep (Below.refl _ _).drew
    have HBW6 : Hid (Below B w ((w5.setCell ⟨pb, q * 2, none⟩ (.int .i64 z.1)).setCell ⟨pb, q * 2 + 1, none⟩ (.int .i64 z.2)).drew) := ((HBW5.out.setCell (p := ⟨pb, q * 2, none⟩) hpb _).setCell (p := ⟨pb, q * 2 + 1, none⟩) hpb _).drew
    obtain ⟨w6, hw6⟩ : ∃ w6, w6 = ((w5.setCell ⟨pb, q * 2, none⟩ (.int .i64 z.1)).setCell ⟨pb, q * 2 + 1, none⟩ (.int .i64 z.2)).drew := ⟨_, rfl⟩
    rw [← hw6] at HA6 HY6 HBW6 ⊢
    clear hw6 HA5 HBW5 HY5 HX5 c0 c1 c2 c3 f0 f1 f2 f3 fz0 fz1 r0 r1 r2 d0 d1 d2 hl1 hl2 hl3
    obtain ⟨c0, c1, c2, c3⟩ := HA6.out.cells
    obtain ⟨d0, d1, d2⟩ := HY6.out.cells
    rw [HP.out] at d0
    have hl2 := HA6.out.lt
    have hl3 := HY6.out.lt
    have hlp : (s.pl.set q z).length = m := by simp [HM.out]
    have fz := fun j => own_fz (g := pb) (by have := HA6.out.rp.out; simp only [List.length_map, hlp] at this; exact this) j
    obtain ⟨z1, z2, f0, f1⟩ : ∃ z1 z2 : Int, w6.cell? ⟨pb, p * 2, none⟩ = some (.int .i64 z1) ∧ w6.cell? ⟨pb, p * 2 + 1, none⟩ = some (.int .i64 z2) := ⟨_, _, row_lc HA6.out.rp hlp.symm (by simp only; omega : p < _)⟩
    have fz0 := fz (p * 2)
    have fz1 := fz (p * 2 + 1)
    have HLP : Hid ((s.pl.set q z).length = m) := hlp
    clear fz hlp
    go_wp2_with fail
    go_region
    have HA7 := show Hid _ from (HA6.out.setP HLP.out.symm (q := p) (by have := HLP.out; simp only; omega) (2, (s.sl : Int))).keep (Below.refl _ _).drew
    have HBW7 : Hid (Below B w ((w6.setCell ⟨pb, p * 2, none⟩ (.int .i64 2)).setCell ⟨pb, p * 2 + 1, none⟩ (.int .i64 (s.sl : Int))).drew) := ((HBW6.out.setCell (p := ⟨pb, p * 2, none⟩) hpb _).setCell (p := ⟨pb, p * 2 + 1, none⟩) hpb _).drew
    obtain ⟨w7, hw7⟩ : ∃ w7, w7 = ((w6.setCell ⟨pb, p * 2, none⟩ (.int .i64 2)).setCell ⟨pb, p * 2 + 1, none⟩ (.int .i64 (s.sl : Int))).drew := ⟨_, rfl⟩
    simp only at HA7
    rw [← hw7] at HA7 HBW7 ⊢
    clear hw7 HA6 HBW6 HY6 c0 c1 c2 c3 f0 f1 fz0 fz1 d0 d1 d2 hl2 hl3
    obtain ⟨c0, c1, c2, c3⟩ := HA7.out.cells
    have hl2 := HA7.out.lt
    have fz3 := HA7.out.fz 3
    have hslm : s.sl ≤ 100000000 := H1.out.2.2.2
    go_wp2_with fail
    refine bodyPost_end (v := .tuple #[]) (by simp [results, Try.results25, go_sem]) rfl ?_
    have HA8 := HA7.out.slot
    have e6 : s.take x = ⟨(wth (aft x) x s.act).dropLast, [], (s.pl.set q z).set p (2, (s.sl : Int)), s.sl + 1⟩ := by
      unfold SS.take
      rw [HSP.out]
      simp only [HX.out, Int.toNat_natCast, ← HY.out, HP.out, HZ.out]
    rw [e6]
    simp only [HSP.out] at HA8
    exact ⟨rfl, ⟨_, _, HA8, HBW7.out.setCell (p := ⟨ab, 3, none⟩) HA7.out.lo _⟩⟩
end Go.Proofs.Ytpgbkkllnbahpaa
