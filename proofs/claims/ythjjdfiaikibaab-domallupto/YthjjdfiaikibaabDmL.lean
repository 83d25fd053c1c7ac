import Derived.Test.YthjjdfiaikibaabDmK
import Derived.Deep.Cut
set_option linter.unusedVariables false
set_option linter.unusedSimpArgs false
namespace Go.Proofs.Ythjjdfiaikibaab
open Go.ChangeShapes Go.WideShapes Go.ChangeAt Go.RowKit Go.Maps

set_option maxRecDepth 100000 in
set_option maxHeartbeats 1000000 in
theorem least_any (w : World) {fb gd gu gb n door f} (H : FR w fb gd gu gb n door f) (hf : FI n door f) (hn : n ≤ 100000000) (x : Nat) (hx : x < n) :
    Calls Try.prog 30 #[.pointer (some ⟨fb, 0, none⟩), .int .i64 x] w fun e w' => e = .returned (.int .i64 ((lst door f x).1 : Int)) ∧ FR w' fb gd gu gb n door (lst door f x).2 ∧ Only (fun k => k = gu ∨ k = gb) w w' := by
  obtain ⟨c0, c1, c2⟩ := H.boxes
  have k1 := H.ku hf hx
  by_cases h0 : gn f.up x < 0
  · have e : lst door f x = (x, f) := by unfold lst; rw [if_pos h0]
    rw [e]
    have HH : Hid _ := H
    obtain ⟨z, hz⟩ : ∃ z, z = gn f.up x := ⟨_, rfl⟩
    rw [← hz] at k1 h0
    clear H hf hz e
    go_enter Try.func30, Try.ntmps30
    go_wp2_with fail
    go_ret
    exact ⟨rfl, HH.out, Only.refl _ _⟩
  · have e : lst door f x = ((gn (shorten door f x).best x).toNat, shorten door f x) := by unfold lst; rw [if_neg h0]
    rw [e]
    have hs := hf.shorten hx (by omega)
    have hc := shorten_any w H hf hn x hx (by omega)
    obtain ⟨z, hz⟩ : ∃ z, z = gn f.up x := ⟨_, rfl⟩
    rw [← hz] at k1 h0
    have HS : Hid _ := hs.1
    clear H hf hz e hs
    go_enter Try.func30, Try.ntmps30
    go_wp2_with fail
    refine hc.mono ?_
    rintro e w1 ⟨rfl, R1, B1⟩
    clear hc c0 c1 c2 k1
    obtain ⟨c0, c1, c2⟩ := R1.boxes
    have k1 := R1.kb HS.out hx
    obtain ⟨y, hy⟩ : ∃ y : Nat, gn (shorten door f x).best x = (y : Int) := ⟨(gn (shorten door f x).best x).toNat, by have := (HS.out.br x hx).1; omega⟩
    rw [hy] at k1
    have HY : Hid (gn (shorten door f x).best x = (y : Int)) := hy
    have HR : Hid _ := R1
    have HB : Hid _ := B1
    clear R1 B1 hy
    go_wp2_with fail
    go_ret
    exact ⟨by rw [HY.out]; simp [Array.getD], HR.out, HB.out⟩
def lbw (door : List Int) (f : Fo) (low above : Nat) : Nat × Fo := if gn door (lst door f low).1 < gn door low then lst door f low else (above, (lst door f low).2)
theorem FI.lbw {n : Nat} {door : List Int} {f : Fo} (h : FI n door f) {low above : Nat} (hl : low < n) (ha : above < n) : FI n door (lbw door f low above).2 ∧ (Go.Proofs.Ythjjdfiaikibaab.lbw door f low above).1 < n ∧ ∀ i, 0 ≤ gn (Go.Proofs.Ythjjdfiaikibaab.lbw door f low above).2.up i ↔ 0 ≤ gn f.up i := by
  obtain ⟨h1, h2, h3⟩ := h.lst hl
  unfold Go.Proofs.Ythjjdfiaikibaab.lbw
  split
  · exact ⟨h1, h2, h3⟩
  · exact ⟨h1, ha, h3⟩
set_option maxRecDepth 100000 in
set_option maxHeartbeats 1000000 in
theorem leastBelow_any (w : World) {fb gd gu gb n door f} (H : FR w fb gd gu gb n door f) (hf : FI n door f) (hn : n ≤ 100000000) (x a : Nat) (hx : x < n) :
    Calls Try.prog 31 #[.pointer (some ⟨fb, 0, none⟩), .int .i64 x, .int .i64 a] w fun e w' => e = .returned (.int .i64 ((lbw door f x a).1 : Int)) ∧ FR w' fb gd gu gb n door (lbw door f x a).2 ∧ Only (fun k => k = gu ∨ k = gb) w w' := by
  have hc := least_any w H hf hn x hx
  obtain ⟨h1, h2, _⟩ := hf.lst hx
  have hl : lbw door f x a = if gn door (lst door f x).1 < gn door x then lst door f x else (a, (lst door f x).2) := rfl
  rw [hl]
  obtain ⟨r, hr⟩ : ∃ r, r = lst door f x := ⟨_, rfl⟩
  rw [← hr] at hc h1 h2 ⊢
  obtain ⟨d1, hd1⟩ : ∃ d1, gn door r.1 = d1 := ⟨_, rfl⟩
  obtain ⟨d2, hd2⟩ : ∃ d2, gn door x = d2 := ⟨_, rfl⟩
  rw [hd1, hd2]
  obtain ⟨y, F2⟩ := r
  simp only at hc h1 h2 hd1
  have HF : Hid _ := h1
  have H1 : Hid (gn door y = d1) := hd1
  have H2 : Hid (gn door x = d2) := hd2
  clear hr hl h1 hf H hd1 hd2
  go_enter Try.func31, Try.ntmps31
  go_wp2_with fail
  refine hc.mono ?_
  rintro e w1 ⟨rfl, R1, B1⟩
  obtain ⟨c0, c1, c2⟩ := R1.boxes
  have k1 := R1.kd HF.out h2
  rw [H1.out] at k1
  have k2 := R1.kd HF.out hx
  rw [H2.out] at k2
  have HR : Hid _ := R1
  have HB : Hid _ := B1
  clear hc R1 B1
  by_cases hlt : d1 < d2
  · go_wp2_with fail
    go_quiet (fail)
    go_wp2_with fail
    go_ret
    exact ⟨rfl, HR.out.drewN nq, only_drewN HB.out nq⟩
  · go_wp2_with fail
    go_quiet (fail)
    go_wp2_with fail
    go_ret
    exact ⟨rfl, HR.out.drewN nq, only_drewN HB.out nq⟩
/-- A forest in which nothing hangs. -/
def fo0 (n : Nat) : Fo := ⟨List.replicate n (-1), (List.range n).map fun i : Nat => (i : Int)⟩
def door0 (n : Nat) : List Int := (List.range n).map fun i : Nat => (i : Int)
theorem FI.zero (n : Nat) : FI n (door0 n) (fo0 n) := by
  refine ⟨by simp [door0], by simp [fo0], by simp [fo0], fun i hi => ?_, fun i hi => ?_, fun i hi => ?_⟩
  · rw [gn_at (by simpa [door0] using hi)]; simp [door0]; omega
  · rw [gn_at (by simpa [fo0] using hi)]; simp [fo0]; omega
  · rw [gn_at (by simpa [fo0] using hi)]; simp [fo0]; omega
theorem info3d : (Try.prog.info? 3).map (fun i => (i.zero, i.size, i.bytes)) = some (some (.int .i64 0), 1, 8) := by kernel_rfl
theorem made_ivs (n : Nat) : madeCells #[.int .i64 0] n = (ivs (List.replicate n 0)).toArray := by
  apply Array.toList_inj.1
  rw [toList_madeCells_one]
  simp [ivs]
/-- The lists so far: k places are filled. -/
def fl (n k : Nat) (g : Nat → Int) : List Int := (List.range n).map fun i => if i < k then g i else 0
theorem fl_len (n k : Nat) (g : Nat → Int) : (fl n k g).length = n := by simp [fl]
theorem fl_set {n k : Nat} (g : Nat → Int) (hk : k < n) : (fl n k g).set k (g k) = fl n (k + 1) g := by
  refine List.ext_getElem (by simp [fl]) fun i h1 h2 => ?_
  rw [List.getElem_set]
  simp only [fl, List.getElem_map, List.getElem_range]
  by_cases e : k = i
  · subst e; simp
  · rw [if_neg e]
    by_cases h : i < k
    · rw [if_pos h, if_pos (by omega)]
    · rw [if_neg h, if_neg (by omega)]
theorem fl_zero (n : Nat) (g : Nat → Int) : fl n 0 g = List.replicate n 0 := by
  refine List.ext_getElem (by simp [fl]) fun i h1 h2 => ?_
  simp [fl]
theorem fl_full (n : Nat) (g : Nat → Int) : fl n n g = (List.range n).map g := by
  refine List.ext_getElem (by simp [fl]) fun i h1 h2 => ?_
  simp [fl] at h1 ⊢
  omega
theorem nf_start (w : World) (n a b c : Nat) (ha : a = w.heap.size ∨ a = w.heap.size + 1 ∨ a = w.heap.size + 1 + 1) (hb : b = w.heap.size ∨ b = w.heap.size + 1 ∨ b = w.heap.size + 1 + 1) (hc : c = w.heap.size ∨ c = w.heap.size + 1 ∨ c = w.heap.size + 1 + 1) (hne : a ≠ b ∧ a ≠ c ∧ b ≠ c) (W : World)
    (hW : W.heap = ((((w.alloc (.cells (madeCells #[.int .i64 0] n) 3)).alloc (.cells (madeCells #[.int .i64 0] n) 3)).alloc (.cells (madeCells #[.int .i64 0] n) 3)).alloc (.cells #[.slice (some ⟨a, 0, none⟩) n n, .slice (some ⟨b, 0, none⟩) n n, .slice (some ⟨c, 0, none⟩) n n] 63)).heap) :
    FR W (w.heap.size + 1 + 1 + 1) a b c n (fl n 0 fun i => (i : Int)) ⟨fl n 0 fun _ => -1, fl n 0 fun i => (i : Int)⟩ := by
  have key : ∀ x, (x = w.heap.size ∨ x = w.heap.size + 1 ∨ x = w.heap.size + 1 + 1) → ∀ ob, ((((w.alloc (.cells (madeCells #[.int .i64 0] n) 3)).alloc (.cells (madeCells #[.int .i64 0] n) 3)).alloc (.cells (madeCells #[.int .i64 0] n) 3)).alloc ob).heap[x]? = some (.cells (ivs (List.replicate n 0)).toArray 3 (0, 0)) := by
    intro x hx ob
    rw [made_ivs]
    rcases hx with rfl | rfl | rfl
    · rw [heap_alloc_old _ _ (by first | (simp; done) | (simp; omega)), heap_alloc_old _ _ (by first | (simp; done) | (simp; omega)), heap_alloc_old _ _ (by first | (simp; done) | (simp; omega))]; exact heap_alloc_new _ _
    · rw [heap_alloc_old _ _ (by first | (simp; done) | (simp; omega)), heap_alloc_old _ _ (by first | (simp; done) | (simp; omega))]
      simpa using heap_alloc_new (w.alloc (.cells (ivs (List.replicate n 0)).toArray 3)) (.cells (ivs (List.replicate n 0)).toArray 3)
    · rw [heap_alloc_old _ _ (by simp)]
      simpa using heap_alloc_new ((w.alloc (.cells (ivs (List.replicate n 0)).toArray 3)).alloc (.cells (ivs (List.replicate n 0)).toArray 3)) (.cells (ivs (List.replicate n 0)).toArray 3)
  refine ⟨?_, ?_, ?_, ?_, hne⟩
  · rw [hW]
    have := heap_alloc_new (((w.alloc (.cells (madeCells #[.int .i64 0] n) 3)).alloc (.cells (madeCells #[.int .i64 0] n) 3)).alloc (.cells (madeCells #[.int .i64 0] n) 3)) (.cells #[.slice (some ⟨a, 0, none⟩) n n, .slice (some ⟨b, 0, none⟩) n n, .slice (some ⟨c, 0, none⟩) n n] 63)
    simpa using this
  · rw [hW, fl_zero]; exact key a ha _
  · rw [hW, fl_zero]; exact key b hb _
  · show W.heap[c]? = some (.cells (ivs (fl n 0 fun i => (i : Int))).toArray 3 (0, 0))
    rw [hW, fl_zero]; exact key c hc _
set_option maxRecDepth 100000 in
set_option maxHeartbeats 8000000 in
theorem newForest_any (w : World) (n : Nat) (hn : n ≤ 100000000) :
    Calls Try.prog 29 #[.int .i64 n] w fun e w' => ∃ fb gd gu gb, e = .returned (.pointer (some ⟨fb, 0, none⟩)) ∧ FR w' fb gd gu gb n (door0 n) (fo0 n) ∧ (∀ k, FF fb gd gu gb k → w.heap.size ≤ k) ∧ Below w.heap.size w w' := by
  have hmk := run_make_row' (P := Try.prog) 27 3 (.int .i64 0) 8 Try.underlying27 info3d rfl .i64 .i64 n (by omega) (by omega)
  have NF := show Hid _ from nf_start w n
  have HS : Hid (n = n) := rfl
  go_enter Try.func29, Try.ntmps29
  go_wp2_with fail
  go_cut [3] from 5 (fun p wc => ∃ fb gd gu gb : Nat, p = .pointer (some ⟨fb, 0, none⟩) ∧ Hid (FR wc fb gd gu gb n (fl n 0 fun i => (i : Int)) ⟨fl n 0 fun _ => -1, fl n 0 fun i => (i : Int)⟩) ∧ Hid (∀ k, FF fb gd gu gb k → w.heap.size ≤ k) ∧ Hid (Below w.heap.size w wc))
  case first =>
    go_region
    all_goals
      go_wp2_with fail
      go_meet
      case rel =>
        first
          | exact ⟨_, w.heap.size, w.heap.size + 1, w.heap.size + 1 + 1, rfl, NF.out _ _ _ (by omega) (by omega) (by omega) (by omega) _ rfl, (by rintro k (rfl | rfl | rfl | rfl) <;> omega), (((((Below.refl _ _).alloc (Nat.le_refl _) _).alloc (by simp) _).alloc (by simp; omega) _).alloc (by simp; omega) _).drew⟩
          | exact ⟨_, w.heap.size, w.heap.size + 1 + 1, w.heap.size + 1, rfl, NF.out _ _ _ (by omega) (by omega) (by omega) (by omega) _ rfl, (by rintro k (rfl | rfl | rfl | rfl) <;> omega), (((((Below.refl _ _).alloc (Nat.le_refl _) _).alloc (by simp) _).alloc (by simp; omega) _).alloc (by simp; omega) _).drew⟩
          | exact ⟨_, w.heap.size + 1, w.heap.size, w.heap.size + 1 + 1, rfl, NF.out _ _ _ (by omega) (by omega) (by omega) (by omega) _ rfl, (by rintro k (rfl | rfl | rfl | rfl) <;> omega), (((((Below.refl _ _).alloc (Nat.le_refl _) _).alloc (by simp) _).alloc (by simp; omega) _).alloc (by simp; omega) _).drew⟩
          | exact ⟨_, w.heap.size + 1, w.heap.size + 1 + 1, w.heap.size, rfl, NF.out _ _ _ (by omega) (by omega) (by omega) (by omega) _ rfl, (by rintro k (rfl | rfl | rfl | rfl) <;> omega), (((((Below.refl _ _).alloc (Nat.le_refl _) _).alloc (by simp) _).alloc (by simp; omega) _).alloc (by simp; omega) _).drew⟩
          | exact ⟨_, w.heap.size + 1 + 1, w.heap.size, w.heap.size + 1, rfl, NF.out _ _ _ (by omega) (by omega) (by omega) (by omega) _ rfl, (by rintro k (rfl | rfl | rfl | rfl) <;> omega), (((((Below.refl _ _).alloc (Nat.le_refl _) _).alloc (by simp) _).alloc (by simp; omega) _).alloc (by simp; omega) _).drew⟩
          | exact ⟨_, w.heap.size + 1 + 1, w.heap.size + 1, w.heap.size, rfl, NF.out _ _ _ (by omega) (by omega) (by omega) (by omega) _ rfl, (by rintro k (rfl | rfl | rfl | rfl) <;> omega), (((((Below.refl _ _).alloc (Nat.le_refl _) _).alloc (by simp) _).alloc (by simp; omega) _).alloc (by simp; omega) _).drew⟩
  case rest =>
    obtain ⟨fb, gd, gu, gb, rfl, HR, HL, HB⟩ := hcut
    clear NF hmk
    go_wp2_with fail
    go_loopw [14] (fun v wr => ∃ k : Nat, k ≤ n ∧ v = .int .i64 k ∧ Hid (FR wr fb gd gu gb n (fl n k fun i => (i : Int)) ⟨fl n k fun _ => -1, fl n k fun i => (i : Int)⟩) ∧ Hid (Below w.heap.size w wr)) (fun v _ => n - (intOf v).toNat)
    case atStart => exact ⟨0, by omega, rfl, HR.out, HB.out⟩
    case round =>
      clear HR HB
      obtain ⟨k, hk, rfl, HR, HB⟩ := hrel
      by_cases hlt : k < n
      · obtain ⟨c0, c1, c2⟩ := HR.out.boxes
        obtain ⟨z1, k1⟩ : ∃ z, wr.cell? ⟨gd, k, none⟩ = some z := ⟨_, cell_arr HR.out.d (ivs_at (by rw [fl_len]; exact hlt))⟩
        obtain ⟨z2, k2⟩ : ∃ z, wr.cell? ⟨gu, k, none⟩ = some z := ⟨_, cell_arr HR.out.u (ivs_at (by show k < (fl n k _).length; rw [fl_len]; exact hlt))⟩
        obtain ⟨z3, k3⟩ : ∃ z, wr.cell? ⟨gb, k, none⟩ = some z := ⟨_, cell_arr HR.out.b (ivs_at (by show k < (fl n k _).length; rw [fl_len]; exact hlt))⟩
        have f1 : wr.frozen? ⟨gd, k, none⟩ = false := fz_of HR.out.d
        have f2 : wr.frozen? ⟨gu, k, none⟩ = false := fz_of HR.out.u
        have f3 : wr.frozen? ⟨gb, k, none⟩ = false := fz_of HR.out.b
        obtain ⟨n1, n2, n3⟩ := HR.out.ne
        obtain ⟨m1, m2, m3⟩ := HR.out.fne
        have RR : FR (((wr.setCell ⟨gd, k, none⟩ (.int .i64 (k : Int))).setCell ⟨gu, k, none⟩ (.int .i64 (-1))).setCell ⟨gb, k, none⟩ (.int .i64 (k : Int))) fb gd gu gb n (fl n (k + 1) fun i => (i : Int)) ⟨fl n (k + 1) fun _ => -1, fl n (k + 1) fun i => (i : Int)⟩ := by
          have := ((HR.out.setD k (k : Int)).setU k (-1)).setB k (k : Int)
          simp only at this
          rw [fl_set (fun i => (i : Int)) hlt, fl_set (fun _ => -1) hlt] at this
          exact this
        have hl := HL.out
        have BB : Below w.heap.size w (((wr.setCell ⟨gd, k, none⟩ (.int .i64 (k : Int))).setCell ⟨gu, k, none⟩ (.int .i64 (-1))).setCell ⟨gb, k, none⟩ (.int .i64 (k : Int))) := ((HB.out.setCell (hl gd (.inr (.inl rfl))) _).setCell (hl gu (.inr (.inr (.inl rfl)))) _).setCell (hl gb (.inr (.inr (.inr rfl)))) _
        have HRR : Hid _ := RR
        have HBB : Hid _ := BB
        clear RR BB hl
        go_wp2_with fail
        go_region
        go_wp2_with fail
        go_roundw
        case rel => exact ⟨k + 1, by omega, by go_num, HRR.out.drew, HBB.out.drew⟩
        case measure => simp [intOf]; omega
      · have hkn : k = n := by omega
        subst hkn
        go_wp2_with fail
        go_ret
        refine ⟨fb, gd, gu, gb, rfl, ?_, HL.out, HB.out⟩
        have := HR.out
        rw [fl_full, fl_full] at this
        have e : (List.range k).map (fun _ => (-1 : Int)) = List.replicate k (-1) := by
          refine List.ext_getElem (by simp) fun i h1 h2 => ?_
          simp
        rw [e] at this
        exact this
end Go.Proofs.Ythjjdfiaikibaab
