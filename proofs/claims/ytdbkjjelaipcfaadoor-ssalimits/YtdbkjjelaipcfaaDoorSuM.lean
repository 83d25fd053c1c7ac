import Derived.Test.YtdbkjjelaipcfaaDoorSuL
set_option linter.unusedVariables false
set_option linter.unusedSimpArgs false
namespace Go.Proofs.YtdbkjjelaipcfaaDoor
open Go.ChangeShapes Go.WideShapes Go.ChangeAt Go.RowKit Go.Maps

theorem pvs_set2 (L : List (Int × Int)) (i : Nat) (b : Int) (h : i < L.length) : pvs (L.set i (L[i].1, b)) = (pvs L).set (i * 2 + 1) (.int .i64 b) := by
  rw [pvs_set L i _ b h]
  have := (pvs_at L i h).1
  have e : (pvs L).set (i * 2) (.int .i64 L[i].1) = pvs L := by
    apply List.ext_getElem?
    intro j
    rw [List.getElem?_set]
    split
    · next q => subst q; rw [this]; split <;> simp_all
    · rfl
  rw [e]
theorem Pl.put2 {w : World} {g n t L} (h : Pl w g n t L) {i : Nat} (hi : i < n) (b : Int) : Pl (w.setCell ⟨g, i * 2 + 1, none⟩ (.int .i64 b)) g n t (L.set i ((gp L i).1, b)) := by
  have hi' : i < L.length := by have := h.len; omega
  refine ⟨?_, by simpa using h.len⟩
  have h2 := heap_set_at (i := i * 2 + 1) (v := .int .i64 b) h.row
  have e : gp L (i : Int) = L[i] := by simp [gp, hi']
  rw [h2, e, pvs_set2 L i b hi']
  simp
theorem Pl.at2 {w : World} {g n t L} (h : Pl w g n t L) {i : Nat} (hi : i < n) : w.cell? ⟨g, i * 2 + 1, none⟩ = some (.int .i64 (gp L i).2) := by
  have hi' : i < L.length := by have := h.len; omega
  have e : gp L (i : Int) = L[i] := by simp [gp, hi']
  rw [e]
  exact cell_arr h.row (by simpa using (pvs_at L i hi').2)
theorem line_pos {T D rk} (t : TreeOK T D rk) : 0 < (lineP T).length := by
  obtain ⟨i, hi, _⟩ := (lineP_places t).all 0 t.ne
  omega
set_option maxRecDepth 100000 in
set_option maxHeartbeats 4000000 in
theorem regions_any (w : World) (ao : Option Addr) (n c : Nat) (T : List Int) (hn : n = T.length) (hT : Ints w ao c T) {D : Int → Int → Prop} {rk : Int → Nat} (t : TreeOK T D rk) (hsz : n ≤ 1000000) :
    Calls Tryd.prog 47 #[.slice ao n c] w fun e w' => ∃ g, e = .returned (.slice (some ⟨g, 0, none⟩) n n) ∧ Pl w' g n 100 (regP T) ∧ Below w.heap.size w w' := by
  have hmk := run_regions n (by omega)
  obtain ⟨g, hg⟩ : ∃ g, g = w.heap.size := ⟨_, rfl⟩
  obtain ⟨w2, hw2⟩ : ∃ w2, w2 = w.alloc (.cells (pvs (List.replicate n (0, 0))).toArray 100) := ⟨_, rfl⟩
  have b2 : Below w.heap.size w w2 := by rw [hw2]; exact below_new _ _
  have s2 : w2.heap.size = g + 1 := by rw [hw2, hg]; simp
  have p2 : Pl w2 g n 100 (List.replicate n (0, 0)) := by
    refine ⟨?_, by simp⟩
    rw [hw2, hg]
    exact heap_alloc_new _ _
  have HO : Hid _ := outer_any w2 ao n c T hn (hT.below b2 (Nat.le_refl _)) t hsz
  have HT : Hid (Ints w ao c T) := hT
  have HN : Hid (n = T.length) := hn
  have HOK : Hid (TreeOK T D rk) := t
  have HLP : Hid (LP T D (lineP T)) := lineP_places t
  have hlp := line_pos t
  have hln : (lineP T).length ≤ n := by have := (lineP_inv t).few; simp at this; omega
  obtain ⟨line, hline⟩ : ∃ line, line = lineP T := ⟨_, rfl⟩
  have HLI : Hid (line = lineP T) := hline
  rw [← hline] at HO HLP hlp hln
  obtain ⟨ll, hll⟩ : ∃ ll, ll = line.length := ⟨_, rfl⟩
  rw [← hll] at HO hlp hln
  have HLL : Hid (ll = line.length) := hll
  have HG : Hid (g = w.heap.size) := hg
  have HP2 : Hid _ := p2
  have HB2 : Hid _ := b2
  have HS2 : Hid _ := s2
  clear hT hn t p2 b2 s2 hline hll
  go_enter Tryd.func47, Tryd.ntmps47
  go_wp2_with fail
  rw [← hw2]
  clear hw2 hmk
  go_wp2_with (go_at_call 74; refine Calls.mono HO.out ?_; rintro e w3 ⟨v, rfl, hv, hb3⟩; obtain ⟨la, lc, e3, _, _⟩ := own_slice hv.out; subst e3)
  rw [← hg]
  clear hg HO
  obtain ⟨la', lc', e4, hLI⟩ := hv.ints
  cases e4
  have HLN : Hid (∀ wr, Only (fun k => k = g) w3 wr → Ints wr la lc line) := by
    intro wr h
    refine ⟨hLI.le, hLI.mx, fun hne => ?_⟩
    obtain ⟨b, o, e, hA⟩ := hLI.out hne
    obtain ⟨g', c', e5, h1, h2, h3, h4⟩ := own_some hv.out (by omega)
    rw [e] at e5
    simp only [Value.slice.injEq, Option.some.injEq, Addr.mk.injEq] at e5
    have hgb : b ≠ g := by have := HS2.out; omega
    have hblk := h.block b hA.lt hgb
    refine ⟨b, o, e, ⟨by have := h.size; have := hA.lt; omega, fun i hi => ?_⟩⟩
    have e2 := hA.cell i hi
    simp only [World.cell?, hblk] at e2 ⊢
    exact e2
  have HTR : Hid (∀ wr, Only (fun k => k = g) w3 wr → Ints wr ao c T ∧ Below w.heap.size w wr) := by
    intro wr h
    have h1 : Below w.heap.size w w3 := HB2.out.trans (hb3.mono (by have := HS2.out; have := HG.out; omega))
    have h2 : Below w.heap.size w wr := h1.trans (h.below (by have := h1.size; omega) fun k e => by have := HG.out; omega)
    exact ⟨HT.out.below h2 (Nat.le_refl _), h2⟩
  have HP3 : Hid (Pl w3 g n 100 (List.replicate n (0, 0))) := HP2.out.keep hb3
  clear hv hb3 hLI HP2 HB2
  go_loopw [17] (fun v wr => ∃ k : Nat, k ≤ ll ∧ v = .int .i64 k ∧ Hid (Pl wr g n 100 (nmN n line k)) ∧ Hid (Only (fun k => k = g) w3 wr)) (fun v _ => ll - (intOf v).toNat)
  case atStart => exact ⟨0, by omega, rfl, HP3.out, Only.refl _ _⟩
  case round =>
    clear HP3
    obtain ⟨k, hk, rfl, HP, HO⟩ := hrel
    by_cases hlt : k < ll
    · have hk2 : k < line.length := by have := HLL.out; omega
      obtain ⟨b1, o1, e6, kx⟩ := (HLN.out wr HO.out).at hk2
      have hx := HLP.out.rng k hk2
      have hgk := gn_at hk2
      obtain ⟨p, hp⟩ : ∃ p : Nat, gn line k = p := ⟨(gn line k).toNat, by omega⟩
      have hpv : p < n := by have := HN.out; omega
      have HNEXT : Hid (nmN n line (k + 1) = (nmN n line k).set p ((k : Int), (k : Int) + 1)) := by show _ = _; simp only [nmN]; rw [hp, Int.toNat_natCast]
      rw [← hgk, hp] at kx
      obtain ⟨⟨z1, q1⟩, ⟨z2, q2⟩, q3, q4, q5⟩ := HP.out.cell hpv
      have HP2 : Hid _ := HP.out.put hpv (k : Int) ((k : Int) + 1)
      have HO2 : Hid (Only (fun k => k = g) w3 ((wr.setCell ⟨g, p * 2, none⟩ (.int .i64 (k : Int))).setCell ⟨g, p * 2 + 1, none⟩ (.int .i64 ((k : Int) + 1)))) := (HO.out.trans (Only.of_set _ _ _) (fun i _ h => h)).trans (Only.of_set _ _ _) (fun i _ h => h)
      subst e6
      clear hx hgk hp HP HO
      go_wp2_with fail
      go_roundw
      case rel => exact ⟨k + 1, by omega, by go_num, by rw [HNEXT.out]; exact HP2.out, HO2.out⟩
      case measure => simp [intOf]; omega
    · have hkn : k = ll := by omega
      subst hkn
      have HP0 : Hid (Pl wr g n 100 (enN T line 0)) := by have := HP.out; rw [HLL.out, HN.out] at this; rw [HN.out]; exact this
      have HO0 : Hid _ := HO.out
      clear HP HO
      go_wp2_with fail
      go_loopw [33] (fun v wr => ∃ i : Nat, i ≤ k - 1 ∧ v = .int .i64 i ∧ Hid (Pl wr g n 100 (enN T line i)) ∧ Hid (Only (fun k => k = g) w3 wr)) (fun v _ => k - 1 - (intOf v).toNat)
      case atStart => exact ⟨0, by omega, rfl, HP0.out, HO0.out⟩
      case round =>
        clear HP0 HO0
        obtain ⟨i, hi, rfl, HP, HO⟩ := hrel
        by_cases hil : i < k - 1
        · obtain ⟨j, hj⟩ : ∃ j, k = j + 1 + i + 1 := ⟨k - 2 - i, by omega⟩
          have hj2 : j + 1 < line.length := by have := HLL.out; omega
          obtain ⟨b1, o1, e6, kx⟩ := (HLN.out wr HO.out).at hj2
          have hx := HLP.out.rng (j + 1) hj2
          have hgk := gn_at hj2
          obtain ⟨b, hb⟩ : ∃ b : Nat, gn line (j + 1) = b := ⟨(gn line (j + 1)).toNat, by omega⟩
          have hbn : b < n := by have := HN.out; omega
          have hbT : b < T.length := by have := HN.out; omega
          rw [← hgk, hb] at kx
          have hpar := HOK.out.parI (c := (b : Int)) (by omega) (by rw [← hb]; exact HLP.out.nz hj2 (by omega))
          rw [Int.toNat_natCast] at hpar
          obtain ⟨b2, o2, e7, ky⟩ := (HTR.out wr HO.out).1.at hbT
          have hgt := gn_at hbT
          obtain ⟨t, ht⟩ : ∃ t : Nat, gn T b = t := ⟨(gn T b).toNat, by omega⟩
          rw [← hgt, ht] at ky
          have htn : t < n := by have := HN.out; omega
          have HNEXT : Hid (enN T line (i + 1) = (enN T line i).set t ((gp (enN T line i) t).1, max (gp (enN T line i) t).2 (gp (enN T line i) b).2)) := by
            show _ = _
            simp only [enN, enS]
            rw [show line.length - 1 - i = j + 1 by have := HLL.out; omega, hb, Int.toNat_natCast, ht, Int.toNat_natCast]
          have k1 := HP.out.at2 htn
          have k2 := HP.out.at2 hbn
          have fz : wr.frozen? ⟨g, t * 2 + 1, none⟩ = false := fz_of HP.out.row
          have hgl : g < wr.heap.size := (Array.getElem?_eq_some_iff.1 HP.out.row).1
          obtain ⟨e1, he1⟩ : ∃ e1, e1 = (gp (enN T line i) t).2 := ⟨_, rfl⟩
          obtain ⟨e2, he2⟩ : ∃ e2, e2 = (gp (enN T line i) b).2 := ⟨_, rfl⟩
          rw [← he1] at k1
          rw [← he2] at k2
          have HPN : Hid (∀ e, e = max e1 e2 → Pl (wr.setCell ⟨g, t * 2 + 1, none⟩ (.int .i64 e)).drew g n 100 (enN T line (i + 1))) := by
            intro e he
            rw [HNEXT.out, ← he1, ← he2, he]
            exact (HP.out.put2 htn (max e1 e2)).keep (Below.refl _ _).drew
          have HON : Hid (∀ e, Only (fun k => k = g) w3 (wr.setCell ⟨g, t * 2 + 1, none⟩ (.int .i64 e)).drew) := fun e => (HO.out.trans (Only.of_set _ _ _) (fun i _ h => h)).trans (Only.of_below (Below.refl _ _).drew (fun k => k = g)) (fun i _ h => h)
          have S0 : (fun w' : World => w'.cell? ⟨g, t * 2 + 1, none⟩ = some (.int .i64 e1) ∧ w'.cell? ⟨g, b * 2 + 1, none⟩ = some (.int .i64 e2)) wr.drew := ⟨cellD k1, cellD k2⟩
          subst e6
          subst e7
          have hji : (k : Int) - 1 - (i : Int) = ((j + 1 : Nat) : Int) := by omega
          have hjk : j + 1 < k := by omega
          clear hx hgk hb hpar hgt ht he1 he2 HP HO
          clear hj
          go_wp2_with fail
          refine led_start (S := fun w' : World => w'.cell? ⟨g, t * 2 + 1, none⟩ = some (.int .i64 e1) ∧ w'.cell? ⟨g, b * 2 + 1, none⟩ = some (.int .i64 e2)) (z := 13) (by kernel_rfl) ?_
          refine led_take (i := 0) (v := ?v0) rfl (by kernel_rfl) (by kernel_rfl) (by kernel_rfl) (by kernel_rfl) (fun _ _ _ h => h) (.inl ⟨by rfl, ?hy0⟩) S0 ?rest0
          case hy0 =>
            rintro w' ⟨h1, h2⟩
            go_simp
            all_goals with_reducible rfl
          try simp only [Act.put, List.setIfInBounds_toArray, List.set_cons_zero, List.set_cons_succ]
          refine led_take (i := 1) (v := ?v1) rfl (by kernel_rfl) (by kernel_rfl) (by kernel_rfl) (by kernel_rfl) (fun _ _ _ h => h) (.inl ⟨by rfl, ?hy1⟩) S0 ?rest1
          case hy1 =>
            rintro w' ⟨h1, h2⟩
            go_simp
            all_goals with_reducible rfl
          try simp only [Act.put, List.setIfInBounds_toArray, List.set_cons_zero, List.set_cons_succ]
          refine led_take (i := 2) (v := ?v2) rfl (by kernel_rfl) (by kernel_rfl) (by kernel_rfl) (by kernel_rfl) (fun _ _ _ h => h) (.inl ⟨by rfl, ?hy2⟩) S0 ?rest2
          case hy2 =>
            rintro w' ⟨h1, h2⟩
            go_simp
            all_goals with_reducible rfl
          try simp only [Act.put, List.setIfInBounds_toArray, List.set_cons_zero, List.set_cons_succ]
          refine led_take (i := 3) (v := ?v3) rfl (by kernel_rfl) (by kernel_rfl) (by kernel_rfl) (by kernel_rfl) (fun _ _ _ h => h) (.inl ⟨by rfl, ?hy3⟩) S0 ?rest3
          case hy3 =>
            rintro w' ⟨h1, h2⟩
            go_simp
            all_goals with_reducible rfl
          try simp only [Act.put, List.setIfInBounds_toArray, List.set_cons_zero, List.set_cons_succ]
          refine led_take (i := 4) (v := ?v4) rfl (by kernel_rfl) (by kernel_rfl) (by kernel_rfl) (by kernel_rfl) (fun _ _ _ h => h) (.inl ⟨by rfl, ?hy4⟩) S0 ?rest4
          case hy4 =>
            rintro w' ⟨h1, h2⟩
            go_simp
            all_goals with_reducible rfl
          try simp only [Act.put, List.setIfInBounds_toArray, List.set_cons_zero, List.set_cons_succ]
          refine led_take (i := 5) (v := ?v5) rfl (by kernel_rfl) (by kernel_rfl) (by kernel_rfl) (by kernel_rfl) (fun _ _ _ h => h) (.inl ⟨by rfl, ?hy5⟩) S0 ?rest5
          case hy5 =>
            rintro w' ⟨h1, h2⟩
            go_simp
            all_goals with_reducible rfl
          try simp only [Act.put, List.setIfInBounds_toArray, List.set_cons_zero, List.set_cons_succ]
          refine led_take (i := 6) (v := ?v6) rfl (by kernel_rfl) (by kernel_rfl) (by kernel_rfl) (by kernel_rfl) (fun _ _ _ h => h) (.inl ⟨by rfl, ?hy6⟩) S0 ?rest6
          case hy6 =>
            rintro w' ⟨h1, h2⟩
            go_simp
            all_goals with_reducible rfl
          try simp only [Act.put, List.setIfInBounds_toArray, List.set_cons_zero, List.set_cons_succ]
          refine led_take (i := 7) (v := ?v7) rfl (by kernel_rfl) (by kernel_rfl) (by kernel_rfl) (by kernel_rfl) (fun _ _ _ h => h) (.inl ⟨by rfl, ?hy7⟩) S0 ?rest7
          case hy7 =>
            rintro w' ⟨h1, h2⟩
            go_simp
            all_goals with_reducible rfl
          try simp only [Act.put, List.setIfInBounds_toArray, List.set_cons_zero, List.set_cons_succ]
          refine led_take (i := 8) (v := ?v8) rfl (by kernel_rfl) (by kernel_rfl) (by kernel_rfl) (by kernel_rfl) (fun _ _ _ h => h) (.inl ⟨by rfl, ?hy8⟩) S0 ?rest8
          case hy8 =>
            rintro w' ⟨h1, h2⟩
            go_simp
            all_goals with_reducible rfl
          try simp only [Act.put, List.setIfInBounds_toArray, List.set_cons_zero, List.set_cons_succ]
          refine led_take (i := 9) (v := ?v9) rfl (by kernel_rfl) (by kernel_rfl) (by kernel_rfl) (by kernel_rfl) (fun _ _ _ h => h) (.inl ⟨by rfl, ?hy9⟩) S0 ?rest9
          case hy9 =>
            rintro w' ⟨h1, h2⟩
            go_simp
            all_goals with_reducible rfl
          try simp only [Act.put, List.setIfInBounds_toArray, List.set_cons_zero, List.set_cons_succ]
          refine led_take (i := 10) (v := ?v10) rfl (by kernel_rfl) (by kernel_rfl) (by kernel_rfl) (by kernel_rfl) (fun _ _ _ h => h) (.inl ⟨by rfl, ?hy10⟩) S0 ?rest10
          case hy10 =>
            rintro w' ⟨h1, h2⟩
            go_simp
            all_goals with_reducible rfl
          try simp only [Act.put, List.setIfInBounds_toArray, List.set_cons_zero, List.set_cons_succ]
          refine led_one (i := 11) rfl (by kernel_rfl) ?_
          intro K11 hK11
          rw [if_pos (by rfl)]
          go_simp
          refine hK11 _ _ (fun _ => S0) ?_
          clear hK11
          try simp only [Act.put, List.setIfInBounds_toArray, List.set_cons_zero, List.set_cons_succ]
          refine led_one (i := 12) rfl (by kernel_rfl) ?_
          intro K12 hK12
          rw [if_pos (by rfl)]
          go_simp
          refine hK12 _ _ (fun _ => S0) ?_
          clear hK12
          try simp only [Act.put, List.setIfInBounds_toArray, List.set_cons_zero, List.set_cons_succ]
          refine led_one (i := 13) rfl (by kernel_rfl) ?_
          intro K3 hK3
          rw [if_pos (by rfl)]
          go_simp
          refine hK3 _ _ (fun h => absurd rfl h) ?_
          clear hK3 S0
          refine led_done (by kernel_rfl) ?_
          go_wp2_with fail
          all_goals
            go_roundw
            case rel => exact ⟨i + 1, by omega, by go_num, HPN.out _ (by omega), HON.out _⟩
            case measure => simp [intOf]; omega
        · have hin : i = k - 1 := by omega
          subst hin
          have HR : Hid (Pl wr g n 100 (regP T)) := by have := HP.out; unfold regP; rw [← HLI.out, ← HLL.out]; exact this
          have HL : Hid _ := (HTR.out wr HO.out).2
          clear HP HO
          go_wp2_with fail
          go_ret
          exact ⟨_, rfl, HR.out, HL.out⟩
end Go.Proofs.YtdbkjjelaipcfaaDoor
