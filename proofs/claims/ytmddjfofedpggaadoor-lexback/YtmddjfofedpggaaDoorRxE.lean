import Derived.Test.YtmddjfofedpggaaDoorRxD
set_option linter.unusedVariables false
namespace Go.Proofs.YtmddjfofedpggaaDoor
open Go.ChangeShapes Go.WideShapes Go.ChangeAt Go.RowKit

/-- The cut that is held against sign i. -/
structure CU (M : List UInt8) (i m : Nat) (s u : ByteArray) (P : Bool) : Prop where
  sb : SB M i m s P
  cut : u = bs (M.take m)
theorem CU.eq {M i m s u P} (h : CU M i m s u P) (hm : m ≤ M.length) : (u.toList == s.toList) = P := by
  rw [h.cut, h.sb.1, bs_toList, bs_toList, ← h.sb.2.2, h.sb.2.1]
  exact prefix_take _ _ (by rw [← h.sb.2.1]; exact hm)
theorem SB.short {M i m s P} (h : SB M i m s P) (hm : M.length < m) : P = false := by
  rw [← h.2.2, ← Bool.not_eq_true, List.isPrefixOf_iff_prefix]
  intro hp; have := hp.length_le; rw [← h.2.1] at this; omega

set_option maxRecDepth 20000 in
set_option maxHeartbeats 2000000 in
theorem refSign_any (w : World) (bb o cap n : Nat) (L : List UInt8) (hA : At w bb o L) (hn : n = L.length) (hc1 : n ≤ cap) (hc2 : cap ≤ 9223372036854775807) (hn4 : n ≤ 4194304) (k : Nat) (hk : k < n) (r : Except Nat (Tk × Nat)) (HM : SR (L.drop k) r) (x : UInt8) (HD : L.drop k = x :: L.drop (k + 1)) (h7 : cl x ≠ 7) (h6 : cl x ≠ 6) :
    Calls Tryd.prog 28 #[.slice (some ⟨bb, o, none⟩) n cap, .int .i64 k] w fun e w' => TokRes r k e ∧ Below w.heap.size w w' := by
  have HN : Hid (n = L.length) := hn
  clear hn
  have hb := hA.1
  have hcell : w.cell? ⟨bb, o + k, none⟩ = some (.int .u8 x.toNat) := by
    have := hA.2 k (HN.out ▸ hk)
    rw [List.drop_eq_getElem_cons (HN.out ▸ hk)] at HD
    rw [this, (List.cons.inj HD).1]
  clear HD
  have hd6 : decide (cl x = 6) = false := by simp [h6]
  have hd7 : decide (cl x = 7) = false := by simp [h7]
  go_enter Tryd.func28, Tryd.ntmps28
  go_wp2_with (first
    | (go_at_call 35; refine (letter_any _ _).mono ?_; rintro e w' ⟨rfl, rfl⟩)
    | (go_at_call 38; refine (digit_any _ _).mono ?_; rintro e w' ⟨rfl, rfl⟩)
    | (go_at_call 40; refine (signs_any _).mono ?_; rintro e u ⟨rfl, hb2⟩; have hg := (hb2.block w.heap.size (by simp)).trans (heap_alloc_last _ _))
    | (refine wpList_store_row rfl 64 _ _ rfl _ _ rfl rfl 64 _ (heap_alloc_last _ _) (by kernel_rfl) rfl (by kernel_rfl) ?_; rw [World.setRow_alloc_new]))
  have hsz : w.heap.size < u.heap.size := by have := hb2.size; simp at this; omega
  have hgW : (u.alloc (.cells sArr 64)).heap[u.heap.size]? = some (.cells sArr 64 (0, 0)) := heap_alloc_last _ _
  have hg4 := (Below.heap_alloc u (.cells sArr 64) w.heap.size hsz).trans hg
  have hB : Below w.heap.size w (u.alloc (.cells sArr 64)) := (((Below.refl _ _).alloc (Nat.le_refl _) _).trans (hb2.mono (by simp))).alloc (by omega) _
  obtain ⟨wl, hwl⟩ : ∃ wl, wl = u.alloc (.cells sArr 64) := ⟨_, rfl⟩
  rw [← hwl] at hgW hg4 hB ⊢
  obtain ⟨g, hgu⟩ : ∃ g, g = u.heap.size := ⟨_, rfl⟩
  rw [← hgu] at hgW ⊢
  clear hwl hb2 hg hcell hgu hsz
  go_loopw [15, 16, 18] (fun v z c wr => ∃ i K M : Nat, i ≤ 29 ∧ c = .int .i64 i ∧ z = .int .i64 K ∧ v = .int .i64 M ∧ SA (L.drop k) i K M ∧ Below w.heap.size w wr ∧ wr.heap[w.heap.size]? = some (.cells z4 33 (0, 0)) ∧ wr.heap[g]? = some (.cells sArr 64 (0, 0))) (fun _ _ c _ => 29 - (intOf c).toNat)
  case atStart => exact ⟨0, 0, 0, by omega, rfl, rfl, rfl, ⟨rfl⟩, hB, hg4, hgW⟩
  case round =>
    obtain ⟨i, K, M, hi, rfl, rfl, rfl, HB, hbl, hg, hgs⟩ := hrel
    obtain ⟨hs1, hs2, hs3⟩ := HB.small hi
    have HG : Hid (wr.heap[w.heap.size]? = some (.cells z4 33 (0, 0))) := hg
    clear hg
    have HGS : Hid (wr.heap[g]? = some (.cells sArr 64 (0, 0))) := hgs
    clear hgs hgW hg4 hB
    by_cases hlt : i < 29
    · have hcell := cell_arr HGS.out (sArr_at i hlt)
      have HA2 : At wr bb o L := hA.below hbl hA.1
      obtain ⟨s, m, P, hm3, hm4, hsz, HS⟩ : ∃ s m P, m ≤ 2 ∧ 0 < m ∧ s.size = m ∧ SB (L.drop k) i m s P := ⟨_, _, _, (signs_len i hlt).1, (signs_len i hlt).2, bs_size _, rfl, rfl, rfl⟩
      rw [← HS.1] at hcell
      have hMl : M ≤ n - k := by simp at hs3; have := HN.out; omega
      clear hs3
      by_cases hgt : M < m
      · have hgI : (M : Int) < (m : Int) := by omega
        by_cases hfit : k + m ≤ n
        · have hfI : (k : Int) + (m : Int) ≤ (n : Int) := by omega
          obtain ⟨u1, hu1⟩ : ∃ u1, u1 = bs ((L.drop k).take m) := ⟨_, rfl⟩
          have hcv : ∀ q, (convert 22 9 (.slice (some ⟨bb, o + k, none⟩) m (cap - k))).run Tryd.prog (wr.drewN q) = .ok (.string u1) (wr.drewN q) := fun q => by
            rw [hu1]; exact ((HA2.drop k).drewN q).conv' m (cap - k) (by have := HN.out; simp; omega)
          have hcv0 := hcv 0
          have HCU : CU (L.drop k) i m s u1 P := ⟨HS, hu1⟩
          have hP := HCU.eq (by have := HN.out; simp; omega)
          clear hu1
          cases P
          · go_wp2_with fail
            go_quiet (fail)
            go_wp2_with fail
            go_roundw
            case rel => exact ⟨i + 1, K, M, by omega, by go_num, rfl, rfl, HB.miss HS (.inl rfl), below_drewN hbl _, by simpa using HG.out, by simpa using HGS.out⟩
            case measure => simp [intOf]; omega
          · go_wp2_with fail
            go_quiet (fail)
            go_wp2_with fail
            go_roundw
            case rel => exact ⟨i + 1, 40 + i, m, by omega, by go_num, by go_num, rfl, HB.hit HS hgt, below_drewN hbl _, by simpa using HG.out, by simpa using HGS.out⟩
            case measure => simp [intOf]; omega
        · have hPf := HS.short (by have := HN.out; simp; omega)
          subst hPf
          have hfI : decide ((k : Int) + (m : Int) ≤ (n : Int)) = false := by simp; omega
          go_wp2_with fail
          go_quiet (fail)
          go_wp2_with fail
          go_roundw
          case rel => exact ⟨i + 1, K, M, by omega, by go_num, rfl, rfl, HB.miss HS (.inl rfl), below_drewN hbl _, by simpa using HG.out, by simpa using HGS.out⟩
          case measure => simp [intOf]; omega
      · have hd : decide ((M : Int) < (m : Int)) = false := by simp; omega
        have hgI : ¬ (M : Int) < (m : Int) := by omega
        go_wp2_with fail
        go_quiet (fail)
        go_wp2_with fail
        go_roundw
        case rel => exact ⟨i + 1, K, M, by omega, by go_num, rfl, rfl, HB.miss HS (.inr hgt), below_drewN hbl _, by simpa using HG.out, by simpa using HGS.out⟩
        case measure => simp [intOf]; omega
    · have h29 : i = 29 := by omega
      subst h29
      have hg := HG.out
      have hMl : M ≤ n - k := by simp at hs3; have := HN.out; omega
      clear hs3
      by_cases hM : M = 0
      · subst hM
        go_wp2_with (first | (refine wpList_store_tok rfl _ _ rfl w.heap.size 0 0 0 ⟨#[]⟩ rfl rfl _ hg rfl ?_) | fail)
        refine bodyPost_ret (v := .tuple #[tz, .int .i64 k, .int .i64 20]) ?_ rfl ?_
        · exact results_tok Tryd.results28 _ _ w.heap.size 33 _ (0, 0) _ _ rfl rfl rfl (setRow_heap _ _ _ _ _ _ hg) rfl
        refine ⟨?_, below_setRow hbl (Nat.le_refl _) _⟩
        rw [HB.none HM]
        exact ⟨k, rfl⟩
      · go_wp2_with (first | (refine wpList_store_tok rfl _ _ rfl w.heap.size K k 0 ⟨#[]⟩ rfl rfl _ hg rfl ?_) | fail)
        refine bodyPost_ret (v := .tuple #[.agg #[.int .i64 K, .int .i64 k, .int .i64 0, .string ⟨#[]⟩], .int .i64 (k + M), .int .i64 0]) ?_ rfl ?_
        · exact results_tok Tryd.results28 _ _ w.heap.size 33 _ (0, 0) _ _ rfl rfl rfl (setRow_heap _ _ _ _ _ _ hg) rfl
        refine ⟨?_, below_setRow hbl (Nat.le_refl _) _⟩
        rw [HB.some HM hM]
        exact ret_three rfl (by omega) rfl

theorem refToken_any (w : World) (bb o cap n : Nat) (L : List UInt8) (hA : At w bb o L) (hn : n = L.length) (hc1 : n ≤ cap) (hc2 : cap ≤ 9223372036854775807) (hn4 : n ≤ 4194304) (k : Nat) (hk : k < n) (r : Except Nat (Tk × Nat)) (hr : TR (L.drop k) r) :
    Calls Tryd.prog 28 #[.slice (some ⟨bb, o, none⟩) n cap, .int .i64 k] w fun e w' => TokRes r k e ∧ Below w.heap.size w w' := by
  have HD : L.drop k = L[k]'(hn ▸ hk) :: L.drop (k + 1) := List.drop_eq_getElem_cons _
  have hr' := hr
  rw [HD] at hr'
  by_cases h7 : cl (L[k]'(hn ▸ hk)) = 7
  · exact refNum_any w bb o cap n L hA hn hc1 hc2 k hk r _ ⟨rfl, by rw [HD]; exact tr_num h7 hr'⟩ _ HD h7
  · by_cases h6 : cl (L[k]'(hn ▸ hk)) = 6
    · exact refName_any w bb o cap n L hA hn hc1 hc2 k hk r _ ⟨rfl, by rw [HD]; exact tr_name h6 hr'⟩ _ HD h6
    · exact refSign_any w bb o cap n L hA hn hc1 hc2 hn4 k hk r ⟨by rw [HD]; exact tr_sign h7 h6 hr'⟩ _ HD h7 h6
end Go.Proofs.YtmddjfofedpggaaDoor
