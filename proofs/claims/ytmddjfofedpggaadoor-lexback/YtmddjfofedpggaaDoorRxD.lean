import Derived.Test.YtmddjfofedpggaaDoorRxC
set_option linter.unusedVariables false
namespace Go.Proofs.YtmddjfofedpggaaDoor
open Go.ChangeShapes Go.WideShapes Go.ChangeAt Go.RowKit

theorem rowP_true : rowP true = isNm := by funext c; simp [rowP, isNm]
theorem rowP_false : rowP false = isDg := by funext c; simp [rowP, isDg]

theorem wArr_at (i : Nat) (hi : i < 18) : wArr[i]? = some (.string (bs (WORDS.getD i []))) := by
  have hl : i < WORDS.length := hi
  simp [wArr, List.getD, List.getElem?_eq_getElem hl]
theorem sArr_at (i : Nat) (hi : i < 29) : sArr[i]? = some (.string (bs (SIGNS.getD i []))) := by
  have hl : i < SIGNS.length := hi
  simp [sArr, List.getD, List.getElem?_eq_getElem hl]

theorem cell_arr {w : World} {g i : Nat} {A : Array Value} {t : TypeId} {v : Value} (h : w.heap[g]? = some (.cells A t (0, 0))) (hv : A[i]? = some v) : w.cell? ⟨g, i, none⟩ = some v := by
  simp [World.cell?, h, hv]

structure NM (L : List UInt8) (k N : Nat) (r : Except Nat (Tk × Nat)) : Prop where
  len : ((L.drop k).takeWhile isNm).length = N
  res : nameR (L.drop k) = r
theorem NM.bad {L k N r} (h : NM L k N r) (h64 : 64 < N) : r = .error 21 := by
  rw [← h.res]; unfold nameR; rw [if_pos (by rw [h.len]; exact h64)]
theorem NM.good {L k N r t} (h : NM L k N r) (h64 : ¬ 64 < N) (ht : nameTk ((L.drop k).take N) = t) : r = .ok (t, N) := by
  rw [← h.res]; unfold nameR; rw [if_neg (by rw [h.len]; exact h64), h.len, take_while_len, h.len, ht]

structure WN (S : List UInt8) (j : Nat) (s : ByteArray) : Prop where
  eq : s = bs S
  out : ∀ i, i < j → WORDS.getD i [] ≠ S

set_option maxRecDepth 20000 in
set_option maxHeartbeats 2000000 in
theorem refName_any (w : World) (bb o cap n : Nat) (L : List UInt8) (hA : At w bb o L) (hn : n = L.length) (hc1 : n ≤ cap) (hc2 : cap ≤ 9223372036854775807) (k : Nat) (hk : k < n) (r : Except Nat (Tk × Nat)) (N : Nat) (HM : NM L k N r) (x : UInt8) (HD : L.drop k = x :: L.drop (k + 1)) (h6 : cl x = 6) :
    Calls Tryd.prog 28 #[.slice (some ⟨bb, o, none⟩) n cap, .int .i64 k] w fun e w' => TokRes r k e ∧ Below w.heap.size w w' := by
  have HN : Hid (n = L.length) := hn
  clear hn
  have hb := hA.1
  have hcell : w.cell? ⟨bb, o + k, none⟩ = some (.int .u8 x.toNat) := by
    have := hA.2 k (HN.out ▸ hk)
    rw [List.drop_eq_getElem_cons (HN.out ▸ hk)] at HD
    rw [this, (List.cons.inj HD).1]
  have HD' : Hid (L.drop k = x :: L.drop (k + 1)) := HD
  clear HD
  have hkN : k + N ≤ n := by
    have h1 := (List.takeWhile_prefix (p := isNm) (l := L.drop k)).length_le
    rw [HM.len] at h1; simp at h1; have := HN.out; omega
  have HRW : RW L (rowP true) k k N := ⟨by rw [rowP_true, HM.len]; omega⟩
  by_cases h64 : 64 < N
  · have hE := HM.bad h64
    subst hE
    go_enter Tryd.func28, Tryd.ntmps28
    go_wp2_with (first
      | (go_at_call 35; refine (letter_any _ _).mono ?_; rintro e w' ⟨rfl, rfl⟩)
      | (go_at_call 36; refine (row_any _ bb o cap n L (hA.alloc _) HN.out (by omega) k (by omega) true N HRW).mono ?_; rintro e w' ⟨rfl, rfl⟩))
    refine bodyPost_ret (v := .tuple #[tz, .int .i64 k, .int .i64 21]) (by simp [results, Tryd.results28, go_sem, tz]; rfl) rfl ⟨⟨k, rfl⟩, (Below.refl _ _).alloc (Nat.le_refl _) _⟩
  · obtain ⟨t, ht⟩ : ∃ t, nameTk ((L.drop k).take N) = t := ⟨_, rfl⟩
    have hE := HM.good h64 ht
    subst hE
    have HT : Hid (nameTk ((L.drop k).take N) = t) := ht
    clear ht
    obtain ⟨s, hs⟩ : ∃ s, s = bs ((L.drop k).take N) := ⟨_, rfl⟩
    have hcv : ∀ ob, (convert 22 9 (.slice (some ⟨bb, o + k, none⟩) N (cap - k))).run Tryd.prog (w.alloc ob) = .ok (.string s) (w.alloc ob) := fun ob => by
      rw [hs]; exact ((hA.drop k).alloc ob).conv' N (cap - k) (by have := HN.out; simp; omega)
    have HS : WN ((L.drop k).take N) 0 s := ⟨hs, fun i hi => by omega⟩
    clear hs
    go_enter Tryd.func28, Tryd.ntmps28
    go_wp2_with (first
      | (go_at_call 35; refine (letter_any _ _).mono ?_; rintro e w' ⟨rfl, rfl⟩)
      | (go_at_call 36; refine (row_any _ bb o cap n L (hA.alloc _) HN.out (by omega) k (by omega) true N HRW).mono ?_; rintro e w' ⟨rfl, rfl⟩)
      | (go_at_call 37; refine (words_any _).mono ?_; rintro e u ⟨rfl, hb2⟩; have hg := (hb2.block w.heap.size (by simp)).trans (heap_alloc_last _ _))
      | (refine wpList_store_row rfl 63 _ _ rfl _ _ rfl rfl 63 _ (heap_alloc_last _ _) (by kernel_rfl) rfl (by kernel_rfl) ?_; rw [World.setRow_alloc_new]))
    have hsz : w.heap.size < u.heap.size := by have := hb2.size; simp at this; omega
    have hgW : (u.alloc (.cells wArr 63)).heap[u.heap.size]? = some (.cells wArr 63 (0, 0)) := heap_alloc_last _ _
    have hg4 := (Below.heap_alloc u (.cells wArr 63) w.heap.size hsz).trans hg
    have hB : Below w.heap.size w (u.alloc (.cells wArr 63)) := (((Below.refl _ _).alloc (Nat.le_refl _) _).trans (hb2.mono (by simp))).alloc (by omega) _
    obtain ⟨wl, hwl⟩ : ∃ wl, wl = u.alloc (.cells wArr 63) := ⟨_, rfl⟩
    rw [← hwl] at hgW hg4 hB ⊢
    clear hwl hb2 hg hcv
    go_loop [11] (fun v => ∃ j : Nat, j ≤ 18 ∧ v = .int .i64 j ∧ WN ((L.drop k).take N) j s) (fun v => 18 - (intOf v).toNat)
    case atStart => exact ⟨0, by omega, rfl, HS⟩
    case round =>
      obtain ⟨j, hj, rfl, HJ⟩ := hrel
      by_cases hlt : j < 18
      · have hcl := cell_arr hgW (wArr_at j hlt)
        obtain ⟨y, hy⟩ : ∃ y, y = bs (WORDS.getD j []) := ⟨_, rfl⟩
        rw [← hy] at hcl
        have HY : Hid (y = bs (WORDS.getD j [])) := hy
        clear hy
        have HG : Hid _ := hgW
        clear hgW
        by_cases he : (y.toList == s.toList) = true
        · have HE : Hid (t = ⟨10 + (j : Int), 0, []⟩) := by
            rw [HY.out, HJ.eq, bs_toList, bs_toList] at he
            rw [← HT.out]; exact nameTk_hit hlt HJ.out (by simpa using he)
          go_wp2_with (first | (refine wpList_store_tok rfl _ _ rfl w.heap.size (10 + (j : Int)) k 0 ⟨#[]⟩ rfl rfl _ hg4 rfl ?_) | fail)
          refine bodyPost_ret (v := .tuple #[.agg #[.int .i64 (10 + (j : Int)), .int .i64 k, .int .i64 0, .string ⟨#[]⟩], .int .i64 (k + N), .int .i64 0]) ?_ rfl ?_
          · exact results_tok Tryd.results28 _ _ w.heap.size 33 _ (0, 0) _ _ rfl rfl rfl (setRow_heap _ _ _ _ _ _ hg4) rfl
          refine ⟨?_, below_setRow hB (Nat.le_refl _) _⟩
          rw [HE.out]
          exact ret_three rfl (by omega) rfl
        · have HE : WN ((L.drop k).take N) (j + 1) s := ⟨HJ.eq, by
            rw [HY.out, HJ.eq, bs_toList, bs_toList] at he
            intro i hi
            rcases Nat.lt_succ_iff_lt_or_eq.1 hi with h | rfl
            · exact HJ.out i h
            · simpa using he⟩
          go_wp2_with fail
          go_round
          case rel => exact ⟨j + 1, by omega, by go_num, HE⟩
          case measure => simp [intOf]; omega
      · have hj : j = 18 := by omega
        subst hj
        have HE : Hid (t = ⟨1, 0, (L.drop k).take N⟩) := by rw [← HT.out]; exact nameTk_miss HJ.out
        go_wp2_with (first | (refine wpList_store_tok rfl _ _ rfl w.heap.size 1 k 0 s rfl rfl _ hg4 rfl ?_) | fail)
        refine bodyPost_ret (v := .tuple #[.agg #[.int .i64 1, .int .i64 k, .int .i64 0, .string s], .int .i64 (k + N), .int .i64 0]) ?_ rfl ?_
        · exact results_tok Tryd.results28 _ _ w.heap.size 33 _ (0, 0) _ _ rfl rfl rfl (setRow_heap _ _ _ _ _ _ hg4) rfl
        refine ⟨?_, below_setRow hB (Nat.le_refl _) _⟩
        rw [HE.out]
        exact ret_three (by rw [HJ.eq]; rfl) (by omega) rfl

structure NU (L : List UInt8) (k N : Nat) (r : Except Nat (Tk × Nat)) : Prop where
  len : ((L.drop k).takeWhile isDg).length = N
  res : numS false 0 (L.drop k) 0 = r
theorem NU.nb {L k N r} (h : NU L k N r) (hp : 0 < N) : ∃ z b, NB ((L.drop k).take N) z b ∧ ((b = false ∧ r = .error 22) ∨ (b = true ∧ r = .ok (⟨2, z, []⟩, N))) := by
  have e : (L.drop k).take N = (L.drop k).takeWhile isDg := by rw [← h.len]; exact (take_while_len isDg).symm
  obtain ⟨z, b, hzb⟩ : ∃ z b, numB ((L.drop k).take N) = (z, b) := ⟨_, _, rfl⟩
  refine ⟨z, b, ⟨hzb⟩, ?_⟩
  rw [e] at hzb
  rw [← h.res, numS, ns_eq]
  unfold numB at hzb
  cases hv : numVal (List.takeWhile isDg (L.drop k)) with
  | none => rw [hv] at hzb; obtain ⟨rfl, rfl⟩ := Prod.mk.inj hzb; exact .inl ⟨rfl, rfl⟩
  | some v => rw [hv] at hzb; obtain ⟨rfl, rfl⟩ := Prod.mk.inj hzb; right; refine ⟨rfl, ?_⟩; simp; exact h.len

theorem tw_mem {p : UInt8 → Bool} {c : UInt8} : ∀ {l : List UInt8}, c ∈ l.takeWhile p → p c = true
  | [], h => by simp at h
  | x :: l, h => by
    by_cases hx : p x = true
    · rw [List.takeWhile_cons, if_pos hx] at h
      rcases List.mem_cons.1 h with rfl | h
      · exact hx
      · exact tw_mem h
    · rw [List.takeWhile_cons, if_neg hx] at h; simp at h
theorem dg_mem {l : List UInt8} {N : Nat} (h : (l.takeWhile isDg).length = N) : ∀ c ∈ l.take N, cl c = 7 := by
  intro c hc
  rw [← h, ← take_while_len] at hc
  have := tw_mem hc
  simpa [isDg] using this

theorem number_at (w : World) (bb o cap m : Nat) (M : List UInt8) (hA : At w bb o M) (hn : m = M.length) (hm : m ≤ 9223372036854775807) (hm0 : 0 < m) (hd : ∀ c ∈ M, cl c = 7) (z : Int) (b : Bool) (HR : NB M z b) :
    Calls Tryd.prog 39 #[.slice (some ⟨bb, o, none⟩) m cap] w fun e w' => e = .returned (.tuple #[.int .i64 z, .bool b]) ∧ w = w' := refNumber_any w bb o cap m M hA hn hm hm0 hd z b HR

set_option maxRecDepth 20000 in
set_option maxHeartbeats 2000000 in
theorem refNum_any (w : World) (bb o cap n : Nat) (L : List UInt8) (hA : At w bb o L) (hn : n = L.length) (hc1 : n ≤ cap) (hc2 : cap ≤ 9223372036854775807) (k : Nat) (hk : k < n) (r : Except Nat (Tk × Nat)) (N : Nat) (HM : NU L k N r) (x : UInt8) (HD : L.drop k = x :: L.drop (k + 1)) (h7 : cl x = 7) :
    Calls Tryd.prog 28 #[.slice (some ⟨bb, o, none⟩) n cap, .int .i64 k] w fun e w' => TokRes r k e ∧ Below w.heap.size w w' := by
  have HN : Hid (n = L.length) := hn
  clear hn
  have hb := hA.1
  have hcell : w.cell? ⟨bb, o + k, none⟩ = some (.int .u8 x.toNat) := by
    have := hA.2 k (HN.out ▸ hk)
    rw [List.drop_eq_getElem_cons (HN.out ▸ hk)] at HD
    rw [this, (List.cons.inj HD).1]
  have hN0 : 0 < N := by rw [← HM.len, HD]; exact take_pos (by simp [isDg, h7])
  clear HD
  have hkN : k + N ≤ n := by
    have h1 := (List.takeWhile_prefix (p := isDg) (l := L.drop k)).length_le
    rw [HM.len] at h1; simp at h1; have := HN.out; omega
  have HRW : RW L (rowP false) k k N := ⟨by rw [rowP_false, HM.len]; omega⟩
  have HDG : Hid (∀ c ∈ (L.drop k).take N, cl c = 7) := dg_mem HM.len
  obtain ⟨z, b, HB, hr⟩ := HM.nb hN0
  rcases hr with ⟨rfl, rfl⟩ | ⟨rfl, rfl⟩
  · go_enter Tryd.func28, Tryd.ntmps28
    go_wp2_with (first
      | (go_at_call 35; refine (letter_any _ _).mono ?_; rintro e w' ⟨rfl, rfl⟩)
      | (go_at_call 38; refine (digit_any _ _).mono ?_; rintro e w' ⟨rfl, rfl⟩)
      | (go_at_call 36; refine (row_any _ bb o cap n L (hA.alloc _) HN.out (by omega) k (by omega) false N HRW).mono ?_; rintro e w' ⟨rfl, rfl⟩)
      | (go_at_call 39; refine (number_at _ bb (o + k) (cap - k) N ((L.drop k).take N) (((hA.drop k).take N).alloc _) (by have := HN.out; simp; omega) (by omega) hN0 HDG.out z false HB).mono ?_; rintro e w' ⟨rfl, rfl⟩))
    refine bodyPost_ret (v := .tuple #[tz, .int .i64 k, .int .i64 22]) (by simp [results, Tryd.results28, go_sem, tz]; rfl) rfl ⟨⟨k, rfl⟩, (Below.refl _ _).alloc (Nat.le_refl _) _⟩
  · go_enter Tryd.func28, Tryd.ntmps28
    go_wp2_with (first
      | (go_at_call 35; refine (letter_any _ _).mono ?_; rintro e w' ⟨rfl, rfl⟩)
      | (go_at_call 38; refine (digit_any _ _).mono ?_; rintro e w' ⟨rfl, rfl⟩)
      | (go_at_call 36; refine (row_any _ bb o cap n L (hA.alloc _) HN.out (by omega) k (by omega) false N HRW).mono ?_; rintro e w' ⟨rfl, rfl⟩)
      | (go_at_call 39; refine (number_at _ bb (o + k) (cap - k) N ((L.drop k).take N) (((hA.drop k).take N).alloc _) (by have := HN.out; simp; omega) (by omega) hN0 HDG.out z true HB).mono ?_; rintro e w' ⟨rfl, rfl⟩))
    refine bodyPost_ret (v := .tuple #[.agg #[.int .i64 2, .int .i64 k, .int .i64 z, .string ⟨#[]⟩], .int .i64 (k + N), .int .i64 0]) (by simp [results, Tryd.results28, go_sem]) rfl ⟨ret_three rfl (by omega) rfl, (Below.refl _ _).alloc (Nat.le_refl _) _⟩
end Go.Proofs.YtmddjfofedpggaaDoor
