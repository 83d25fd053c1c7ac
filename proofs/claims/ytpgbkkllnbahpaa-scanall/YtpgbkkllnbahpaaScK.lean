import Derived.Test.YtpgbkkllnbahpaaScA
set_option linter.unusedVariables false
set_option linter.unusedSimpArgs false
namespace Go.Proofs.Ytpgbkkllnbahpaa
open Go.ChangeShapes Go.WideShapes Go.ChangeAt Go.RowKit Go.Maps

theorem row_ic {w : World} {B b n c : Nat} {S : List Int} (h : Row w B 3 1 (.slice (some ⟨b, 0, none⟩) n c) (S.map ic)) (hn : n = S.length) {k : Nat} (hk : k < S.length) : w.cell? ⟨b, k, none⟩ = some (.int .i64 S[k]) := by
  have := Row.cell h (by simpa using hn) (i := k) (by simpa using hk) (r := 0) (by omega) (u := .int .i64 S[k]) (by simp [ic])
  simpa using this
theorem row_vc {w : World} {B b n c : Nat} {S : List Iv} (h : Row w B 35 3 (.slice (some ⟨b, 0, none⟩) n c) (S.map vc)) (hn : n = S.length) {k : Nat} (hk : k < S.length) : w.cell? ⟨b, k * 3, none⟩ = some (.int .i64 S[k].1) ∧ w.cell? ⟨b, k * 3 + 1, none⟩ = some (.int .i64 S[k].2.1) ∧ w.cell? ⟨b, k * 3 + 2, none⟩ = some (.int .i64 S[k].2.2) :=
  ⟨by simpa using Row.cell h (by simpa using hn) (i := k) (by simpa using hk) (r := 0) (by omega) (u := .int .i64 S[k].1) (by simp [vc]), Row.cell h (by simpa using hn) (i := k) (by simpa using hk) (r := 1) (by omega) (by simp [vc]), Row.cell h (by simpa using hn) (i := k) (by simpa using hk) (r := 2) (by omega) (by simp [vc])⟩
theorem row_lc {w : World} {B b n c : Nat} {S : List Lc} (h : Row w B 37 2 (.slice (some ⟨b, 0, none⟩) n c) (S.map lc)) (hn : n = S.length) {k : Nat} (hk : k < S.length) : w.cell? ⟨b, k * 2, none⟩ = some (.int .i64 S[k].1) ∧ w.cell? ⟨b, k * 2 + 1, none⟩ = some (.int .i64 S[k].2) :=
  ⟨by simpa using Row.cell h (by simpa using hn) (i := k) (by simpa using hk) (r := 0) (by omega) (u := .int .i64 S[k].1) (by simp [lc]), Row.cell h (by simpa using hn) (i := k) (by simpa using hk) (r := 1) (by omega) (by simp [lc])⟩
structure BxI (w : World) (rb : Nat) (r : Int) : Prop where
  out : w.heap[rb]? = some (.cells #[.int .i64 r] 3 (0, 0))
theorem BxI.keep {w w' : World} {xb x} (h : BxI w xb x) (hb : Below w.heap.size w w') : BxI w' xb x := ⟨(hb.block xb (Array.getElem?_eq_some_iff.1 h.out).1).trans h.out⟩
theorem BxI.lt {w : World} {xb x} (h : BxI w xb x) : xb < w.heap.size := (Array.getElem?_eq_some_iff.1 h.out).1
theorem BxI.cell {w : World} {xb x} (h : BxI w xb x) : w.cell? ⟨xb, 0, none⟩ = some (.int .i64 x) := by simp [World.cell?, h.out]
theorem gi_alloc {B : Nat} {w w' : World} {ob : Obj} {v v' : Value} (h : GI B (w.alloc ob) w' v v') (hB : B ≤ w.heap.size) : GI B w w' v v' :=
  ⟨((Below.refl _ _).alloc hB _).trans h.bel, fun g hg hn => by rw [h.blk g (by simp; omega) hn, heap_alloc_old _ _ hg], fun g hg => by
    rcases h.own g hg with q | q
    · exact .inl q
    · right; simp at q; omega⟩
theorem gi_below {B : Nat} {w w0 w' : World} {v v' : Value} (h : GI B w0 w' v v') (hb : Below w.heap.size w w0) (hB : B ≤ w.heap.size) : GI B w w' v v' :=
  ⟨(hb.mono hB).trans h.bel, fun g hg hn => by rw [h.blk g (by have := hb.size; omega) hn, hb.block g hg], fun g hg => by
    rcases h.own g hg with q | q
    · exact .inl q
    · right; have := hb.size; omega⟩

set_option maxRecDepth 100000 in
set_option maxHeartbeats 2000000 in
theorem index_int (w : World) (B : Nat) (v : Value) (S : List Int) (h : Row w B 3 1 v (S.map ic)) (xb : Nat) (x : Int) (hx : BxI w xb x) :
    Calls Try.prog 33 #[v, .func (.func 28) #[] #[.pointer (some ⟨xb, 0, none⟩)]] w fun e w' => e = .returned (.int .i64 (fxI (fun o => decide (x < o)) S)) ∧ Below w.heap.size w w' := by
  have HP : Hid (∃ p : Int → Bool, p = (fun o => decide (x < o))) := ⟨_, rfl⟩
  obtain ⟨p, hp⟩ := HP.out
  rw [← hp]
  obtain ⟨ao, c, rfl, hnc, hcm⟩ := own_slice h.out
  have hle : (S.map ic).length = S.length := by simp
  rw [hle] at hnc ⊢
  obtain ⟨n, hn⟩ : ∃ n, n = S.length := ⟨_, rfl⟩
  rw [hle, ← hn] at h
  rw [← hn] at hnc ⊢
  have HN : Hid (n = S.length) := hn
  have HH : Hid (Row w B 3 1 (.slice ao n c) (S.map ic)) := h
  have HX : Hid (BxI w xb x) := hx
  have HPP : Hid (p = (fun o => decide (x < o))) := hp
  clear h hx hn hp HP hle
  go_enter Try.func33, Try.ntmps33
  go_wp2_with fail
  go_loopw [8] (fun v wr => ∃ k : Nat, k ≤ n ∧ v = .int .i64 k ∧ Hid (∀ i (h : i < S.length), i < k → p S[i] = false) ∧ Hid (Below w.heap.size w wr)) (fun v _ => n - (intOf v).toNat)
  case atStart => exact ⟨0, by omega, rfl, fun i _ h => by omega, Below.refl _ _⟩
  case round =>
    obtain ⟨k, hk, rfl, HE, HB⟩ := hrel
    obtain ⟨wq, rfl⟩ : ∃ wq, wq = wr := ⟨_, rfl⟩
    by_cases hlt : k < n
    · have hk2 : k < S.length := by have := HN.out; omega
      have RQ : Row wq B 3 1 (.slice ao n c) (S.map ic) := HH.out.keep HB.out
      obtain ⟨b, _, e, _, _, _, hbw⟩ := own_some RQ.out (by simp; omega)
      simp only [Value.slice.injEq] at e
      obtain ⟨rfl, e1, e2⟩ := e
      clear e1 e2
      have hc0 := row_ic RQ HN.out hk2
      have hcall : Hid (Calls Try.prog 28 #[.int .i64 S[k], .pointer (some ⟨xb, 0, none⟩)] wq fun e w' => e = .returned (.bool (p S[k])) ∧ Below wq.heap.size wq w') := by
        have hxq := HX.out.keep HB.out
        rw [HPP.out]
        exact (free1_any wq xb x S[k] hxq.cell).mono fun e w' q => ⟨q.1, q.2 ▸ Below.refl _ _⟩
      have HT : Hid (p S[k] = true → fxI p S = (k : Int)) := fun q => by
        have := findIdx_step hk2 HE.out q
        unfold fxI
        rw [this, if_pos hk2]
      have HF : Hid (p S[k] = false → ∀ i (h : i < S.length), i < k + 1 → p S[i] = false) := fun q i h1 h2 => by
        rcases Nat.lt_succ_iff_lt_or_eq.1 h2 with q' | rfl
        · exact HE.out i h1 q'
        · exact q
      clear HE RQ
      cases hq : p S[k] with
      | true =>
        rw [hq] at hcall
        have HA : Hid (fxI p S = (k : Int)) := HT.out hq
        clear hq HT HF
        generalize S[k] = y at hc0 hcall 
        clear hk2
        go_wp2_with (go_at_call 28; refine Calls.mono hcall.out ?_; rintro e w' ⟨rfl, hb'⟩; have HB2 : Hid (Below w.heap.size w w') := HB.out.trans (hb'.mono HB.out.size); clear hb')
        go_ret
        exact ⟨by first | (rw [HA.out]; done) | (rw [HA.out]; rfl), HB2.out⟩
      | false =>
        rw [hq] at hcall
        have HE2 : Hid _ := HF.out hq
        clear hq HT HF
        generalize S[k] = y at hc0 hcall 
        clear hk2
        go_wp2_with (go_at_call 28; refine Calls.mono hcall.out ?_; rintro e w' ⟨rfl, hb'⟩; have HB2 : Hid (Below w.heap.size w w') := HB.out.trans (hb'.mono HB.out.size); clear hb')
        go_roundw
        case rel => exact ⟨k + 1, by omega, by go_num, HE2.out, HB2.out⟩
        case measure => simp [intOf]; omega
    · have HA : Hid (fxI p S = -1) := by
        have := findIdx_none (p := p) fun i hi => HE.out i hi (by have := HN.out; omega)
        show fxI p S = -1
        unfold fxI
        rw [this, if_neg (by omega)]
      go_wp2_with fail
      go_ret
      exact ⟨by first | (rw [HA.out]; done) | (rw [HA.out]; rfl), HB.out⟩
set_option maxRecDepth 100000 in
set_option maxHeartbeats 2000000 in
theorem with_int (w : World) (B : Nat) (v : Value) (S : List Int) (h : Row w B 3 1 v (S.map ic)) (xb : Nat) (x : Int) (hx : BxI w xb x) (hl : S.length + 1 ≤ 1000000000) (hB : B ≤ w.heap.size) :
    Calls Try.prog 27 #[v, .int .i64 x, .func (.func 28) #[] #[.pointer (some ⟨xb, 0, none⟩)]] w fun e w' => ∃ v', e = .returned v' ∧ Row w' B 3 1 v' ((wth (fun o => decide (x < o)) x S).map ic) ∧ GI B w w' v v' := by
  have hidx := fun W (hW : Below w.heap.size w W) => index_int W B v S (h.keep hW) xb x (hx.keep hW)
  have HP : Hid (∃ p : Int → Bool, p = (fun o => decide (x < o))) := ⟨_, rfl⟩
  obtain ⟨p, hp⟩ := HP.out
  simp only [← hp] at hidx
  rw [← hp]
  clear hp HP hx
  have HH : Hid (Row w B 3 1 v (S.map ic)) := h
  obtain ⟨ao, c, rfl, hnc, hcm⟩ := own_slice h.out
  have hle : (S.map ic).length = S.length := by simp
  simp only [hle] at hidx
  rw [hle] at hnc HH ⊢
  clear h hle
  have HI : Hid (∀ W, Below w.heap.size w W → Calls Try.prog 33 #[.slice ao S.length c, .func (.func 28) #[] #[.pointer (some ⟨xb, 0, none⟩)]] W fun e w' => e = .returned (.int .i64 (fxI p S)) ∧ Below W.heap.size W w') := hidx
  have hfi : S.findIdx p ≤ S.length := List.findIdx_le_length
  have HINS : Hid (∀ W, Below w.heap.size w W → Calls Try.prog 34 #[.slice ao S.length c, .int .i64 (S.findIdx p : Nat), .slice (some ⟨W.heap.size, 0, none⟩) 1 1] (W.alloc (.cells (ic x).toArray 3)) fun e w' => ∃ v', e = .returned v' ∧ Row w' B 3 1 v' ((wth p x S).map ic) ∧ GI B w w' (.slice ao S.length c) v') := fun W hW => by
    have RQ : Row (W.alloc (.cells (ic x).toArray 3)) B 3 1 (.slice ao S.length c) (S.map ic) := (HH.out.keep hW).keep ((Below.refl _ _).alloc (Nat.le_refl _) _)
    have hs := hW.size
    refine Calls.mono (insert_int _ B _ _ RQ (S.findIdx p) (by simpa using hfi) W.heap.size (ic x) rfl (heap_alloc_new W _) (fun e => by have := (own_block HH.out.out e).2; omega) one_ic (fun u hu => by simp [ic] at hu; subst hu; rfl) (by simp; omega) (by simp; omega)) ?_
    rintro e w' ⟨v', rfl, R, G⟩
    refine ⟨v', rfl, ?_, gi_below (gi_alloc G (by omega)) hW hB⟩
    have e : (S.map ic).take (S.findIdx p) ++ ic x :: (S.map ic).drop (S.findIdx p) = (wth p x S).map ic := by simp [wth]
    rw [← e]
    exact R
  clear HH hidx
  unfold fxI at HI
  by_cases hf : S.findIdx p < S.length
  · simp only [if_pos hf] at HI
    go_enter Try.func27, Try.ntmps27
    go_wp2_with (first
      | (go_at_call 33; refine Calls.mono (HI.out _ (Below.refl _ _)) ?_; rintro e w1 ⟨rfl, hb1⟩; have HB1 : Hid (Below w.heap.size w w1) := hb1; clear hb1)
      | (go_at_call 34; refine Calls.mono (HINS.out w1 HB1.out) ?_; rintro e w2 ⟨v', rfl, R, G⟩; have HR : Hid _ := R; have HG : Hid _ := G; clear R G))
    go_ret
    exact ⟨_, rfl, HR.out, HG.out⟩
  · simp only [if_neg hf] at HI
    have hfe : S.findIdx p = S.length := by omega
    rw [hfe] at HINS
    clear hfi hf
    go_enter Try.func27, Try.ntmps27
    go_wp2_with (first
      | (go_at_call 33; refine Calls.mono (HI.out _ (Below.refl _ _)) ?_; rintro e w1 ⟨rfl, hb1⟩; have HB1 : Hid (Below w.heap.size w w1) := hb1; clear hb1)
      | (go_at_call 34; refine Calls.mono (HINS.out w1 HB1.out) ?_; rintro e w2 ⟨v', rfl, R, G⟩; have HR : Hid _ := R; have HG : Hid _ := G; clear R G))
    go_ret
    exact ⟨_, rfl, HR.out, HG.out⟩

set_option maxRecDepth 100000 in
set_option maxHeartbeats 2000000 in
theorem index_iv (w : World) (B : Nat) (v : Value) (S : List Iv) (h : Row w B 35 3 v (S.map vc)) (xb : Nat) (x : Iv) (hx : BxV w xb x) :
    Calls Try.prog 35 #[v, .func (.func 31) #[] #[.pointer (some ⟨xb, 0, none⟩)]] w fun e w' => e = .returned (.int .i64 (fxI (aft x) S)) ∧ Below w.heap.size w w' := by
  have HP : Hid (∃ p : Iv → Bool, p = (aft x)) := ⟨_, rfl⟩
  obtain ⟨p, hp⟩ := HP.out
  rw [← hp]
  obtain ⟨ao, c, rfl, hnc, hcm⟩ := own_slice h.out
  have hle : (S.map vc).length = S.length := by simp
  rw [hle] at hnc ⊢
  obtain ⟨n, hn⟩ : ∃ n, n = S.length := ⟨_, rfl⟩
  rw [hle, ← hn] at h
  rw [← hn] at hnc ⊢
  have HN : Hid (n = S.length) := hn
  have HH : Hid (Row w B 35 3 (.slice ao n c) (S.map vc)) := h
  have HX : Hid (BxV w xb x) := hx
  have HPP : Hid (p = (aft x)) := hp
  clear h hx hn hp HP hle
  go_enter Try.func35, Try.ntmps35
  go_wp2_with fail
  go_loopw [8] (fun v wr => ∃ k : Nat, k ≤ n ∧ v = .int .i64 k ∧ Hid (∀ i (h : i < S.length), i < k → p S[i] = false) ∧ Hid (Below w.heap.size w wr)) (fun v _ => n - (intOf v).toNat)
  case atStart => exact ⟨0, by omega, rfl, fun i _ h => by omega, Below.refl _ _⟩
  case round =>
    obtain ⟨k, hk, rfl, HE, HB⟩ := hrel
    obtain ⟨wq, rfl⟩ : ∃ wq, wq = wr := ⟨_, rfl⟩
    by_cases hlt : k < n
    · have hk2 : k < S.length := by have := HN.out; omega
      have RQ : Row wq B 35 3 (.slice ao n c) (S.map vc) := HH.out.keep HB.out
      obtain ⟨b, _, e, _, _, _, hbw⟩ := own_some RQ.out (by simp; omega)
      simp only [Value.slice.injEq] at e
      obtain ⟨rfl, e1, e2⟩ := e
      clear e1 e2
      obtain ⟨hc0, hc1, hc2⟩ := row_vc RQ HN.out hk2
      have hcall : Hid (Calls Try.prog 31 #[va S[k], .pointer (some ⟨xb, 0, none⟩)] wq fun e w' => e = .returned (.bool (p S[k])) ∧ Below wq.heap.size wq w') := by
        have hxq := HX.out.keep HB.out
        rw [HPP.out]
        exact take1_any wq xb x S[k] hxq
      have HT : Hid (p S[k] = true → fxI p S = (k : Int)) := fun q => by
        have := findIdx_step hk2 HE.out q
        unfold fxI
        rw [this, if_pos hk2]
      have HF : Hid (p S[k] = false → ∀ i (h : i < S.length), i < k + 1 → p S[i] = false) := fun q i h1 h2 => by
        rcases Nat.lt_succ_iff_lt_or_eq.1 h2 with q' | rfl
        · exact HE.out i h1 q'
        · exact q
      clear HE RQ
      cases hq : p S[k] with
      | true =>
        rw [hq] at hcall
        have HA : Hid (fxI p S = (k : Int)) := HT.out hq
        clear hq HT HF
        generalize S[k] = y at hc0 hcall hc1 hc2
        clear hk2
        go_wp2_with (go_at_call 31; refine Calls.mono hcall.out ?_; rintro e w' ⟨rfl, hb'⟩; have HB2 : Hid (Below w.heap.size w w') := HB.out.trans (hb'.mono HB.out.size); clear hb')
        go_ret
        exact ⟨by first | (rw [HA.out]; done) | (rw [HA.out]; rfl), HB2.out⟩
      | false =>
        rw [hq] at hcall
        have HE2 : Hid _ := HF.out hq
        clear hq HT HF
        generalize S[k] = y at hc0 hcall hc1 hc2
        clear hk2
        go_wp2_with (go_at_call 31; refine Calls.mono hcall.out ?_; rintro e w' ⟨rfl, hb'⟩; have HB2 : Hid (Below w.heap.size w w') := HB.out.trans (hb'.mono HB.out.size); clear hb')
        go_roundw
        case rel => exact ⟨k + 1, by omega, by go_num, HE2.out, HB2.out⟩
        case measure => simp [intOf]; omega
    · have HA : Hid (fxI p S = -1) := by
        have := findIdx_none (p := p) fun i hi => HE.out i hi (by have := HN.out; omega)
        show fxI p S = -1
        unfold fxI
        rw [this, if_neg (by omega)]
      go_wp2_with fail
      go_ret
      exact ⟨by first | (rw [HA.out]; done) | (rw [HA.out]; rfl), HB.out⟩
set_option maxRecDepth 100000 in
set_option maxHeartbeats 2000000 in
theorem with_iv (w : World) (B : Nat) (v : Value) (S : List Iv) (h : Row w B 35 3 v (S.map vc)) (xb : Nat) (x : Iv) (hx : BxV w xb x) (hl : S.length + 1 ≤ 1000000000) (hB : B ≤ w.heap.size) :
    Calls Try.prog 30 #[v, va x, .func (.func 31) #[] #[.pointer (some ⟨xb, 0, none⟩)]] w fun e w' => ∃ v', e = .returned v' ∧ Row w' B 35 3 v' ((wth (aft x) x S).map vc) ∧ GI B w w' v v' := by
  have hidx := fun W (hW : Below w.heap.size w W) => index_iv W B v S (h.keep hW) xb x (hx.keep hW)
  have HP : Hid (∃ p : Iv → Bool, p = (aft x)) := ⟨_, rfl⟩
  obtain ⟨p, hp⟩ := HP.out
  simp only [← hp] at hidx
  rw [← hp]
  clear hp HP hx
  have HH : Hid (Row w B 35 3 v (S.map vc)) := h
  obtain ⟨ao, c, rfl, hnc, hcm⟩ := own_slice h.out
  have hle : (S.map vc).length = S.length := by simp
  simp only [hle] at hidx
  rw [hle] at hnc HH ⊢
  clear h hle
  have HI : Hid (∀ W, Below w.heap.size w W → Calls Try.prog 35 #[.slice ao S.length c, .func (.func 31) #[] #[.pointer (some ⟨xb, 0, none⟩)]] W fun e w' => e = .returned (.int .i64 (fxI p S)) ∧ Below W.heap.size W w') := hidx
  have hfi : S.findIdx p ≤ S.length := List.findIdx_le_length
  have HINS : Hid (∀ W, Below w.heap.size w W → Calls Try.prog 36 #[.slice ao S.length c, .int .i64 (S.findIdx p : Nat), .slice (some ⟨W.heap.size, 0, none⟩) 1 1] (W.alloc (.cells (vc x).toArray 35)) fun e w' => ∃ v', e = .returned v' ∧ Row w' B 35 3 v' ((wth p x S).map vc) ∧ GI B w w' (.slice ao S.length c) v') := fun W hW => by
    have RQ : Row (W.alloc (.cells (vc x).toArray 35)) B 35 3 (.slice ao S.length c) (S.map vc) := (HH.out.keep hW).keep ((Below.refl _ _).alloc (Nat.le_refl _) _)
    have hs := hW.size
    refine Calls.mono (insert_iv _ B _ _ RQ (S.findIdx p) (by simpa using hfi) W.heap.size (vc x) rfl (heap_alloc_new W _) (fun e => by have := (own_block HH.out.out e).2; omega) one_vc (fun u hu => by simp [vc] at hu; rcases hu with rfl | rfl | rfl <;> rfl) (by simp; omega) (by simp; omega)) ?_
    rintro e w' ⟨v', rfl, R, G⟩
    refine ⟨v', rfl, ?_, gi_below (gi_alloc G (by omega)) hW hB⟩
    have e : (S.map vc).take (S.findIdx p) ++ vc x :: (S.map vc).drop (S.findIdx p) = (wth p x S).map vc := by simp [wth]
    rw [← e]
    exact R
  clear HH hidx
  unfold fxI at HI
  unfold va
  by_cases hf : S.findIdx p < S.length
  · simp only [if_pos hf] at HI
    go_enter Try.func30, Try.ntmps30
    go_wp2_with (first
      | (go_at_call 35; refine Calls.mono (HI.out _ ((Below.refl _ _).alloc (Nat.le_refl _) _)) ?_; rintro e w1 ⟨rfl, hb1⟩; have HB1 : Hid (Below w.heap.size w w1) := ((Below.refl _ _).alloc (Nat.le_refl _) _).trans (hb1.mono (by simp)); have hbx : BxV w1 w.heap.size x := BxV.keep ⟨heap_alloc_new w _⟩ hb1; have hlb := hbx.lt; obtain ⟨hx0, hx1, hx2⟩ := hbx.cells; clear hb1 hbx)
      | (go_at_call 36; refine Calls.mono (HINS.out w1 HB1.out) ?_; rintro e w2 ⟨v', rfl, R, G⟩; have HR : Hid _ := R; have HG : Hid _ := G; clear R G))
    go_ret
    exact ⟨_, rfl, HR.out, HG.out⟩
  · simp only [if_neg hf] at HI
    have hfe : S.findIdx p = S.length := by omega
    rw [hfe] at HINS
    clear hfi hf
    go_enter Try.func30, Try.ntmps30
    go_wp2_with (first
      | (go_at_call 35; refine Calls.mono (HI.out _ ((Below.refl _ _).alloc (Nat.le_refl _) _)) ?_; rintro e w1 ⟨rfl, hb1⟩; have HB1 : Hid (Below w.heap.size w w1) := ((Below.refl _ _).alloc (Nat.le_refl _) _).trans (hb1.mono (by simp)); have hbx : BxV w1 w.heap.size x := BxV.keep ⟨heap_alloc_new w _⟩ hb1; have hlb := hbx.lt; obtain ⟨hx0, hx1, hx2⟩ := hbx.cells; clear hb1 hbx)
      | (go_at_call 36; refine Calls.mono (HINS.out w1 HB1.out) ?_; rintro e w2 ⟨v', rfl, R, G⟩; have HR : Hid _ := R; have HG : Hid _ := G; clear R G))
    go_ret
    exact ⟨_, rfl, HR.out, HG.out⟩
end Go.Proofs.Ytpgbkkllnbahpaa
