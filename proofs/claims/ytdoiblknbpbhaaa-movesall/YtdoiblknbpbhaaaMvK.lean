import Derived.Test.YtdoiblknbpbhaaaMvJ
set_option linter.unusedVariables false
set_option linter.unusedSimpArgs false
namespace Go.Proofs.Ytdoiblknbpbhaaa
open Go.ChangeShapes Go.WideShapes Go.ChangeAt Go.RowKit Go.Maps

def errP (t : Lc) (l : List Mv) : Int := if placedP t l = true then (if (l.map Prod.fst).Nodup then 0 else 130) else 131
def ansP (t : Lc) (l : List Mv) : List Mv := if placedP t l = true then (if (l.map Prod.fst).Nodup then ord t l else []) else []
theorem placed_ne {t : Lc} {l : List Mv} (h : placedP t l = true) : t ∉ l.map Prod.fst := by
  intro hm
  obtain ⟨m, hm, e⟩ := List.mem_map.1 hm
  unfold placedP at h
  simp only [Bool.and_eq_true, List.all_eq_true] at h
  have := h.2 m hm
  unfold mvOk at this
  simp [e] at this
theorem ord_done {t : Lc} {w w' : World} {B sb gb sm rm la ln lc ov l out} (g : Gd t l) (H : CiS t w w' B sb gb sm rm la ln lc ov l [] [] out) : out = ord t l := by
  obtain ⟨n, hn⟩ := H.d
  exact ord_of g hn
set_option maxRecDepth 100000 in
set_option maxHeartbeats 8000000 in
theorem order_any (w : World) {la : Option Addr} {ln lc : Nat} {l : List Mv} (hL : Mvs w la lc l) (hn : ln = l.length) (hsz : ln ≤ 1000000) (t : Lc) (hft : FitL t) :
    Calls Try.prog 10 #[.slice la ln lc, .agg #[.int .i64 t.1, .int .i64 t.2]] w fun e w' => ∃ v, e = .returned (.tuple #[v, .int .i64 (errP t l)]) ∧ OwnM w' w.heap.size v (ansP t l).length (ansP t l) ∧ Below w.heap.size w w' := by
  obtain ⟨t1, t2⟩ := t
  obtain ⟨wt, hwt⟩ : ∃ W, W = w.alloc (.cells #[.int .i64 t1, .int .i64 t2] 24) := ⟨_, rfl⟩
  have hb0 : Below w.heap.size w wt := by rw [hwt]; exact below_new _ _
  have HLT : Hid (w.heap.size < wt.heap.size) := by rw [hwt]; show _ < _; simp
  have HTB : Hid (wt.heap[w.heap.size]? = some (.cells #[.int .i64 t1, .int .i64 t2] 24 (0, 0))) := by rw [hwt]; exact heap_alloc_new _ _
  have HB0 : Hid (Below w.heap.size w wt) := hb0
  have HL : Hid (Mvs w la lc l) := hL
  have HN : Hid (ln = l.length) := hn
  have HFT : Hid (FitL (t1, t2)) := hft
  have HPL : Hid (Calls Try.prog 21 #[.slice la ln lc, .agg #[.int .i64 t1, .int .i64 t2]] wt fun e w' => e = .returned (.bool (placedP (t1, t2) l)) ∧ Below wt.heap.size wt w') := placed_any wt (hL.below hb0 (Nat.le_refl _)) hn (t1, t2)
  have HST : Hid (∀ w', Below wt.heap.size wt w' → Calls Try.prog 22 #[.slice la ln lc] w' fun e w'' => (((l.map Prod.fst).Nodup ∧ ∃ mb, e = .returned (.tuple #[.map (some mb), .bool true]) ∧ MpL w'' mb ln (fun p => decide (p ∈ l.map Prod.fst)) (ixP (l.map Prod.fst)) ∧ w'.heap.size ≤ mb) ∨ (¬ (l.map Prod.fst).Nodup ∧ e = .returned (.tuple #[.map none, .bool false]))) ∧ Below w'.heap.size w' w'') := fun w' hb => setters_any w' ((hL.below hb0 (Nat.le_refl _)).below hb (Nat.le_refl _)) hn hsz
  unfold errP ansP
  obtain ⟨b1, hb1⟩ : ∃ b, placedP (t1, t2) l = b := ⟨_, rfl⟩
  have HPP : Hid (placedP (t1, t2) l = b1) := hb1
  rw [hb1] at HPL ⊢
  clear hL hn hft hb0 hb1
  cases b1
  · simp only [Bool.false_eq_true, if_false]
    subst hwt
    go_enter Try.func10, Try.ntmps10
    go_wp2_with (first | (go_at_call 21; refine HPL.out.mono ?_; rintro e w1 ⟨rfl, hb1⟩; have HB1 : Hid _ := hb1; clear hb1))
    go_ret2
    exact ⟨_, rfl, OwnM.nil _ _, HB0.out.trans (HB1.out.mono (Nat.le_of_lt HLT.out))⟩
  · simp only [if_true]
    by_cases hnd : (l.map Prod.fst).Nodup
    · rw [if_pos hnd, if_pos hnd]
      have HS2 : Hid (∀ w', Below wt.heap.size wt w' → Calls Try.prog 22 #[.slice la ln lc] w' fun e w'' => ∃ mb, e = .returned (.tuple #[.map (some mb), .bool true]) ∧ MpL w'' mb ln (fun p => decide (p ∈ l.map Prod.fst)) (ixP (l.map Prod.fst)) ∧ w'.heap.size ≤ mb ∧ Below w'.heap.size w' w'') := fun w' hb => by
        refine (HST.out w' hb).mono ?_
        rintro e w'' ⟨⟨_, mb, h1, h2, h3⟩ | ⟨h1, _⟩, h4⟩
        · exact ⟨mb, h1, h2, h3, h4⟩
        · exact absurd hnd h1
      have HGD : Hid (Gd (t1, t2) l) := ⟨hnd, placed_ne HPP.out⟩
      have HS3 : Hid (∀ w3 mb, Below wt.heap.size wt w3 → MpL w3 mb ln (fun p => decide (p ∈ l.map Prod.fst)) (ixP (l.map Prod.fst)) → w.heap.size ≤ mb → Calls Try.prog 23 #[.slice la ln lc, .map (some mb)] w3 fun e w' => ∃ sb gb rm, e = .returned (.pointer (some ⟨sb, 0, none⟩)) ∧ ChS (t1, t2) w' w' w.heap.size sb gb mb rm la ln lc (.slice none 0 0) l (lft l) [] ∧ Kp w.heap.size wt w') := fun w3 mb hb hM hmb => by
        have hbw : Below w.heap.size w w3 := HB0.out.trans (hb.mono (Nat.le_of_lt HLT.out))
        refine (sequence_any w3 (B := w.heap.size) hbw.size (HL.out.below hbw (Nat.le_refl _)) HN.out hsz (fun hne => ?_) hM hmb HGD.out.nodup).mono ?_
        · obtain ⟨b, o, e, hA⟩ := HL.out.out hne
          exact ⟨b, o, e, hA.lt, hA.below hbw hA.lt⟩
        · rintro e w' ⟨sb, gb, rm, rfl, hq, hk⟩
          have hlen : (lft l).length ≤ ln := by have := List.length_filter_le (fun m => !stays m) l; unfold lft; have := HN.out; omega
          exact ⟨sb, gb, rm, rfl, ⟨hq, Lf.start HGD.out, ⟨0, rfl⟩, by simpa using hlen, Kp.refl _ _⟩, (Kp.below (Nat.le_of_lt HLT.out) hb).trans hk⟩
      clear hnd HST
      subst hwt
      go_enter Try.func10, Try.ntmps10
      go_wp2_with (first
        | (go_at_call 21; refine HPL.out.mono ?_; rintro e w1 ⟨rfl, hb1⟩; have HB1 : Hid _ := hb1; clear hb1)
        | (go_at_call 22; refine (HS2.out _ HB1.out).mono ?_; rintro e w2 ⟨mb, rfl, hM2, hmb, hb2⟩
           have HB2 : Hid (Below (w.alloc (.cells #[.int .i64 t1, .int .i64 t2] 24)).heap.size (w.alloc (.cells #[.int .i64 t1, .int .i64 t2] 24)) w2) := HB1.out.trans (hb2.mono HB1.out.size)
           have HM2 : Hid _ := hM2
           have HMB : Hid (w.heap.size ≤ mb) := by have := HB1.out.size; have := HLT.out; show _ ≤ _; omega
           clear hb2 hM2 hmb)
        | (go_at_call 23; refine (HS3.out _ _ HB2.out HM2.out HMB.out).mono ?_; rintro e w3 ⟨sb, gb, rm, rfl, hc3, hk3⟩; have HC3 : Hid _ := hc3; have HK3 : Hid _ := hk3; clear hc3 hk3)
        | (go_at_call 24; refine (chains_any w3 HC3.out (by have := HK3.out.bel.size; have := HLT.out; omega)).mono ?_; rintro e w4 ⟨rfl, ov4, A4, out4, hc4, hf4⟩
           have htb4 := hc4.k.bx _ _ (HK3.out.bx _ _ HTB.out)
           have x0 : w4.cell? ⟨w.heap.size, 0, none⟩ = some (.int .i64 t1) := cell_arr htb4 rfl
           have x1 : w4.cell? ⟨w.heap.size, 1, none⟩ = some (.int .i64 t2) := cell_arr htb4 rfl
           have HC4 : Hid _ := hc4
           have HF4 : Hid _ := hf4
           clear hc4 hf4 htb4)
        | (go_at_call 25; refine (circles_any w4 HFT.out ⟨HC4.out.q, HC4.out.f, HC4.out.d, Kp.refl _ _⟩ (HC4.out.f.bal HF4.out) (by have h1 := HC4.out.o; have h2 := HC4.out.q.al; omega) (by have := HK3.out.bel.size; have := HC4.out.k.bel.size; have := HLT.out; omega)).mono ?_; rintro e w5 ⟨rfl, ov5, out5, hc5⟩
           have y4 : w5.cell? ⟨sb, 4, none⟩ = some ov5 := cell_arr hc5.q.box rfl
           have HC5 : Hid _ := hc5
           clear hc5))
      go_ret2
      have he := ord_done HGD.out HC5.out
      refine ⟨_, rfl, ?_, ?_⟩
      · rw [← he]; exact HC5.out.q.ou
      · exact HB0.out.trans ((HK3.out.bel.trans HC4.out.k.bel).trans HC5.out.k.bel)
    · rw [if_neg hnd, if_neg hnd]
      have HS2 : Hid (∀ w', Below wt.heap.size wt w' → Calls Try.prog 22 #[.slice la ln lc] w' fun e w'' => e = .returned (.tuple #[.map none, .bool false]) ∧ Below w'.heap.size w' w'') := fun w' hb => by
        refine (HST.out w' hb).mono ?_
        rintro e w'' ⟨⟨h0, _⟩ | ⟨_, h1⟩, h4⟩
        · exact absurd h0 hnd
        · exact ⟨h1, h4⟩
      clear hnd HST
      subst hwt
      go_enter Try.func10, Try.ntmps10
      go_wp2_with (first
        | (go_at_call 21; refine HPL.out.mono ?_; rintro e w1 ⟨rfl, hb1⟩; have HB1 : Hid _ := hb1; clear hb1)
        | (go_at_call 22; refine (HS2.out _ HB1.out).mono ?_; rintro e w2 ⟨rfl, hb2⟩; have HB2 : Hid _ := hb2; clear hb2))
      go_ret2
      exact ⟨_, rfl, OwnM.nil _ _, (HB0.out.trans (HB1.out.mono (Nat.le_of_lt HLT.out))).trans (HB2.out.mono (by have := HB1.out.size; have := HLT.out; omega))⟩
end Go.Proofs.Ytdoiblknbpbhaaa
