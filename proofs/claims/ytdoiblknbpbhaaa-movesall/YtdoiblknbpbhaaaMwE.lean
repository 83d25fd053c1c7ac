import Derived.Test.YtdoiblknbpbhaaaMwD
set_option linter.unusedVariables false
set_option linter.unusedSimpArgs false
namespace Go.Proofs.Ytdoiblknbpbhaaa
open Go.ChangeShapes Go.WideShapes Go.ChangeAt Go.RowKit Go.Maps

/-- A list of its own that was filled is told so. -/
theorem KL.fresh {w w1 : World} {B kb lv mv vs ms col v n y} (h : KL w B kb lv mv vs ms col) (h1 : OwnM w1 B v n (List.replicate n (mkM y))) (on : Only (fun k => v.ownBlock = some k) w w1) (hfr : ∀ g, v.ownBlock = some g → col g = none ∧ mv.ownBlock ≠ some g ∧ lv.ownBlock ≠ some g ∧ g ≠ kb) :
    ∃ col', ColLe col col' ∧ KL w1 B kb lv mv vs ms col' ∧ Far w1 B col' v n y ∧ ∀ k, KF kb lv mv col' k → KF kb lv mv col k ∨ v.ownBlock = some k := by
  have blk : ∀ g, g < w.heap.size → v.ownBlock ≠ some g → w1.heap[g]? = w.heap[g]? := fun g hl hn => on.block g hl hn
  have n1 := h.nes.1
  refine ⟨fun g => if v.ownBlock = some g then some (y, n) else col g, fun g x M hc => ?_, ⟨?_, h.lo, h.l.move fun g hg => ?_, ⟨h.m.len, own_move h.m.out fun g hg => ?_⟩, ⟨fun g x M hc => ?_⟩, fun g hg q => ?_⟩, ⟨h1, fun g hg => by simp [hg]⟩, fun k hf => ?_⟩
  · have hne : v.ownBlock ≠ some g := fun e => by rw [(hfr g e).1] at hc; cases hc
    exact ⟨M, by simp [hne, hc], Nat.le_refl _⟩
  · exact (blk kb n1 fun e => (hfr kb e).2.2.2 rfl).trans h.box
  · exact blk g (own_block h.l.out hg).2 fun e => (hfr g e).2.2.1 hg
  · exact blk g (own_block h.m.out hg).2 fun e => (hfr g e).2.1 hg
  · by_cases e : v.ownBlock = some g
    · simp only [e, if_true, Option.some.injEq, Prod.mk.injEq] at hc
      obtain ⟨rfl, rfl⟩ := hc
      rcases h1.out.2 with ⟨q, _⟩ | ⟨g2, cap, cur, q, q1, q3, _⟩
      · rw [q] at e; cases e
      · subst q
        cases e
        refine ⟨q1, (Array.getElem?_eq_some_iff.1 q3).1, ⟨cur, q3⟩, ?_⟩
        obtain ⟨a2, c2, e2, hM⟩ := h1.mvs
        cases e2
        by_cases hz : List.replicate n (mkM y) = []
        · rw [hz]; exact ⟨(Array.getElem?_eq_some_iff.1 q3).1, fun i hi => by simp at hi⟩
        · obtain ⟨b, o, e3, hA⟩ := hM.out hz
          cases e3
          exact hA
    · simp only [if_neg e] at hc
      obtain ⟨c1, c2, ⟨A, c3⟩, c4⟩ := h.c.cells g x M hc
      have hA := (blk g c2 e).trans c3
      exact ⟨c1, (Array.getElem?_eq_some_iff.1 hA).1, ⟨A, hA⟩, c4.move (blk g c2 e)⟩
  · by_cases e : v.ownBlock = some g
    · exact (hfr g e).2.1 q
    · simp only [if_neg e] at hg; exact h.ap g hg q
  · by_cases e : v.ownBlock = some k
    · exact .inr e
    · left
      rcases hf with q | q | q | q
      · exact .inl q
      · exact .inr (.inl q)
      · exact .inr (.inr (.inl q))
      · simp only [if_neg e] at q; exact .inr (.inr (.inr q))
set_option maxRecDepth 100000 in
set_option maxHeartbeats 4000000 in
theorem row_now (w : World) {B kb lv mv vs ms col v n L} (hk : KL w B kb lv mv vs ms col) (he : KE vs ms col) (ho : OwnM w B v n L) (hfr : ∀ g, v.ownBlock = some g → col g = none ∧ mv.ownBlock ≠ some g) (hn : n ≤ 1000000) (hl : ms.length ≤ 900000) :
    Calls Try.prog 19 #[.pointer (some ⟨kb, 0, none⟩), v] w fun e w' => e = .returned (.tuple #[]) ∧ ∃ lv' mv' vs' ms' col', ms'.length ≤ ms.length + 41 ∧ KL w' B kb lv' mv' vs' ms' col' ∧ KE vs' ms' col' ∧ Only (fun k => KF kb lv mv col k ∨ v.ownBlock = some k) w w' ∧ ∀ k, k < w.heap.size → KF kb lv' mv' col' k → KF kb lv mv col k ∨ v.ownBlock = some k := by
  obtain ⟨va, vc, rfl, _, _⟩ := own_slice ho.out
  have hfr2 : ∀ g, (Value.slice va n vc).ownBlock = some g → col g = none ∧ mv.ownBlock ≠ some g ∧ lv.ownBlock ≠ some g ∧ g ≠ kb := fun g hg => by
    refine ⟨(hfr g hg).1, (hfr g hg).2, fun q => ?_, fun q => ?_⟩
    · rcases ho.out.2 with ⟨p, _⟩ | ⟨g2, cap, cur, p, _, p3, _⟩
      · rw [p] at hg; cases hg
      · rw [p] at hg; cases hg
        exact own_not hk.l.out p3 (by decide) q
    · subst q; exact own_not ho.out hk.box (by decide) hg
  obtain ⟨k0, _, k3⟩ := hk.kells
  obtain ⟨ma, mc, rfl, hmc, hmc2⟩ := own_slice hk.m.out
  obtain ⟨mb, hmb⟩ : ∃ mb, mb = ms.length := ⟨_, rfl⟩
  have HK : Hid _ := hk
  have HE : Hid _ := he
  have HO : Hid _ := ho
  have HFR : Hid _ := hfr2
  have HMB : Hid (mb = ms.length) := hmb
  have hmb9 : mb ≤ 900000 := by omega
  rw [← hmb] at k3 hmc
  clear hk he ho hfr hfr2 hmb
  go_enter Try.func19, Try.ntmps19
  go_wp2_with fail
  refine (fill_any w HO.out (by omega) mb (by omega)).mono ?_
  rintro e w1 ⟨rfl, O1, on1⟩
  obtain ⟨col1, c1, K1, F1, S1⟩ := HK.out.fresh O1 on1 HFR.out
  have HK1 : Hid _ := K1
  have HF1 : Hid _ := F1
  have HC1 : Hid _ := c1
  have HS1 : Hid _ := S1
  have HON : Hid _ := on1
  clear O1 on1 c1 K1 F1 S1
  go_wp2_with fail
  refine (hold_any w1 HK1.out (HE.out.mono HC1.out) HF1.out (by omega) (by omega) (by omega)).mono ?_
  rintro e w2 ⟨rfl, lv', mv', vs', ms', col', far', n', l1, l2, H2⟩
  have HH : Hid _ := H2
  clear H2
  go_wp2_with fail
  refine bodyPost_end (v := .tuple #[]) (by simp [results, Try.results19, go_sem]) rfl ⟨rfl, lv', mv', vs', ms', col', l1, HH.out.k, HH.out.e, ?_, fun k hk hf => ?_⟩
  · exact (HON.out.mono fun i _ q => Or.inr q).trans HH.out.on fun i _ q => HS1.out i q
  · exact HS1.out k (HH.out.sub k (by have := HON.out.size; omega) hf)
end Go.Proofs.Ytdoiblknbpbhaaa
