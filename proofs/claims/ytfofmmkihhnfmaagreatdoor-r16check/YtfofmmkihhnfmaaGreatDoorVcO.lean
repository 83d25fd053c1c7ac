import Derived.Test.YtfofmmkihhnfmaaGreatDoorVcM
set_option linter.unusedVariables false
set_option linter.unusedSimpArgs false
namespace Go.Proofs.YtfofmmkihhnfmaaGreatDoor
open Go.ChangeShapes Go.WideShapes Go.ChangeAt Go.RowKit Go.Maps

/-- A run that can be gone on with from here. -/
theorem StR.base {s d w0 w R} (h : StR s d w0 w R) : ∃ d1, StR s d1 w w R ∧ (∀ k, footR s d1 k → footR s d k ∨ w0.heap.size ≤ k) := by
  obtain ⟨d1, h1, h2, h3⟩ := h.out
  exact ⟨d1, ⟨d1, h1, h2, FooR.refl _ _ _⟩, h3.new⟩
theorem evs_none {w w' : World} {ao : Option Addr} {c : Nat} (h : Evs w ao c []) : Evs w' ao c [] := ⟨h.le, h.mx, h.nil, fun q => absurd rfl q⟩
/-- What a machine of R16Errors answers. -/
structure ErM (wN : World) (mp : Value) (Bn : Nat) (a1 a2 a6 b2 b4 b6 : Int) : Prop where
  out : ∀ W, Below wN.heap.size wN W → Calls Tryz.prog 40 #[mp] W fun e w' => ∃ ao c, e = .returned (.agg #[.slice ao 0 c, .int .i64 a1, .int .i64 a2, .int .i64 0, .int .i64 0, .int .i64 0, .int .i64 a6]) ∧ Evs w' ao c [] ∧ Below W.heap.size W w'
  bad : ∀ W, Below wN.heap.size wN W → Calls Tryz.prog 11 #[mp, .int .i64 1099511627777] W fun e w' => e = .returned (.tuple #[.agg #[.slice none 0 0, .int .i64 0, .int .i64 0, .int .i64 0, .int .i64 0, .int .i64 0, .int .i64 0], .int .i64 3]) ∧ Below W.heap.size W w'
  run : ∀ W, Below wN.heap.size wN W → Calls Tryz.prog 11 #[mp, .int .i64 1099511627776] W fun e w' => ∃ ao c, e = .returned (.tuple #[.agg #[.slice ao 0 c, .int .i64 2, .int .i64 b2, .int .i64 0, .int .i64 b4, .int .i64 0, .int .i64 b6], .int .i64 0]) ∧ Evs w' ao c [] ∧ Below Bn W w' ∧ ∀ (k : Nat) (A : Array Value), W.heap[k]? = some (Obj.cells A 38 (0, 0)) → w'.heap[k]? = W.heap[k]?
theorem erM_small {s d wN} {n : Nat} {S : Int} (hS : S < 3) (h : StR s d wN wN ((Rv.zero (List.replicate n 0)).call S ⟨⟨#[109, 97, 105, 110]⟩, 3, 0, 8, 0⟩ (-1))) (Bn : Nat) (hB : Bn ≤ wN.heap.size) : ErM wN (.pointer (some ⟨s.mb, 0, none⟩)) Bn 2 7 0 7 0 0 := by
  have e := er_small S (List.replicate n 0) hS
  generalize (Rv.zero (List.replicate n 0)).call S ⟨⟨#[109, 97, 105, 110]⟩, 3, 0, 8, 0⟩ (-1) = R at *
  simp only [Prod.mk.injEq] at e
  obtain ⟨e1, e2, e3, e4, e5, e6, e7, e8⟩ := e
  obtain ⟨d1, _, ho, _⟩ := h.out
  refine ⟨fun W bW => ?_, fun W bW => mRunR_bad W (by have := ho.lt; have := bW.size; omega) _ (Or.inr (by omega)), fun W bW => ?_⟩
  · refine (mOutcomeR_any (ho.below bW)).mono ?_
    rintro e w' ⟨v, rfl, hRow, hb⟩
    obtain ⟨ao, c, rfl, hE⟩ := evs_of hRow
    rw [e2] at hE
    refine ⟨ao, c, ?_, hE, hb⟩
    unfold otvR
    rw [e2, e3, e4, e5, e6, e7, e8]
    rfl
  · refine (mRunR_over (ho.below bW) e1 (fuel := 1099511627776) (by omega)).mono ?_
    rintro e w' ⟨v, B, rfl, hRow, hB2, hb⟩
    obtain ⟨ao, c, rfl, hE⟩ := evs_of hRow
    rw [e2] at hE
    refine ⟨ao, c, ?_, hE, hb.mono (by have := bW.size; omega), fun k A hk => hb.block k (Array.getElem?_eq_some_iff.1 hk).1⟩
    unfold otvR
    rw [e2, e3, e4, e5, e6, e7, e8]
    rfl
theorem erM_great {s d wN} {n : Nat} {S r : Int} (hn : 1 ≤ n) (hS : ¬ S < 3) (hC : s.C = smC) (hF : s.FS = smF) (hs : s.S = S) (hr : s.room = r) (h : StR s d wN wN ((Rv.zero (List.replicate n 0)).call S ⟨⟨#[109, 97, 105, 110]⟩, 3, 0, 8, 0⟩ (-1))) (hP : PgR s) (hR : RI s 0 ((Rv.zero (List.replicate n 0)).call S ⟨⟨#[109, 97, 105, 110]⟩, 3, 0, 8, 0⟩ (-1))) (Bn : Nat) (hB : Bn ≤ wN.heap.size) (hft : ∀ k, footR s d k → Bn ≤ k) : ErM wN (.pointer (some ⟨s.mb, 0, none⟩)) Bn 0 0 1 1 2 1 := by
  obtain ⟨n', rfl⟩ : ∃ n', n = n' + 1 := ⟨n - 1, by omega⟩
  have e := er_first S (List.replicate (n' + 1) 0) hS
  have g := er_ends S r (List.replicate n' 0) hS
  rw [← List.replicate_succ] at g
  generalize (Rv.zero (List.replicate (n' + 1) 0)).call S ⟨⟨#[109, 97, 105, 110]⟩, 3, 0, 8, 0⟩ (-1) = R at *
  obtain ⟨RF, hRF⟩ : ∃ RF, smG smC smF S r 2 R = RF := ⟨_, rfl⟩
  rw [hRF] at g
  simp only [Prod.mk.injEq] at e g
  obtain ⟨e1, e2, e3, e4, e5, e6, e7, e8⟩ := e
  obtain ⟨g1, g2, g3, g4, g5, g6, g7, g8⟩ := g
  obtain ⟨d1, hm, ho, hf⟩ := h.out
  refine ⟨fun W bW => ?_, fun W bW => mRunR_bad W (by have := ho.lt; have := bW.size; omega) _ (Or.inr (by omega)), fun W bW => ?_⟩
  · refine (mOutcomeR_any (ho.below bW)).mono ?_
    rintro e w' ⟨v, rfl, hRow, hb⟩
    obtain ⟨ao, c, rfl, hE⟩ := evs_of hRow
    rw [e2] at hE
    refine ⟨ao, c, ?_, hE, hb⟩
    unfold otvR
    rw [e2, e3, e4, e5, e6, e7, e8]
    rfl
  · have hmW := (hm e1).below bW
    have hst : StR s d1 W W R := ⟨d1, fun _ => hmW, ho.below bW, FooR.refl _ _ _⟩
    refine (mRunR_st hst hP hR (K := 2) (fuel := 1099511627776) (by omega) (by omega) (Or.inr ⟨by omega, by rw [hC, hF, hs, hr, hRF]; exact g1⟩) (RF := RF) (by rw [hC, hF, hs, hr, hRF])).mono ?_
    rintro e w' ⟨ao, c, B, rfl, hs2, _, hB2, hRow⟩
    obtain ⟨d2, _, _, f2⟩ := hs2.out
    obtain ⟨ao', c', ee, hE⟩ := evs_of hRow
    cases ee
    rw [g2] at hE
    have sz := bW.size
    refine ⟨ao, c, ?_, hE, f2.only.below (by omega) (fun k hk => ?_), fun k A hk => f2.only.block k (Array.getElem?_eq_some_iff.1 hk).1 (hmW.not_foot hk)⟩
    · rw [g2, g3, g4, g5, g6, g7, g8]
      rfl
    · rcases hf.new k hk with q | q
      · exact hft k q
      · omega
/-- New of the sample, with an input of zeros. -/
theorem er_new (w0 W : World) (hTab : Tab w0) {L g n : Nat} (h : SmL w0 W L) (hg : W.heap[g]? = some (.cells (ivs (List.replicate n (0 : Int))).toArray 3 (0, 0))) (hn : 1 ≤ n ∧ n ≤ 1048577) {m S r k : Int} (hk : newErr smC smF m n S r = k) :
    Calls Tryz.prog 9 #[.agg #[.slice (some ⟨L + 1, 0, none⟩) 8 8, .slice (some ⟨L + 2, 0, none⟩) 1 1, .int .i64 m], .slice (some ⟨g, 0, none⟩) n n, .agg #[.int .i64 S, .int .i64 r]] W fun e w' => ∃ mp, e = .returned (.tuple #[mp, .int .i64 k]) ∧ Below W.heap.size W w' ∧ ((¬ k = 0 ∧ mp = .pointer none) ∨ (k = 0 ∧ (S < 3 → ErM w' mp W.heap.size 2 7 0 7 0 0) ∧ (¬ S < 3 → ErM w' mp W.heap.size 0 0 1 1 2 1) ∧ ∃ mb, mp = .pointer (some ⟨mb, 0, none⟩))) := by
  have hT := hTab.below h.low hTab.1
  by_cases hk0 : k = 0
  · have hI := ints_exactA hg (by simp; omega)
    rw [List.length_replicate] at hI
    refine (newR_go W hT (some ⟨L + 1, 0, none⟩) 8 8 (some ⟨L + 2, 0, none⟩) 1 1 m smC smF rfl rfl h.ins h.fns (by decide) (by decide) sm_num (some ⟨g, 0, none⟩) n n (List.replicate n 0) (by simp) hI (fun x hx => by have := List.eq_of_mem_replicate hx; subst this; unfold Fits; omega) S r (by rw [hk, hk0])).mono ?_
    rintro e w' ⟨s, d, W9, k1, f, rfl, ⟨rfl, hf⟩, ⟨e1, e2, e3, e4⟩, hP, hR, b9, hS, hft, hst⟩
    have hk1 : k1 = 0 := by
      have := (List.getElem?_eq_some_iff.1 hf).1
      have : k1 < 1 := this
      omega
    subst hk1
    have ef : f = ⟨⟨#[109, 97, 105, 110]⟩, 3, 0, 8, 0⟩ := by
      have : smF[0]? = some f := hf
      simpa [smF] using this.symm
    subst ef
    obtain ⟨d1, hb, hft1⟩ := hS.base
    have sz := b9.size
    have hff : ∀ j, footR s d1 j → W.heap.size ≤ j := fun j hj => by
      rcases hft1 j hj with q | q
      · exact hft j q
      · omega
    obtain ⟨_, _, _, f3⟩ := hS.out
    have sz2 := f3.only.size
    refine ⟨_, by rw [hk0], b9.trans (f3.only.below b9.size hft), Or.inr ⟨hk0, fun q => erM_small q hb _ (by omega), fun q => erM_great hn.1 q e1 e2 e3 e4 hb hP hR _ (by omega) hff, s.mb, rfl⟩⟩
  · refine (newR_bad W hT (some ⟨L + 1, 0, none⟩) 8 8 (some ⟨L + 2, 0, none⟩) 1 1 m smC smF rfl rfl h.ins h.fns (by decide) (by decide) (some ⟨g, 0, none⟩) n n (by omega) S r k hk hk0).mono ?_
    rintro e w' ⟨rfl, hb⟩
    exact ⟨_, rfl, hb, Or.inl ⟨hk0, rfl⟩⟩
end Go.Proofs.YtfofmmkihhnfmaaGreatDoor
