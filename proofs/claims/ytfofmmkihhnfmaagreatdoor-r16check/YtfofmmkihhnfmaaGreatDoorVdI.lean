import Derived.Test.YtfofmmkihhnfmaaGreatDoorVdH
set_option linter.unusedVariables false
set_option linter.unusedSimpArgs false
namespace Go.Proofs.YtfofmmkihhnfmaaGreatDoor
open Go.ChangeShapes Go.WideShapes Go.ChangeAt Go.RowKit Go.Maps

/-- Its blocks lie in the memory that there is. -/
theorem MS.cap {s w R X} (h : MS s w R X) : MS s w R (fun k => X k ∧ k < w.heap.size) := by
  refine ⟨fun q => ?_, ?_⟩
  · obtain ⟨d, h1, h2, h3⟩ := h.run q
    refine ⟨d, h1, h2, fun k hk => ⟨h3 k hk, ?_⟩⟩
    rcases hk with hk | hk
    · exact h1.foot_lt k hk
    · have z := h1.rest.hi
      have z2 := z.2.2.2.2 k hk
      omega
  · obtain ⟨ve, h1, h2, h3⟩ := h.ov
    exact ⟨ve, h1, ⟨h2, h1.lt⟩, fun k hk => ⟨h3 k hk, (own_block h1.ev.out hk).2⟩⟩
/-- New makes one. -/
theorem MS.new (w : World) (hTab : Tab w) (ca : Option Addr) (cn cc : Nat) (fa : Option Addr) (fn fc : Nat) (m : Int) (C : List Ri) (FS : List Rf) (hcn : cn = C.length) (hfn : fn = FS.length) (hC : StsG w ca cc 5 (C.map riv)) (hF : StsG w fa fc 5 (FS.map rfv)) (hlen : cn ≤ 10000000) (hfl : fn ≤ 1000000) (hnum : ∀ x ∈ C, Fits x.n) (ia : Option Addr) (n ic : Nat) (I : List Int) (hin : n = I.length) (hI : Ints w ia ic I) (hIf : ∀ x ∈ I, Fits x) (S r : Int) (hk : newErr C FS m n S r = 0) {f : Rf} (hf : FS[m.toNat]? = some f) :
    Calls Tryz.prog 9 #[.agg #[.slice ca cn cc, .slice fa fn fc, .int .i64 m], .slice ia n ic, .agg #[.int .i64 S, .int .i64 r]] w fun e w' => ∃ s, e = .returned (.tuple #[.pointer (some ⟨s.mb, 0, none⟩), .int .i64 0]) ∧ (s.C = C ∧ s.FS = FS ∧ s.S = S ∧ s.room = r) ∧ PgR s ∧ RI s 0 ((Rv.zero I).call S f (-1)) ∧ MS s w' ((Rv.zero I).call S f (-1)) (fun k => w.heap.size ≤ k ∧ k < w'.heap.size) ∧ Below w.heap.size w w' := by
  refine (newR_go w hTab ca cn cc fa fn fc m C FS hcn hfn hC hF hlen hfl hnum ia n ic I hin hI hIf S r hk).mono ?_
  rintro e w' ⟨s, d, W9, k, f', rfl, ⟨rfl, hf'⟩, he, hP, hR, b9, hSt, hft, hst⟩
  rw [Int.toNat_natCast, hf'] at hf
  cases hf
  obtain ⟨d1, h1, h2, f1⟩ := hSt.out
  have sz := b9.size
  have hX : ∀ j, footR s d1 j → w.heap.size ≤ j := fun j hj => (f1.new j hj).elim (hft j) (fun q => by omega)
  have hM : MS s w' _ (fun k => w.heap.size ≤ k) := ⟨fun q => ⟨d1, h1 q, h2, fun j hj => hj.elim (hX j) (hst j)⟩, d1.ve, h2, hX _ (Or.inl rfl), fun j hj => hX _ (Or.inr (Or.inr (Or.inr hj)))⟩
  exact ⟨s, rfl, he, hP, hR, hM.cap, b9.trans (f1.only.below b9.size hft)⟩
end Go.Proofs.YtfofmmkihhnfmaaGreatDoor
