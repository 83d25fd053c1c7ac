import Derived.Test.YtdoiblknbpbhaaaMwI
set_option linter.unusedVariables false
set_option linter.unusedSimpArgs false
namespace Go.Proofs.Ytdoiblknbpbhaaa
open Go.ChangeShapes Go.WideShapes Go.ChangeAt Go.RowKit Go.Maps

/-- A keep of numbers, in either mode: F its blocks, n how many lists were put. -/
def KP (late : Bool) (w : World) (B kb : Nat) (F : Nat → Prop) (n : Nat) : Prop :=
  (late = false ∧ ∃ lv mv vs ms col, KL w B kb lv mv vs ms col ∧ KE vs ms col ∧ F = KF kb lv mv col ∧ ms.length ≤ 41 * n) ∨
  (late = true ∧ ∃ lv wv vs us Ts, KW w B kb lv wv vs us Ts ∧ F = WFp kb lv wv vs us ∧ Ts.length ≤ n ∧ ∀ l ∈ Ts, l.length ≤ 1000000)
theorem getD_of_mem {vs : List Value} {x : Value} (h : x ∈ vs) : ∃ i, i < vs.length ∧ vs.getD i vn0 = x := by
  obtain ⟨i, hi, e⟩ := List.getElem_of_mem h
  exact ⟨i, hi, by rw [← e]; simp [hi]⟩
theorem KP.lt {late w B kb F n} (h : KP late w B kb F n) {k : Nat} (hk : F k) : B ≤ k ∧ k < w.heap.size := by
  rcases h with ⟨_, lv, mv, vs, ms, col, h1, h2, rfl, _⟩ | ⟨_, lv, wv, vs, us, Ts, h1, rfl, _, _⟩
  · rcases hk with q | q | q | q
    · have := h1.lo; have := h1.nes.1; omega
    · exact own_block h1.l.out q
    · exact own_block h1.m.out q
    · have := h1.c.lt q; exact ⟨this.1, this.2.1⟩
  · rcases hk with q | q | q | ⟨x, hx, q⟩ | ⟨x, hx, q⟩
    · have := h1.lo; have := (Array.getElem?_eq_some_iff.1 h1.box).1; omega
    · exact own_block h1.l.out q
    · exact own_block h1.wl.out q
    · obtain ⟨i, hi, e⟩ := getD_of_mem hx
      exact own_block (h1.p.own i hi).out (by rw [e]; exact q)
    · obtain ⟨i, hi, e⟩ := getD_of_mem hx
      exact own_block (h1.u i hi).out (by rw [e]; exact q)
theorem KP.move {late w w' B kb F n} (h : KP late w B kb F n) (hk : ∀ k, F k → w'.heap[k]? = w.heap[k]?) : KP late w' B kb F n := by
  rcases h with ⟨e, lv, mv, vs, ms, col, h1, h2, rfl, h4⟩ | ⟨e, lv, wv, vs, us, Ts, h1, rfl, h3, h4⟩
  · refine .inl ⟨e, lv, mv, vs, ms, col, ⟨(hk kb (.inl rfl)).trans h1.box, h1.lo, h1.l.move fun g hg => hk g (.inr (.inl hg)), ⟨h1.m.len, own_move h1.m.out fun g hg => hk g (.inr (.inr (.inl hg)))⟩, h1.c.move fun g hg => hk g (.inr (.inr (.inr hg))), h1.ap⟩, h2, rfl, h4⟩
  · refine .inr ⟨e, lv, wv, vs, us, Ts, ⟨(hk kb (.inl rfl)).trans h1.box, h1.lo, h1.l.move fun g hg => hk g (.inr (.inl hg)), h1.wl.move fun g hg => hk g (.inr (.inr (.inl hg))), h1.p.move fun i hi g hg => hk g (.inr (.inr (.inr (.inl ⟨_, getD_mem' hi, hg⟩)))), h1.lu, fun i hi => (h1.u i hi).move (fun g hg => hk g (.inr (.inr (.inr (.inr ⟨_, getD_mem' hi, hg⟩))))), h1.lw⟩, rfl, h3, h4⟩
theorem row_any (w : World) {late B kb F n v len T} (h : KP late w B kb F n) (ho : OwnM w B v len T) (hv : ∀ g, v.ownBlock = some g → ¬ F g) (hlen : len ≤ 1000000) (hn : n ≤ 900) :
    Calls Try.prog 19 #[.pointer (some ⟨kb, 0, none⟩), v] w fun e w' => e = .returned (.tuple #[]) ∧ ∃ F', KP late w' B kb F' (n + 1) ∧ Only (fun k => F k ∨ v.ownBlock = some k) w w' ∧ ∀ k, k < w.heap.size → F' k → F k ∨ v.ownBlock = some k := by
  rcases h with ⟨e, lv, mv, vs, ms, col, h1, h2, rfl, h4⟩ | ⟨e, lv, wv, vs, us, Ts, h1, rfl, h3, h4⟩
  · refine (row_now w h1 h2 ho (fun g hg => ⟨?_, fun q => hv g hg (.inr (.inr (.inl q)))⟩) hlen (by omega)).mono ?_
    · cases hc : col g with
      | none => rfl
      | some p => exact absurd (.inr (.inr (.inr (by rw [hc]; rfl)))) (hv g hg)
    · rintro e' w' ⟨rfl, lv', mv', vs', ms', col', l1, K1, E1, O1, S1⟩
      exact ⟨rfl, _, .inl ⟨e, lv', mv', vs', ms', col', K1, E1, rfl, by omega⟩, O1, S1⟩
  · refine (row_late w h1 ho hv hlen (by omega)).mono ?_
    rintro e' w' ⟨rfl, lv', wv', u, K1, O1, S1⟩
    refine ⟨rfl, _, .inr ⟨e, lv', wv', _, _, _, K1, rfl, by simp; omega, fun l hl => ?_⟩, O1, S1⟩
    simp at hl
    rcases hl with q | q
    · exact h4 l q
    · rw [q, ← ho.len]; exact hlen
theorem whole_any (w : World) {late B kb F n} (h : KP late w B kb F n) (hn : n ≤ 1000) :
    Calls Try.prog 20 #[.pointer (some ⟨kb, 0, none⟩)] w fun e w' => e = .returned (.bool true) ∧ Below B w w' := by
  rcases h with ⟨e, lv, mv, vs, ms, col, h1, h2, rfl, h4⟩ | ⟨e, lv, wv, vs, us, Ts, h1, rfl, h3, h4⟩
  · refine (whole_now w h1 h2 (by omega)).mono ?_
    rintro e' w' ⟨rfl, b⟩
    exact ⟨rfl, b.mono (by have := h1.lo; have := h1.nes.1; omega)⟩
  · exact whole_late w h1 (by omega) h4
end Go.Proofs.Ytdoiblknbpbhaaa
