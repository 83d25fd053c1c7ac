import Derived.Test.YtdoiblknbpbhaaaMwJ
import Derived.Laws.IdiomCopy
set_option linter.unusedVariables false
set_option linter.unusedSimpArgs false
namespace Go.Proofs.Ytdoiblknbpbhaaa
open Go.ChangeShapes Go.WideShapes Go.ChangeAt Go.RowKit Go.Maps

/-- copy(x, l) of moves, x the beginning of a row that is known whole. -/
theorem run_copy_mvs {w : World} (ty : TypeId) (rg n c : Nat) (L0 l : List Mv) (la : Option Addr) (lc : Nat) (hn : n = l.length)
    (hg : w.heap[rg]? = some (.cells (mcs L0).toArray 36 (0, 0))) (hle : n ≤ L0.length) (hL : Mvs w la lc l) :
    ∃ w', (Builtin.copy_ #[22, 22] ty #[.slice (some ⟨rg, 0, none⟩) n c, .slice la n lc]).run Try.prog w = .ok (goInt n) w' ∧ w'.heap[rg]? = some (.cells (mcs (l ++ L0.drop n)).toArray 36 (0, 0)) ∧ Only (fun k => k = rg) w w' := by
  obtain ⟨i0, hi, hz0, hz1, hz2⟩ := info_parts info_mv
  have hcl : (mcs l).length = n * 4 := by rw [mcs_len, hn]
  by_cases h0 : l = []
  · subst h0
    have hn0 : n = 0 := by simpa using hn
    subst hn0
    have hl : ∀ (x : Addr), (loadCells x 0).run Try.prog w = .ok #[] w := fun x => by simpa using run_loadCells_list (P := Try.prog) w x [] (by simp)
    refine ⟨w, ?_, by simpa using hg, Only.refl _ _⟩
    cases la <;> simp [Builtin.copy_, run_underlying Try.underlying22, Builtin.lenOf, Builtin.firstCells, sizeOf, typeInfo, hi, hz1, storeCells, hl]
  · obtain ⟨g, o, rfl, hA⟩ := hL.out h0
    have hl := run_loadCells_list (P := Try.prog) w ⟨g, o, none⟩ (mcs l) hA.cells
    have hst := run_storeCells_at Try.prog rg 0 36 (mcs l) 0 (mcs L0).toArray w hg (by simp [mcs_len]; omega) (mcs_one_cell l)
    refine ⟨w.setRow rg (mcs (l ++ L0.drop n)).toArray, ?_, setRow_heap w rg _ _ _ _ hg, ⟨rfl, rfl, rfl, by simp [World.setRow], fun k hk hne => setRow_other w rg k _ hne⟩⟩
    have e : mcs (l ++ L0.drop n) = mcs l ++ (mcs L0).drop (n * 4) := by
      rw [mcs_app]
      congr 1
      have := mcs_app (L0.take n) (L0.drop n)
      rw [List.take_append_drop] at this
      rw [this, List.drop_left']
      rw [mcs_len]; simp; omega
    rw [hcl] at hl
    rw [e]
    simp [Builtin.copy_, run_underlying Try.underlying22, Builtin.lenOf, Builtin.firstCells, sizeOf, typeInfo, hi, hz1, hl, hst, hcl]
theorem mvs_pre {w : World} {rg c : Nat} {l R : List Mv} (h : w.heap[rg]? = some (.cells (mcs (l ++ R)).toArray 36 (0, 0))) (hf : ∀ m ∈ l, FitM m) (hc : l.length ≤ c) (hc2 : c ≤ 9223372036854775807) : Mvs w (some ⟨rg, 0, none⟩) c l := by
  refine ⟨hc, hc2, hf, fun _ => ⟨rg, 0, rfl, (Array.getElem?_eq_some_iff.1 h).1, fun i hi => ?_⟩⟩
  have e : (l ++ R)[i]'(by simp; omega) = l[i] := List.getElem_append_left hi
  obtain ⟨a0, a1, a2, a3⟩ := mcs_at (l ++ R) i (by simp; omega)
  rw [e] at a0 a1 a2 a3
  simp only [Nat.zero_add]
  exact ⟨cell_arr h (by simpa using a0), cell_arr h (by simpa using a1), cell_arr h (by simpa using a2), cell_arr h (by simpa using a3)⟩
/-- All that the statement's loop holds. -/
structure MA (w0 w : World) (B nb lb rg tb : Nat) (F G : Nat → Prop) (k : Nat) (t1 t2 : Int) : Prop where
  kn : KP false w B nb F k
  kl : KP true w B lb G k
  r : ∃ L0 : List Mv, L0.length = 60 ∧ w.heap[rg]? = some (.cells (mcs L0).toArray 36 (0, 0))
  t : w.heap[tb]? = some (.cells #[.int .i64 t1, .int .i64 t2] 24 (0, 0))
  fg : ∀ x, F x → ¬ G x
  fr : ¬ F rg ∧ ¬ G rg
  ft : ¬ F tb ∧ ¬ G tb
  bel : Below B w0 w
  lo : B ≤ rg
  rt : rg ≠ tb
theorem MA.keep {w0 w w' B nb lb rg tb F G k t1 t2} (h : MA w0 w B nb lb rg tb F G k t1 t2) (hB : B ≤ w.heap.size) (hb : Below w.heap.size w w') : MA w0 w' B nb lb rg tb F G k t1 t2 := by
  obtain ⟨L0, e, hr⟩ := h.r
  exact ⟨h.kn.move fun x hx => hb.block x (h.kn.lt hx).2, h.kl.move fun x hx => hb.block x (h.kl.lt hx).2, ⟨L0, e, (hb.block rg (Array.getElem?_eq_some_iff.1 hr).1).trans hr⟩, (hb.block tb (Array.getElem?_eq_some_iff.1 h.t).1).trans h.t, h.fg, h.fr, h.ft, h.bel.trans (hb.mono hB), h.lo, h.rt⟩
theorem MA.room {w0 w w' B nb lb rg tb F G k t1 t2} (h : MA w0 w B nb lb rg tb F G k t1 t2) (hB : B ≤ w.heap.size) (on : Only (fun k => k = rg) w w') {L : List Mv} (hl : L.length = 60) (hr : w'.heap[rg]? = some (.cells (mcs L).toArray 36 (0, 0))) : MA w0 w' B nb lb rg tb F G k t1 t2 :=
  ⟨h.kn.move fun x hx => on.block x (h.kn.lt hx).2 fun e => h.fr.1 (e ▸ hx), h.kl.move fun x hx => on.block x (h.kl.lt hx).2 fun e => h.fr.2 (e ▸ hx), ⟨L, hl, hr⟩, (on.block tb (Array.getElem?_eq_some_iff.1 h.t).1 fun e => h.rt e.symm).trans h.t, h.fg, h.fr, h.ft, h.bel.trans (on.below hB fun x q => by rw [q]; exact h.lo), h.lo, h.rt⟩
theorem MA.late {w0 w w' B nb lb rg tb F G k t1 t2 G'} {v : Value} (h : MA w0 w B nb lb rg tb F G k t1 t2) (hv : ∀ g, v.ownBlock = some g → B ≤ g ∧ ¬ F g ∧ ¬ G g ∧ g ≠ rg ∧ g ≠ tb) (hB : B ≤ w.heap.size)
    (h1 : KP true w' B lb G' (k + 1)) (on : Only (fun x => G x ∨ v.ownBlock = some x) w w') (sub : ∀ x, x < w.heap.size → G' x → G x ∨ v.ownBlock = some x) :
    KP false w' B nb F k ∧ (∃ L0 : List Mv, L0.length = 60 ∧ w'.heap[rg]? = some (.cells (mcs L0).toArray 36 (0, 0))) ∧ w'.heap[tb]? = some (.cells #[.int .i64 t1, .int .i64 t2] 24 (0, 0)) ∧ (∀ x, F x → ¬ G' x) ∧ ¬ G' rg ∧ ¬ G' tb ∧ Below B w0 w' := by
  obtain ⟨L0, e, hr⟩ := h.r
  have o : ∀ x, ¬ G x → (∀ g, v.ownBlock = some g → x ≠ g) → ¬ (G x ∨ v.ownBlock = some x) := fun x h1 h2 q => by
    rcases q with q | q
    · exact h1 q
    · exact h2 x q rfl
  have oF : ∀ x, F x → ¬ (G x ∨ v.ownBlock = some x) := fun x hx => o x (h.fg x hx) fun g hg e => (hv g hg).2.1 (e ▸ hx)
  have oR := o rg h.fr.2 fun g hg e => (hv g hg).2.2.2.1 e.symm
  have oT := o tb h.ft.2 fun g hg e => (hv g hg).2.2.2.2 e.symm
  refine ⟨h.kn.move fun x hx => on.block x (h.kn.lt hx).2 (oF x hx), ⟨L0, e, (on.block rg (Array.getElem?_eq_some_iff.1 hr).1 oR).trans hr⟩, (on.block tb (Array.getElem?_eq_some_iff.1 h.t).1 oT).trans h.t, fun x hx q => oF x hx (sub x (h.kn.lt hx).2 q), fun q => oR (sub rg (Array.getElem?_eq_some_iff.1 hr).1 q), fun q => oT (sub tb (Array.getElem?_eq_some_iff.1 h.t).1 q), h.bel.trans (on.below hB fun x q => ?_)⟩
  rcases q with q | q
  · exact (h.kl.lt q).1
  · exact (hv x q).1
theorem MA.now {w0 w w' B nb lb rg tb F G k t1 t2 F'} {v : Value} (hkn : KP false w B nb F k) (hkl : KP true w B lb G (k + 1)) (hr : ∃ L0 : List Mv, L0.length = 60 ∧ w.heap[rg]? = some (.cells (mcs L0).toArray 36 (0, 0))) (ht : w.heap[tb]? = some (.cells #[.int .i64 t1, .int .i64 t2] 24 (0, 0)))
    (hfg : ∀ x, F x → ¬ G x) (hrf : ¬ F rg ∧ ¬ G rg) (htf : ¬ F tb ∧ ¬ G tb) (bel : Below B w0 w) (lo : B ≤ rg) (rt : rg ≠ tb) (hv : ∀ g, v.ownBlock = some g → B ≤ g ∧ ¬ F g ∧ ¬ G g ∧ g ≠ rg ∧ g ≠ tb) (hB : B ≤ w.heap.size)
    (h1 : KP false w' B nb F' (k + 1)) (on : Only (fun x => F x ∨ v.ownBlock = some x) w w') (sub : ∀ x, x < w.heap.size → F' x → F x ∨ v.ownBlock = some x) : MA w0 w' B nb lb rg tb F' G (k + 1) t1 t2 := by
  obtain ⟨L0, e, hr⟩ := hr
  have o : ∀ x, ¬ F x → (∀ g, v.ownBlock = some g → x ≠ g) → ¬ (F x ∨ v.ownBlock = some x) := fun x h1 h2 q => by
    rcases q with q | q
    · exact h1 q
    · exact h2 x q rfl
  have oG : ∀ x, G x → ¬ (F x ∨ v.ownBlock = some x) := fun x hx => o x (fun q => hfg x q hx) fun g hg e => (hv g hg).2.2.1 (e ▸ hx)
  have oR := o rg hrf.1 fun g hg e => (hv g hg).2.2.2.1 e.symm
  have oT := o tb htf.1 fun g hg e => (hv g hg).2.2.2.2 e.symm
  refine ⟨h1, hkl.move fun x hx => on.block x (hkl.lt hx).2 (oG x hx), ⟨L0, e, (on.block rg (Array.getElem?_eq_some_iff.1 hr).1 oR).trans hr⟩, (on.block tb (Array.getElem?_eq_some_iff.1 ht).1 oT).trans ht, fun x hx hg => oG x hg (sub x (hkl.lt hg).2 hx), ⟨fun q => oR (sub rg (Array.getElem?_eq_some_iff.1 hr).1 q), hrf.2⟩, ⟨fun q => oT (sub tb (Array.getElem?_eq_some_iff.1 ht).1 q), htf.2⟩, bel.trans (on.below hB fun x q => ?_), lo, rt⟩
  rcases q with q | q
  · exact (hkn.lt q).1
  · exact (hv x q).1
/-- Hidden from the walk. -/
structure KPH (late : Bool) (w : World) (B kb : Nat) (F : Nat → Prop) (n : Nat) : Prop where
  out : KP late w B kb F n
/-- Many lists of moves. -/
structure MM (w : World) (ao : Option Addr) (cap : Nat) (Ls : List (List Mv)) : Prop where
  le : Ls.length ≤ cap
  mx : cap ≤ 9223372036854775807
  out : Ls ≠ [] → ∃ b o, ao = some ⟨b, o, none⟩ ∧ b < w.heap.size ∧ ∀ i (h : i < Ls.length), ∃ a' c', w.cell? ⟨b, o + i, none⟩ = some (.slice a' Ls[i].length c') ∧ Mvs w a' c' Ls[i]
theorem MM.at {w ao cap Ls} (h : MM w ao cap Ls) {i : Nat} (hi : i < Ls.length) : ∃ b o a' c', ao = some ⟨b, o, none⟩ ∧ b < w.heap.size ∧ w.cell? ⟨b, o + i, none⟩ = some (.slice a' Ls[i].length c') ∧ Mvs w a' c' Ls[i] := by
  obtain ⟨b, o, e, hb, hA⟩ := h.out (by intro e; rw [e] at hi; simp at hi)
  obtain ⟨a', c', h1, h2⟩ := hA i hi
  exact ⟨b, o, a', c', e, hb, h1, h2⟩
theorem ds_out (t : Lc) (s : List Mv × List Mv) : (ds t s).2.length ≤ s.2.length + 1 := by
  unfold ds
  split
  · omega
  · split <;> simp
theorem dn_out (t : Lc) : ∀ (n : Nat) (s : List Mv × List Mv), (dn t n s).2.length ≤ s.2.length + n
  | 0, s => by simp [dn]
  | n + 1, s => by
    have h1 := dn_out t n (ds t s)
    have h2 := ds_out t s
    rw [dn]
    omega
theorem ansP_le (t : Lc) (l : List Mv) (h : l.length ≤ 60) : (ansP t l).length ≤ 1000000 := by
  unfold ansP
  have h1 := dn_out t (3 * (lft l).length) (lft l, [])
  have h2 : (lft l).length ≤ l.length := List.length_filter_le _ _
  have h3 : (ord t l).length ≤ 180 := by
    unfold ord
    simp only [List.length_nil] at h1
    omega
  split
  · split
    · omega
    · simp
  · simp
end Go.Proofs.Ytdoiblknbpbhaaa
