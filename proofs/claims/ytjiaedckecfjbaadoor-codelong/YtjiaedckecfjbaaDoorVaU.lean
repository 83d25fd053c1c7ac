import Derived.Test.YtjiaedckecfjbaaDoorVaT
import Derived.Test.YtjiaedckecfjbaaDoorVnN
set_option linter.unusedVariables false
set_option linter.unusedSimpArgs false
namespace Go.Proofs.YtjiaedckecfjbaaDoor
open Go.ChangeShapes Go.WideShapes Go.ChangeAt Go.RowKit Go.Maps

/-- A box of the call's own. -/
structure OneR (w : World) (A : Obj) (w' : World) : Prop where
  one : w'.heap[w.heap.size]? = some A
  low : Below w.heap.size w w'
theorem OneR.start (w : World) (A : Obj) : OneR w A (w.alloc A) := ⟨heap_alloc_new _ _, below_newR _ _⟩
theorem OneR.next {w A w' w''} (h : OneR w A w') (hb : Below w'.heap.size w' w'') : OneR w A w'' :=
  ⟨(hb.block _ (Array.getElem?_eq_some_iff.1 h.one).1).trans h.one, h.low.trans (hb.mono h.low.size)⟩
theorem OneR.lt {w A w'} (h : OneR w A w') : w.heap.size < w'.heap.size := (Array.getElem?_eq_some_iff.1 h.one).1
/-- The cells of a function in a list. -/
theorem fnr_at {w : World} {fa : Option Addr} {fc : Nat} {FS : List Rf} (h : StsG w fa fc 5 (FS.map rfv)) {k : Nat} (hk : k < FS.length) : ∃ b o, fa = some ⟨b, o, none⟩ ∧ b < w.heap.size ∧ w.cell? ⟨b, o + k * 5, none⟩ = some (.string FS[k].name) ∧ w.cell? ⟨b, o + k * 5 + 1, none⟩ = some (.int .i64 FS[k].fr) ∧ w.cell? ⟨b, o + k * 5 + 2, none⟩ = some (.int .i64 FS[k].fi) ∧ w.cell? ⟨b, o + k * 5 + 3, none⟩ = some (.int .i64 FS[k].ct) ∧ w.cell? ⟨b, o + k * 5 + 4, none⟩ = some (.int .i64 FS[k].pa) := by
  obtain ⟨b, o, e, hl, hq⟩ := h.at (j := k) (by simpa using hk)
  have eg : (FS.map rfv).getD k [] = rfv FS[k] := by simp [List.getD, hk]
  rw [eg] at hq
  exact ⟨b, o, e, hl, hq 0 _ rfl, hq 1 _ rfl, hq 2 _ rfl, hq 3 _ rfl, hq 4 _ rfl⟩
theorem ins_at {w : World} {ca : Option Addr} {cc : Nat} {C : List Ri} (h : StsG w ca cc 5 (C.map riv)) {k : Nat} (hk : k < C.length) : ∃ b o, ca = some ⟨b, o, none⟩ ∧ b < w.heap.size ∧ w.cell? ⟨b, o + k * 5, none⟩ = some (.int .i64 C[k].op) ∧ w.cell? ⟨b, o + k * 5 + 1, none⟩ = some (.int .i64 C[k].a) ∧ w.cell? ⟨b, o + k * 5 + 2, none⟩ = some (.int .i64 C[k].b) ∧ w.cell? ⟨b, o + k * 5 + 3, none⟩ = some (.int .i64 C[k].c) ∧ w.cell? ⟨b, o + k * 5 + 4, none⟩ = some (.int .i64 C[k].n) := by
  obtain ⟨b, o, e, hl, hq⟩ := h.at (j := k) (by simpa using hk)
  have eg : (C.map riv).getD k [] = riv C[k] := by simp [List.getD, hk]
  rw [eg] at hq
  exact ⟨b, o, e, hl, hq 0 _ rfl, hq 1 _ rfl, hq 2 _ rfl, hq 3 _ rfl, hq 4 _ rfl⟩
set_option maxRecDepth 100000 in
set_option maxHeartbeats 4000000 in
theorem isCutR (w : World) (ca : Option Addr) (cn cc : Nat) (fa : Option Addr) (fn fc : Nat) (m : Int) (FS : List Rf) (hfn : fn = FS.length) (hF : StsG w fa fc 5 (FS.map rfv)) (hlen : cn ≤ 1000000000) (hfl : fn ≤ 1000000) {T : Bool} (hT : cutF cn 0 FS = T) :
    Calls Tryd.prog 35 #[.agg #[.slice ca cn cc, .slice fa fn fc, .int .i64 m]] w fun e w' => e = .returned (.bool T) ∧ Below w.heap.size w w' := by
  subst hT
  obtain ⟨A, hA⟩ : ∃ A : Obj, A = .cells #[.slice ca cn cc, .slice fa fn fc, .int .i64 m] 25 := ⟨_, rfl⟩
  have HO0 : Hid (OneR w A (w.alloc A)) := OneR.start w A
  have HC : Hid (∀ W, OneR w A W → w.heap.size < W.heap.size ∧ W.cell? ⟨w.heap.size, 0, none⟩ = some (.slice ca cn cc) ∧ W.cell? ⟨w.heap.size, 1, none⟩ = some (.slice fa fn fc)) := fun W h => by
    have e := h.one
    rw [hA] at e
    exact ⟨h.lt, cell_arr e rfl, cell_arr e rfl⟩
  have HF : Hid (∀ W, OneR w A W → StsG W fa fc 5 (FS.map rfv)) := fun W h => hF.below h.low (Nat.le_refl _)
  have HN : Hid (fn = FS.length) := hfn
  have HT0 : Hid (cutF cn 0 FS = cutF cn 0 (FS.drop 0)) := rfl
  obtain ⟨T, hT⟩ : ∃ T, T = cutF cn 0 FS := ⟨_, rfl⟩
  rw [← hT] at HT0 ⊢
  obtain ⟨W, hW⟩ : ∃ W, W = w.alloc A := ⟨_, rfl⟩
  rw [← hW] at HO0
  obtain ⟨l1, c0, c1⟩ := HC.out W HO0.out
  clear hF hfn hT
  go_enter Tryd.func35, Tryd.ntmps35
  go_upto_region 1 with fail
  rw [← hA, ← hW]
  clear hW
  go_wp2_with fail
  go_loopw [3, 9] (fun nv kv wr => ∃ (k : Nat) (nx : Int), k ≤ fn ∧ kv = .int .i64 (k : Int) ∧ nv = .int .i64 nx ∧ (0 ≤ nx ∧ nx ≤ (cn : Int)) ∧ Hid (T = cutF cn nx (FS.drop k)) ∧ Hid (OneR w A wr)) (fun _ kv _ => fn - (intOf kv).toNat)
  case atStart => exact ⟨0, 0, by omega, rfl, rfl, by omega, HT0, HO0⟩
  case round =>
    clear HT0 HO0 l1 c0 c1
    obtain ⟨k, nx, hk, rfl, rfl, hnx, HT, HO⟩ := hrel
    obtain ⟨wq, rfl⟩ : ∃ wq, wq = wr := ⟨_, rfl⟩
    obtain ⟨l1, c0, c1⟩ := HC.out wq HO.out
    by_cases hlt : k < fn
    · have hk2 : k < FS.length := by have := HN.out; omega
      obtain ⟨b, o, rfl, hlb, q0, q1, q2, q3, q4⟩ := fnr_at (HF.out wq HO.out) hk2
      have HD : Hid (FS.drop k = FS[k] :: FS.drop (k + 1)) := List.drop_eq_getElem_cons hk2
      obtain ⟨f, hf⟩ : ∃ f, f = FS[k] := ⟨_, rfl⟩
      rw [← hf] at q0 q1 q2 q3 q4 HD
      have hkx : (k : Int) < (fn : Int) := by omega
      have hfx : fn ≤ 9223372036854775807 := by omega
      have hw1 : IntKind.i64.wrap ((cn : Int) - nx) = (cn : Int) - nx := by rw [IntKind.wrap_i64]; omega
      obtain ⟨W5, hW5⟩ : ∃ W5, W5 = wq.alloc (.cells #[.string f.name, .int .i64 f.fr, .int .i64 f.fi, .int .i64 f.ct, .int .i64 f.pa] 40) := ⟨_, rfl⟩
      have B5 : Below wq.heap.size wq W5 := by rw [hW5]; exact below_newR _ _
      have e5 : W5.heap[wq.heap.size]? = some (.cells #[.string f.name, .int .i64 f.fr, .int .i64 f.fi, .int .i64 f.ct, .int .i64 f.pa] 40 (0, 0)) := by rw [hW5]; exact heap_alloc_new _ _
      have r2 : W5.cell? ⟨wq.heap.size, 2, none⟩ = some (.int .i64 f.fi) := cell_arr e5 rfl
      have r3 : W5.cell? ⟨wq.heap.size, 3, none⟩ = some (.int .i64 f.ct) := cell_arr e5 rfl
      have l5 : wq.heap.size < W5.heap.size := (Array.getElem?_eq_some_iff.1 e5).1
      have HO5 : Hid (OneR w A W5) := HO.out.next B5
      obtain ⟨m1, d0, d1⟩ := HC.out W5 HO5.out
      obtain ⟨kb, hkb⟩ : ∃ kb, kb = wq.heap.size := ⟨_, rfl⟩
      rw [← hkb] at r2 r3 l5
      have HCU : Hid (cutF cn nx (FS.drop k) = (decide (f.fi = nx ∧ 1 ≤ f.ct ∧ f.ct ≤ (cn : Int) - nx) && cutF cn (nx + f.ct) (FS.drop (k + 1)))) := by
        show _ = _
        rw [HD.out]
        rfl
      clear hf B5 e5 HD
      have HWI : Hid (∀ W, Calls Tryd.prog 47 #[.int .i64 f.ct, .int .i64 1, .int .i64 ((cn : Int) - nx)] W fun e w' => e = .returned (.bool (decide (1 ≤ f.ct ∧ f.ct ≤ (cn : Int) - nx))) ∧ w' = W) := fun W => withinR W _ _ _ rfl
      generalize f.name = f0 at *
      generalize f.fr = f1 at *
      generalize f.fi = f2 at *
      generalize f.ct = f3 at *
      generalize f.pa = f4 at *
      by_cases h2 : f2 = nx
      · by_cases h3 : 1 ≤ f3 ∧ f3 ≤ (cn : Int) - nx
        · have HNX : Hid (T = cutF cn (nx + f3) (FS.drop (k + 1))) := by
            show _ = _
            rw [HT.out, HCU.out, decide_eq_true ⟨h2, h3⟩, Bool.true_and]
          rw [decide_eq_true h3] at HWI
          have z : (f2 != nx) = false := by simp [h2]
          have hw2 : IntKind.i64.wrap (nx + f3) = nx + f3 := by rw [IntKind.wrap_i64]; omega
          have hb3 : 0 ≤ nx + f3 ∧ nx + f3 ≤ (cn : Int) := by omega
          clear HCU HT h2 h3
          go_wp2_with fail
          rw [← hW5, ← hkb]
          clear hW5 hkb q0 q1 q2 q3 q4 c0 c1
          go_wp2_with (go_at_call 47; refine Calls.mono (HWI.out _) ?_; rintro e w1 ⟨rfl, rfl⟩)
          go_roundw
          case rel => exact ⟨k + 1, nx + f3, by omega, by go_num, rfl, hb3, HNX, HO5⟩
          case measure => simp [intOf]; omega
        · have HNX : Hid (T = false) := by
            show _ = _
            rw [HT.out, HCU.out, decide_eq_false (fun q => h3 q.2), Bool.false_and]
          rw [decide_eq_false h3] at HWI
          have z : (f2 != nx) = false := by simp [h2]
          clear HCU HT h2 h3
          go_wp2_with fail
          rw [← hW5, ← hkb]
          clear hW5 hkb q0 q1 q2 q3 q4 c0 c1
          go_wp2_with (go_at_call 47; refine Calls.mono (HWI.out _) ?_; rintro e w1 ⟨rfl, rfl⟩)
          go_ret
          exact ⟨by rw [HNX.out]; rfl, HO5.out.low⟩
      · have HNX : Hid (T = false) := by
          show _ = _
          rw [HT.out, HCU.out, decide_eq_false (fun q => h2 q.1), Bool.false_and]
        have z : (f2 != nx) = true := by simp [h2]
        clear HCU HT h2 HWI
        go_wp2_with fail
        rw [← hW5, ← hkb]
        clear hW5 hkb q0 q1 q2 q3 q4 c0 c1
        go_wp2_with fail
        go_ret
        exact ⟨by rw [HNX.out]; rfl, HO5.out.low⟩
    · have hkn : k = fn := by omega
      subst hkn
      have HNX : Hid (T = (nx == (cn : Int))) := by
        show _ = _
        rw [HT.out, List.drop_of_length_le (by have := HN.out; omega)]
        unfold cutF
        rw [Bool.eq_iff_iff]
        simp
      clear HT
      go_wp2_with fail
      go_ret
      exact ⟨by rw [HNX.out]; rfl, HO.out.low⟩
set_option maxRecDepth 100000 in
theorem mainFitsR (w : World) (ca : Option Addr) (cn cc : Nat) (fa : Option Addr) (fn fc : Nat) (m : Int) (FS : List Rf) (hfn : fn = FS.length) (hF : StsG w fa fc 5 (FS.map rfv)) (hfl : fn ≤ 1000000) {T : Bool} (hT : mainF FS m = T) :
    Calls Tryd.prog 38 #[.agg #[.slice ca cn cc, .slice fa fn fc, .int .i64 m]] w fun e w' => e = .returned (.bool T) ∧ Below w.heap.size w w' := by
  subst hT
  have hw1 : IntKind.i64.wrap ((fn : Int) - 1) = (fn : Int) - 1 := by rw [IntKind.wrap_i64]; omega
  have HB : Hid (Below w.heap.size w (w.alloc (.cells #[.slice ca cn cc, .slice fa fn fc, .int .i64 m] 25))) := below_newR _ _
  by_cases h : 0 ≤ m ∧ m ≤ (fn : Int) - 1
  · have HWI : Hid (∀ W, Calls Tryd.prog 47 #[.int .i64 m, .int .i64 0, .int .i64 ((fn : Int) - 1)] W fun e w' => e = .returned (.bool true) ∧ w' = W) := fun W => withinR W _ _ _ (decide_eq_true h)
    obtain ⟨j, rfl⟩ : ∃ j : Nat, m = (j : Int) := ⟨m.toNat, by omega⟩
    have hj : j < FS.length := by omega
    obtain ⟨b, o, rfl, hlb, q0, q1, q2, q3, q4⟩ := fnr_at hF hj
    have hji : (j : Int) < (fn : Int) := by omega
    have HE : Hid (mainF FS (j : Int) = (FS[j].pa == 0)) := by
      show _ = _
      unfold mainF
      rw [decide_eq_true (by omega), Bool.true_and, Bool.eq_iff_iff]
      simp [List.getD, hj]
    generalize FS[j].pa = x at *
    clear hF hfn q0 q1 q2 q3 h
    have hf6 : (fn : Int) ≤ 1000000 := by omega
    go_enter Tryd.func38, Tryd.ntmps38
    go_wp2_with (go_at_call 47; refine Calls.mono (HWI.out _) ?_; rintro e w1 ⟨rfl, rfl⟩)
    go_ret
    exact ⟨by rw [HE.out]; rfl, HB.out⟩
  · have HWI : Hid (∀ W, Calls Tryd.prog 47 #[.int .i64 m, .int .i64 0, .int .i64 ((fn : Int) - 1)] W fun e w' => e = .returned (.bool false) ∧ w' = W) := fun W => withinR W _ _ _ (decide_eq_false h)
    have HE : Hid (mainF FS m = false) := by
      show _ = _
      unfold mainF
      rw [decide_eq_false (by rw [← hfn]; exact h), Bool.false_and]
    clear hF hfn h
    go_enter Tryd.func38, Tryd.ntmps38
    go_wp2_with (go_at_call 47; refine Calls.mono (HWI.out _) ?_; rintro e w1 ⟨rfl, rfl⟩)
    go_ret
    exact ⟨by rw [HE.out]; rfl, HB.out⟩
end Go.Proofs.YtjiaedckecfjbaaDoor
