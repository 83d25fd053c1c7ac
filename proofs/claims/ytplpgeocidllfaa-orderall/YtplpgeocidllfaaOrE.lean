import Derived.Test.YtplpgeocidllfaaOrD
set_option linter.unusedVariables false
set_option linter.unusedSimpArgs false
namespace Go.Proofs.Ytplpgeocidllfaa
open Go.ChangeShapes Go.WideShapes Go.ChangeAt Go.RowKit Go.Maps

/-- The memory of a visit: the boxes of to, way and visited, the row of visited, the way. -/
structure OM (w : World) (B tb yb gv vb : Nat) (ao : Option Addr) (n c : Nat) (vis : List Int) (way : List (Int × Nat)) (vw : Value) : Prop where
  tx : w.heap[tb]? = some (.cells #[.slice ao n c] 22 (0, 0))
  wy : w.heap[yb]? = some (.cells #[vw] 39 (0, 0))
  vs : MR w gv n vis
  vx : w.heap[vb]? = some (.cells #[.slice (some ⟨gv, 0, none⟩) n n] 32 (0, 0))
  st : OwnS w B vw way
theorem OM.apart {w B tb yb gv vb ao n c vis way vw} (H : OM w B tb yb gv vb ao n c vis way vw) : tb ≠ yb ∧ tb ≠ gv ∧ tb ≠ vb ∧ yb ≠ gv ∧ yb ≠ vb ∧ gv ≠ vb ∧ vw.ownBlock ≠ some tb ∧ vw.ownBlock ≠ some yb ∧ vw.ownBlock ≠ some gv ∧ vw.ownBlock ≠ some vb := by
  have e1 := H.tx
  have e2 := H.wy
  have e3 := H.vs
  have e4 := H.vx
  unfold MR at e3
  refine ⟨?_, ?_, ?_, ?_, ?_, ?_, own_not H.st.out e1 (by decide), own_not H.st.out e2 (by decide), own_not H.st.out e3 (by decide), own_not H.st.out e4 (by decide)⟩
  · rintro rfl; rw [e1] at e2; simp at e2
  · rintro rfl; rw [e1] at e3; simp at e3
  · rintro rfl; rw [e1] at e4; simp at e4
  · rintro rfl; rw [e2] at e3; simp at e3
  · rintro rfl; rw [e2] at e4; simp at e4
  · rintro rfl; rw [e3] at e4; simp at e4
/-- Its blocks. -/
def OF (tb yb gv vb : Nat) (vw : Value) (k : Nat) : Prop := k = tb ∨ k = yb ∨ k = gv ∨ k = vb ∨ vw.ownBlock = some k
/-- Those that a visit turns. -/
def OV (yb gv : Nat) (vw : Value) (k : Nat) : Prop := k = yb ∨ k = gv ∨ vw.ownBlock = some k
theorem OM.move {w w' : World} {B tb yb gv vb ao n c vis way vw} (H : OM w B tb yb gv vb ao n c vis way vw) (hk : ∀ k, OF tb yb gv vb vw k → w'.heap[k]? = w.heap[k]?) : OM w' B tb yb gv vb ao n c vis way vw :=
  ⟨(hk tb (.inl rfl)).trans H.tx, (hk yb (.inr (.inl rfl))).trans H.wy, (hk gv (.inr (.inr (.inl rfl)))).trans H.vs, (hk vb (.inr (.inr (.inr (.inl rfl))))).trans H.vx, H.st.move fun g hg => hk g (.inr (.inr (.inr (.inr hg))))⟩
theorem OM.lt {w B tb yb gv vb ao n c vis way vw} (H : OM w B tb yb gv vb ao n c vis way vw) : ∀ k, OF tb yb gv vb vw k → k < w.heap.size := by
  rintro k (rfl | rfl | rfl | rfl | h)
  · exact (Array.getElem?_eq_some_iff.1 H.tx).1
  · exact (Array.getElem?_eq_some_iff.1 H.wy).1
  · have := H.vs; unfold MR at this; exact (Array.getElem?_eq_some_iff.1 this).1
  · exact (Array.getElem?_eq_some_iff.1 H.vx).1
  · exact (own_block H.st.out h).2
theorem OM.push {w W1 w7 : World} {B tb yb gv vb ao n c vis way vw} (H : OM w B tb yb gv vb ao n c vis way vw) {b m : Nat} {v7 : Value}
    (hW : Below W1.heap.size W1 w7 ∨ True) (h1 : W1.heap.size = w.heap.size + 1) (h2 : ∀ k, k < w.heap.size → k ≠ gv → W1.heap[k]? = w.heap[k]?) (h3 : MR W1 gv n (vis ++ [(b : Int)])) (ho : W1.os = w.os) (ht : W1.tape = w.tape) (hu : W1.output = w.output)
    (h7 : OwnS w7 B v7 (way ++ [((b : Int), m)])) (g7 : GI B W1 w7 vw v7) :
    OM (w7.setCell ⟨yb, 0, none⟩ v7) B tb yb gv vb ao n c (vis ++ [(b : Int)]) (way ++ [((b : Int), m)]) v7 ∧ Only (OV yb gv vw) w (w7.setCell ⟨yb, 0, none⟩ v7) ∧ (∀ g, v7.ownBlock = some g → vw.ownBlock = some g ∨ w.heap.size ≤ g) ∧ w7.heap[yb]? = w.heap[yb]? := by
  obtain ⟨a1, a2, a3, a4, a5, a6, a7, a8, a9, a10⟩ := H.apart
  have l1 := H.lt tb (.inl rfl)
  have l2 := H.lt yb (.inr (.inl rfl))
  have l3 := H.lt gv (.inr (.inr (.inl rfl)))
  have l4 := H.lt vb (.inr (.inr (.inr (.inl rfl))))
  have k2 : ∀ g, g ≠ yb → (w7.setCell ⟨yb, 0, none⟩ v7).heap[g]? = w7.heap[g]? := fun g hg => heap_set_other hg
  have ky : w7.heap[yb]? = w.heap[yb]? := (g7.blk yb (by omega) a8).trans (h2 yb l2 a4)
  have hlt7 : ∀ g, v7.ownBlock = some g → g ≠ yb := fun g hg e => by
    subst e
    exact own_not h7.out (ky.trans H.wy) (by decide) hg
  refine ⟨⟨?_, ?_, ?_, ?_, ?_⟩, ⟨?_, ?_, ?_, ?_, ?_⟩, fun g hg => ?_, ky⟩
  · rw [k2 tb a1, g7.blk tb (by omega) a7, h2 tb l1 a2]; exact H.tx
  · rw [heap_set_at (ky.trans H.wy)]; rfl
  · exact ((k2 gv a4.symm).trans (g7.blk gv (by omega) a9)).trans h3
  · rw [k2 vb a5.symm, g7.blk vb (by omega) a10, h2 vb l4 a6.symm]; exact H.vx
  · exact h7.move fun g hg => k2 g (hlt7 g hg)
  · show (w7.setCell _ _).os = w.os
    rw [← ho, ← g7.bel.os]; rfl
  · rw [← ht, ← g7.bel.tape]; rfl
  · rw [← hu, ← g7.bel.output]; rfl
  · have := g7.size; simp [World.setCell]; omega
  · intro k hk hn
    unfold OV at hn
    rw [k2 k (fun e => hn (.inl e)), g7.blk k (by omega) (fun e => hn (.inr (.inr e))), h2 k hk (fun e => hn (.inr (.inl e)))]
  · rcases g7.own g hg with h | h
    · exact .inl h
    · right; omega
set_option maxRecDepth 100000 in
set_option maxHeartbeats 4000000 in
theorem visit_any (w : World) {B tb yb gv vb rb ro n c vis way vw} (H : OM w B tb yb gv vb (some ⟨rb, ro, none⟩) n c vis way vw) (hB : B ≤ w.heap.size) (hrB : rb < B) (hbx : rb ≠ gv) (hnc : n ≤ c) (hcm : c ≤ 9223372036854775807) (b : Nat) (hb : b < n) {ar : Option Addr} {m cr : Nat} (kr : w.cell? ⟨rb, ro + b, none⟩ = some (.slice ar m cr)) (hwl : way.length + 1 ≤ 1759218604441) :
    Calls Try.prog 21 #[.int .i64 b, .pointer (some ⟨vb, 0, none⟩), .pointer (some ⟨yb, 0, none⟩), .pointer (some ⟨tb, 0, none⟩)] w fun e w' => e = .returned (.tuple #[]) ∧ ((b : Int) ∈ vis ∧ w' = w ∨ (b : Int) ∉ vis ∧ ∃ vw', OM w' B tb yb gv vb (some ⟨rb, ro, none⟩) n c (vis ++ [(b : Int)]) (way ++ [((b : Int), m)]) vw' ∧ Only (OV yb gv vw) w w' ∧ (∀ g, vw'.ownBlock = some g → vw.ownBlock = some g ∨ w.heap.size ≤ g)) := by
  have k1 : w.cell? ⟨vb, 0, none⟩ = some (.slice (some ⟨gv, 0, none⟩) n n) := cell_arr H.vx rfl
  have k2 := H.vs.cell hb
  by_cases hm : (b : Int) ∈ vis
  · rw [decide_eq_true hm] at k2
    have HM : Hid ((b : Int) ∈ vis) := hm
    clear H hm kr
    go_enter Try.func21, Try.ntmps21
    go_wp2_with fail
    first
    | exact bodyPost_end (v := .tuple #[]) (by simp [results, Try.results21, go_sem]) rfl ⟨rfl, .inl ⟨HM.out, rfl⟩⟩
    | exact bodyPost_ret (v := .tuple #[]) (by simp [results, Try.results21, go_sem]) rfl ⟨rfl, .inl ⟨HM.out, rfl⟩⟩
  · rw [decide_eq_false hm] at k2
    obtain ⟨wa, wc, rfl, _, _⟩ := own_slice H.st.out
    obtain ⟨a1, a2, a3, a4, a5, a6, a7, a8, a9, a10⟩ := H.apart
    have f2 : w.frozen? ⟨gv, b, none⟩ = false := by have := H.vs; unfold MR at this; exact fz_of this
    obtain ⟨W1, hW1⟩ : ∃ W1, W1 = w.setCell ⟨gv, b, none⟩ (.bool true) := ⟨_, rfl⟩
    have hk1 : ∀ k, k ≠ gv → W1.heap[k]? = w.heap[k]? := fun k hk => by rw [hW1]; exact heap_set_other hk
    have hs1 : W1.heap.size = w.heap.size := by rw [hW1]; simp [World.setCell]
    obtain ⟨Z0, hZ0⟩ : ∃ Z0, Z0 = W1.drew := ⟨_, rfl⟩
    have zs : Z0.heap.size = w.heap.size := by rw [hZ0]; exact hs1
    have S0 : (fun w' : World => w'.cell? ⟨yb, 0, none⟩ = some (.slice wa way.length wc) ∧ w'.cell? ⟨tb, 0, none⟩ = some (.slice (some ⟨rb, ro, none⟩) n c) ∧ w'.cell? ⟨rb, ro + b, none⟩ = some (.slice ar m cr)) Z0 := by
      rw [hZ0]
      refine ⟨?_, ?_, ?_⟩
      · exact cell_arr ((hk1 yb a4).trans H.wy) rfl
      · exact cell_arr ((hk1 tb a2).trans H.tx) rfl
      · exact (World.cell?_of_block (w := w) (w' := W1) (hk1 rb hbx)).trans kr
    have MR1 : MR W1 gv n (vis ++ [(b : Int)]) := by rw [hW1]; exact H.vs.set
    have st1 : OwnS W1 B (.slice wa way.length wc) way := H.st.move fun g hg => hk1 g (fun e => a9 (by rw [← e]; exact hg))
    obtain ⟨W2, hW2⟩ : ∃ W2, W2 = Z0.alloc (.cells #[.int .i64 b, .int .i64 m] 41) := ⟨_, rfl⟩
    have hs2 : W2.heap.size = w.heap.size + 1 := by rw [hW2]; simp [zs]
    have hk2 : ∀ k, k < w.heap.size → W2.heap[k]? = W1.heap[k]? := fun k hk => by rw [hW2, heap_alloc_old Z0 _ (by omega), hZ0]; rfl
    have hcn : Hid (∀ j u, [Value.int .i64 (b : Int), .int .i64 (m : Int)][j]? = some u → W2.cell? ((⟨Z0.heap.size, 0, none⟩ : Addr).add j) = some u) := by rw [hW2]; exact cell_two_newI Z0 _ _ _
    have st2 : Hid (OwnS W2 B (.slice wa way.length wc) way) := st1.move fun g hg => hk2 g (by have := (own_block st1.out hg).2; omega)
    have MR2 : MR W2 gv n (vis ++ [(b : Int)]) := (hk2 gv (H.lt gv (.inr (.inr (.inl rfl))))).trans MR1
    have ho2 : W2.os = w.os ∧ W2.tape = w.tape ∧ W2.output = w.output := by rw [hW2, hZ0, hW1]; exact ⟨rfl, rfl, rfl⟩
    have FIN : Hid (∀ v7 w7, OwnS w7 B v7 (way ++ [((b : Int), m)]) → GI B W2 w7 (.slice wa way.length wc) v7 → (fun w' : World => w'.cell? ⟨yb, 0, none⟩ = some (.slice wa way.length wc) ∧ w'.cell? ⟨tb, 0, none⟩ = some (.slice (some ⟨rb, ro, none⟩) n c) ∧ w'.cell? ⟨rb, ro + b, none⟩ = some (.slice ar m cr)) w7 ∧ w7.frozen? ⟨yb, 0, none⟩ = false ∧ Hid (OM (w7.setCell ⟨yb, 0, none⟩ v7) B tb yb gv vb (some ⟨rb, ro, none⟩) n c (vis ++ [(b : Int)]) (way ++ [((b : Int), m)]) v7 ∧ Only (OV yb gv (.slice wa way.length wc)) w (w7.setCell ⟨yb, 0, none⟩ v7) ∧ (∀ g, v7.ownBlock = some g → (Value.slice wa way.length wc).ownBlock = some g ∨ w.heap.size ≤ g))) := fun v7 w7 h7 g7 => by
      obtain ⟨q1, q2, q3, q4⟩ := H.push (.inr trivial) hs2 (fun k hk hn => (hk2 k hk).trans (hk1 k hn)) MR2 ho2.1 ho2.2.1 ho2.2.2 h7 g7
      refine ⟨⟨cell_arr (q4.trans H.wy) rfl, ?_, ?_⟩, fz_of (q4.trans H.wy), q1, q2, q3⟩
      · have l1 := H.lt tb (.inl rfl)
        exact cell_arr (((g7.blk tb (by omega) a7).trans ((hk2 tb l1).trans (hk1 tb a2))).trans H.tx) rfl
      · have l1 := block_lt_of_cell kr
        simp only at l1
        refine (World.cell?_of_block (w := w) (w' := w7) ?_).trans kr
        exact (g7.blk rb (by omega) (fun e => by have := (own_block st1.out e).1; omega)).trans ((hk2 rb l1).trans (hk1 rb hbx))
    have S1 : (fun w' : World => w'.cell? ⟨yb, 0, none⟩ = some (.slice wa way.length wc) ∧ w'.cell? ⟨tb, 0, none⟩ = some (.slice (some ⟨rb, ro, none⟩) n c) ∧ w'.cell? ⟨rb, ro + b, none⟩ = some (.slice ar m cr)) W2 := by
      rw [hW2]; exact ⟨cellA S0.1, cellA S0.2.1, cellA S0.2.2⟩
    have hB2 : B ≤ W2.heap.size := by omega
    have HM : Hid ((b : Int) ∉ vis) := hm
    have HW2 : Hid (W2 = Z0.alloc (.cells #[.int .i64 b, .int .i64 m] 41)) := hW2
    clear H hm kr hk1 hk2 MR1 MR2 st1 ho2 a1 a2 a3 a4 a5 a6 a7 a8 a9 a10 hs2 hW2 hs1 zs
    go_enter Try.func21, Try.ntmps21
    go_wp2_with fail
    rw [← hW1]
    clear hW1 k1 k2 f2
    refine led_start (S := fun w' : World => w'.cell? ⟨yb, 0, none⟩ = some (.slice wa way.length wc) ∧ w'.cell? ⟨tb, 0, none⟩ = some (.slice (some ⟨rb, ro, none⟩) n c) ∧ w'.cell? ⟨rb, ro + b, none⟩ = some (.slice ar m cr)) (z := 10) (by kernel_rfl) ?_
    show led _ _ _ _ _ 11 _ _ _
    rw [← hZ0]
    clear hZ0
    try simp only [List.size_toArray, List.length_cons, List.length_nil, Array.replicate]
    refine led_take (i := 0) (v := ?v0) rfl (by kernel_rfl) (by kernel_rfl) (by kernel_rfl) (by kernel_rfl) (fun _ _ _ h => h) (.inl ⟨by rfl, ?hy0⟩) S0 ?rest0
    case hy0 =>
      rintro w' ⟨h1, h2, h3⟩
      go_simp
      all_goals with_reducible rfl
    try simp only [Act.put, List.getElem_toArray, List.getElem_cons_succ, List.getElem_cons_zero, List.setIfInBounds_toArray, List.set_cons_zero, List.set_cons_succ]
    refine led_take (i := 1) (v := ?v1) rfl (by kernel_rfl) (by kernel_rfl) (by kernel_rfl) (by kernel_rfl) (fun _ _ _ h => h) (.inl ⟨by rfl, ?hy1⟩) S0 ?rest1
    case hy1 =>
      rintro w' ⟨h1, h2, h3⟩
      go_simp
      all_goals with_reducible rfl
    try simp only [Act.put, List.getElem_toArray, List.getElem_cons_succ, List.getElem_cons_zero, List.setIfInBounds_toArray, List.set_cons_zero, List.set_cons_succ]
    refine led_take (i := 2) (v := ?v2) rfl (by kernel_rfl) (by kernel_rfl) (by kernel_rfl) (by kernel_rfl) (fun _ _ _ h => h) (.inl ⟨by rfl, ?hy2⟩) S0 ?rest2
    case hy2 =>
      rintro w' ⟨h1, h2, h3⟩
      go_simp
      all_goals with_reducible rfl
    try simp only [Act.put, List.getElem_toArray, List.getElem_cons_succ, List.getElem_cons_zero, List.setIfInBounds_toArray, List.set_cons_zero, List.set_cons_succ]
    refine led_take (i := 3) (v := ?v3) rfl (by kernel_rfl) (by kernel_rfl) (by kernel_rfl) (by kernel_rfl) (fun _ _ _ h => h) (.inl ⟨by rfl, ?hy3⟩) S0 ?rest3
    case hy3 =>
      rintro w' ⟨h1, h2, h3⟩
      go_simp
      all_goals with_reducible rfl
    try simp only [Act.put, List.getElem_toArray, List.getElem_cons_succ, List.getElem_cons_zero, List.setIfInBounds_toArray, List.set_cons_zero, List.set_cons_succ]
    refine led_take (i := 4) (v := ?v4) rfl (by kernel_rfl) (by kernel_rfl) (by kernel_rfl) (by kernel_rfl) (fun _ _ _ h => h) (.inl ⟨by rfl, ?hy4⟩) S0 ?rest4
    case hy4 =>
      rintro w' ⟨h1, h2, h3⟩
      go_simp
      all_goals with_reducible rfl
    try simp only [Act.put, List.getElem_toArray, List.getElem_cons_succ, List.getElem_cons_zero, List.setIfInBounds_toArray, List.set_cons_zero, List.set_cons_succ]
    refine led_take (i := 5) (v := ?v5) rfl (by kernel_rfl) (by kernel_rfl) (by kernel_rfl) (by kernel_rfl) (fun _ _ _ h => h) (.inl ⟨by rfl, ?hy5⟩) S0 ?rest5
    case hy5 =>
      rintro w' ⟨h1, h2, h3⟩
      go_simp
      all_goals with_reducible rfl
    try simp only [Act.put, List.getElem_toArray, List.getElem_cons_succ, List.getElem_cons_zero, List.setIfInBounds_toArray, List.set_cons_zero, List.set_cons_succ]
    refine led_take (i := 6) (v := ?v6) rfl (by kernel_rfl) (by kernel_rfl) (by kernel_rfl) (by kernel_rfl) (fun _ _ _ h => h) (.inl ⟨by rfl, ?hy6⟩) S0 ?rest6
    case hy6 =>
      rintro w' ⟨h1, h2, h3⟩
      go_simp
      all_goals with_reducible rfl
    try simp only [Act.put, List.getElem_toArray, List.getElem_cons_succ, List.getElem_cons_zero, List.setIfInBounds_toArray, List.set_cons_zero, List.set_cons_succ]
    refine led_take (i := 7) (v := ?v7) rfl (by kernel_rfl) (by kernel_rfl) (by kernel_rfl) (by kernel_rfl) (fun _ _ _ h => h) (.inl ⟨by rfl, ?hy7⟩) S0 ?rest7
    case hy7 =>
      rintro w' ⟨h1, h2, h3⟩
      go_simp
      all_goals with_reducible rfl
    try simp only [Act.put, List.getElem_toArray, List.getElem_cons_succ, List.getElem_cons_zero, List.setIfInBounds_toArray, List.set_cons_zero, List.set_cons_succ]
    refine led_one (i := 8) rfl (by kernel_rfl) ?_
    intro K8 hK8
    rw [if_pos (by rfl)]
    go_simp
    rw [← HW2.out]
    refine hK8 _ _ (fun _ => S1) ?_
    clear hK8
    try simp only [Act.put, List.getElem_toArray, List.getElem_cons_succ, List.getElem_cons_zero, List.setIfInBounds_toArray, List.set_cons_zero, List.set_cons_succ]
    refine led_one (i := 9) rfl (by kernel_rfl) ?_
    intro K9 hK9
    refine step_append_op rfl _ _ rfl B (.slice wa way.length wc) way (b : Int) m rfl st2.out Z0.heap.size rfl hcn.out hwl hB2 ?_
    intro v7 w7 h7 g7
    obtain ⟨S7, f7, N7⟩ := FIN.out v7 w7 h7 g7
    obtain ⟨a7, c7, e7, _, _⟩ := own_slice h7.out
    obtain ⟨n7, hn7⟩ : ∃ n7, n7 = (way ++ [((b : Int), m)]).length := ⟨_, rfl⟩
    rw [← hn7] at e7
    clear h7 g7 hn7
    refine hK9 _ _ (fun _ => S7) ?_
    clear hK9
    try simp only [Act.put, List.getElem_toArray, List.getElem_cons_succ, List.getElem_cons_zero, List.setIfInBounds_toArray, List.set_cons_zero, List.set_cons_succ]
    refine led_one (i := 10) rfl (by kernel_rfl) ?_
    intro K10 hK10
    rw [if_pos (by rfl)]
    obtain ⟨q7, q8, q9⟩ := S7
    subst e7
    go_simp
    refine hK10 _ _ (fun h => absurd rfl h) ?_
    clear hK10 S0 S1
    refine led_done (by kernel_rfl) ?_
    refine bodyPost_end (v := .tuple #[]) (by simp [results, Try.results21, go_sem]) rfl ?_
    exact ⟨rfl, .inr ⟨HM.out, _, N7.out.1, N7.out.2.1, N7.out.2.2⟩⟩
end Go.Proofs.Ytplpgeocidllfaa
