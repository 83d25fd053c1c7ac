import Derived.Test.YtdoiblknbpbhaaaMvF
set_option linter.unusedVariables false
set_option linter.unusedSimpArgs false
namespace Go.Proofs.Ytdoiblknbpbhaaa
open Go.ChangeShapes Go.WideShapes Go.ChangeAt Go.RowKit Go.Maps

theorem SQ.apart {w : World} {B sb gb sm rm la ln lc ov l A R out} (H : SQ w B sb gb sm rm la ln lc ov l A R out) : sb ≠ gb ∧ sb ≠ sm ∧ sb ≠ rm ∧ gb ≠ sm ∧ gb ≠ rm ∧ ov.ownBlock ≠ some sb ∧ ov.ownBlock ≠ some gb ∧ ov.ownBlock ≠ some sm ∧ ov.ownBlock ≠ some rm := by
  obtain ⟨es, cl, e1⟩ := H.st.isMap
  obtain ⟨nr, h, _, hR⟩ := H.rd
  obtain ⟨es2, cl2, e2⟩ := hR.isMap
  have e3 := H.box
  have e4 := H.lf.out
  have hm : ∀ {k : Nat} {es : Array MapEntry} {cl : Nat}, w.heap[k]? = some (.map es cl) → ov.ownBlock ≠ some k := fun {k es cl} hk e => by
    rcases H.ou.out.2 with ⟨rfl, _⟩ | ⟨g, cap, cur, rfl, _, q, _⟩
    · simp [Value.ownBlock] at e
    · simp [Value.ownBlock] at e
      subst e
      rw [hk] at q
      cases q
  refine ⟨?_, ?_, ?_, ?_, ?_, own_not H.ou.out e3 (by decide), own_not H.ou.out e4 (by decide), hm e1, hm e2⟩
  · rintro rfl; rw [e3] at e4; injection e4 with e4; injection e4 with _ e4 _; exact absurd e4 (by decide)
  · rintro rfl; rw [e3] at e1; cases e1
  · rintro rfl; rw [e3] at e2; cases e2
  · rintro rfl; rw [e4] at e1; cases e1
  · rintro rfl; rw [e4] at e2; cases e2
theorem SQ.put1 {w W1 w7 : World} {B sb gb sm rm la ln lc ov l A R out} (H : SQ w B sb gb sm rm la ln lc ov l A R out) (hb : Below w.heap.size w W1) {v7 : Value} {m : Mv} (h7 : OwnM w7 B v7 (out.length + 1) (out ++ [m])) (g7 : GI B W1 w7 ov v7) :
    SQ (w7.setCell ⟨sb, 4, none⟩ v7) B sb gb sm rm la ln lc v7 l A R (out ++ [m]) ∧ Only (SF sb gb rm ov) w (w7.setCell ⟨sb, 4, none⟩ v7) ∧ w7.heap[sb]? = w.heap[sb]? := by
  obtain ⟨a1, a2, a3, a4, a5, a6, a7, a8, a9⟩ := H.apart
  have hk : ∀ g, g < w.heap.size → ov.ownBlock ≠ some g → w7.heap[g]? = w.heap[g]? := fun g hg hn => (g7.blk g (by have := hb.size; omega) hn).trans (hb.block g hg)
  have hsb := (Array.getElem?_eq_some_iff.1 H.box).1
  have k1 := hk sb hsb a6
  have k2 : ∀ g, g ≠ sb → (w7.setCell ⟨sb, 4, none⟩ v7).heap[g]? = w7.heap[g]? := fun g hg => heap_set_other hg
  obtain ⟨nr, h, h1, hR⟩ := H.rd
  refine ⟨⟨?_, H.lf.move ((k2 _ a1.symm).trans (hk _ H.lf.lt a7)), H.st.move ((k2 _ a2.symm).trans (hk _ H.st.lt a8)), ⟨nr, h, h1, hR.move ((k2 _ a3.symm).trans (hk _ hR.lt a9))⟩, ?_, H.sr, H.lo, ?_, H.fit, H.n, H.al, H.ca, H.sz⟩, ⟨?_, ?_, ?_, ?_, ?_⟩, k1⟩
  · rw [heap_set_at (k1.trans H.box)]
    rfl
  · have hl : out.length + 1 = (out ++ [m]).length := by simp
    rw [← hl]
    refine h7.move fun g hg => k2 g ?_
    rintro rfl
    have := own_not h7.out (k1.trans H.box) (by decide)
    exact this hg
  · intro hn
    obtain ⟨b, o, e, h3, h4⟩ := H.ar hn
    refine ⟨b, o, e, h3, h4.move ((k2 b ?_).trans (hk b h4.lt fun e => ?_))⟩
    · have := H.lo.1; omega
    · have := (own_block H.ou.out e).1; omega
  · show (w7.setCell _ _).os = w.os
    rw [← hb.os, ← g7.bel.os]; rfl
  · rw [← hb.tape, ← g7.bel.tape]; rfl
  · rw [← hb.output, ← g7.bel.output]; rfl
  · have := hb.size; have := g7.size; simp [World.setCell]; omega
  · intro k hk1 hk2
    unfold SF at hk2
    rw [k2 k (fun e => hk2 (.inl e)), hk k hk1 (fun e => hk2 (.inr (.inr (.inr e))))]
theorem SQ.put2 {w : World} {B sb gb sm rm la ln lc ov l A R out} (H : SQ w B sb gb sm rm la ln lc ov l A R out) (hA : A.Nodup) (hl : l.Nodup) {i : Nat} (hi : i < l.length) :
    SQ (w.setCell ⟨gb, i, none⟩ (.bool false)) B sb gb sm rm la ln lc ov l (A.erase l[i]) R out ∧ Only (SF sb gb rm ov) w (w.setCell ⟨gb, i, none⟩ (.bool false)) := by
  obtain ⟨a1, a2, a3, a4, a5, a6, a7, a8, a9⟩ := H.apart
  have k2 : ∀ g, g ≠ gb → (w.setCell ⟨gb, i, none⟩ (.bool false)).heap[g]? = w.heap[g]? := fun g hg => heap_set_other hg
  obtain ⟨nr, h, h1, hR⟩ := H.rd
  have he : (lftB l A).set i false = lftB l (A.erase l[i]) := by
    refine List.ext_getElem (by simp [lftB]) fun j h1 h2 => ?_
    rw [List.getElem_set]
    simp only [lftB, List.getElem_map, hA.mem_erase_iff]
    have hj : j < l.length := by simpa [lftB] using h2
    by_cases e : i = j
    · subst e; simp
    · rw [if_neg e]
      have hne : l[j] ≠ l[i] := fun e2 => e ((List.getElem_inj (h₀ := hj) (h₁ := hi) hl).1 e2).symm
      simp [hne]
  have hs := H.lf.set i false
  rw [he] at hs
  exact ⟨⟨(k2 _ a1).trans H.box, hs, H.st.move (k2 _ a4.symm), ⟨nr, h, h1, hR.move (k2 _ a5.symm)⟩, H.ou.move fun g hg => k2 g (fun e => a7 (by rw [← e]; exact hg)), H.sr, H.lo, fun hn => by
    obtain ⟨b, o, e, h3, h4⟩ := H.ar hn
    exact ⟨b, o, e, h3, h4.move (k2 b (by have := H.lo.2.1; omega))⟩, H.fit, H.n, H.al, H.ca, H.sz⟩, (Only.of_set w ⟨gb, i, none⟩ _).mono fun k _ hk => .inr (.inl hk)⟩
theorem SQ.put3 {w w' : World} {B sb gb sm rm la ln lc ov l A R R' out nr h} (H : SQ w B sb gb sm rm la ln lc ov l A R out) (hR : MpL w' rm nr h (cntR R')) (hn : nr + R'.length ≤ 2 * ln) (hr : R'.length ≤ ln) (hg : w.grownBy w' (some rm)) :
    SQ w' B sb gb sm rm la ln lc ov l A R' out ∧ Only (SF sb gb rm ov) w w' := by
  obtain ⟨a1, a2, a3, a4, a5, a6, a7, a8, a9⟩ := H.apart
  have k2 : ∀ g, g < w.heap.size → g ≠ rm → w'.heap[g]? = w.heap[g]? := fun g h1 h2 => hg.block g h1 (fun e => h2 (by cases e; rfl))
  exact ⟨⟨(k2 _ (Array.getElem?_eq_some_iff.1 H.box).1 a3).trans H.box, H.lf.move (k2 _ H.lf.lt a5), H.st.move (k2 _ H.st.lt H.sr), ⟨nr, h, hn, hR⟩, H.ou.move fun g hg => k2 g (own_block H.ou.out hg).2 (fun e => a9 (by rw [← e]; exact hg)), H.sr, H.lo, fun hn => by
    obtain ⟨b, o, e, h3, h4⟩ := H.ar hn
    exact ⟨b, o, e, h3, h4.move (k2 b h4.lt (by have := H.lo.2.2.2; omega))⟩, H.fit, H.n, hr, H.ca, H.sz⟩, (Only.of_grown hg).mono fun k _ hk => .inr (.inr (.inl (by cases hk; rfl)))⟩
theorem cntR_erase {A : List Mv} {m : Mv} (hm : m ∈ A) : cntR (A.erase m) = fun q => if q = m.2 then cntR A m.2 - 1 else cntR A q := by
  funext q
  have := count_erase_map Prod.snd hm q
  unfold cntR
  by_cases e : q = m.2
  · subst e
    rw [one_self] at this
    rw [if_pos rfl]; omega
  · rw [one_ne (fun h => e h.symm)] at this
    rw [if_neg e]; omega
set_option maxRecDepth 100000 in
set_option maxHeartbeats 4000000 in
theorem put_any (w : World) {B sb gb sm rm la ln lc ov l A out} (H : SQ w B sb gb sm rm la ln lc ov l A A out) (hB : B ≤ w.heap.size) (hol : out.length ≤ 10000000) (hAn : A.Nodup) (hln : l.Nodup) (i : Nat) (hi : i < l.length) (hm : l[i] ∈ A) (f : Lc) (hf : FitL f) :
    Calls Try.prog 34 #[.pointer (some ⟨sb, 0, none⟩), .int .i64 i, .agg #[.int .i64 f.1, .int .i64 f.2]] w fun e w' => e = .returned (.tuple #[]) ∧ ∃ ov', SQ w' B sb gb sm rm la ln lc ov' l (A.erase l[i]) (A.erase l[i]) (out ++ [(l[i].1, f)]) ∧ Only (SF sb gb rm ov) w w' := by
  have hiln : i < ln := by have := H.n; omega
  obtain ⟨oa, oc, rfl, _, _⟩ := own_slice H.ou.out
  have hb := H.box
  have x0 : w.cell? ⟨sb, 0, none⟩ = some (.slice la ln lc) := cell_arr hb rfl
  have x4 : w.cell? ⟨sb, 4, none⟩ = some (.slice oa out.length oc) := cell_arr hb rfl
  obtain ⟨b, o, rfl, hbB, hM⟩ := H.ar (by rintro rfl; simp at hi)
  obtain ⟨c0, c1, c2, c3⟩ := hM.cell i hi
  have hz := H.sz
  have hca := H.ca
  have hfm := H.fit _ (List.getElem_mem hi)
  obtain ⟨f1, f2⟩ := f
  have HAN : Hid A.Nodup := hAn
  have HLN : Hid l.Nodup := hln
  have HMA : Hid (l[i] ∈ A) := hm
  obtain ⟨m, hmi⟩ : ∃ m, l[i] = m := ⟨_, rfl⟩
  rw [hmi] at c0 c1 c2 c3 hfm
  obtain ⟨⟨m1, m2⟩, ⟨m3, m4⟩⟩ := m
  simp only at c0 c1 c2 c3
  have HLI : Hid (l[i] = ((m1, m2), (m3, m4))) := hmi
  have HFF : Hid (FitL (m3, m4)) := hfm.f
  have HBB : Hid (b < B) := hbB
  have HFM : Hid (FitM ((m1, m2), (f1, f2))) := ⟨hfm.t, hf⟩
  have HOL : Hid (out.length ≤ 10000000) := hol
  have HBS : Hid (B ≤ w.heap.size) := hB
  have HH : Hid _ := H
  have hbw : Below w.heap.size w ((w.alloc (.cells #[.int .i64 f1, .int .i64 f2] 24)).drew.alloc (.cells #[.int .i64 m1, .int .i64 m2, .int .i64 f1, .int .i64 f2] 36)) := by
    repeat (first | refine Below.alloc ?_ (by first | omega | (simp; done) | (simp; omega)) _ | refine Below.drew ?_ | exact Below.refl _ _)
  have HOW : Hid (OwnM ((w.alloc (.cells #[.int .i64 f1, .int .i64 f2] 24)).drew.alloc (.cells #[.int .i64 m1, .int .i64 m2, .int .i64 f1, .int .i64 f2] 36)) B (.slice oa out.length oc) out.length out) := H.ou.keep hbw
  have S0 : (fun w' : World => w'.cell? ⟨sb, 0, none⟩ = some (.slice (some ⟨b, o, none⟩) ln lc) ∧ w'.cell? ⟨sb, 4, none⟩ = some (.slice oa out.length oc) ∧ w'.cell? ⟨b, o + i * 4, none⟩ = some (.int .i64 m1) ∧ w'.cell? ⟨b, o + i * 4 + 1, none⟩ = some (.int .i64 m2) ∧ w'.cell? ⟨w.heap.size, 0, none⟩ = some (.int .i64 f1) ∧ w'.cell? ⟨w.heap.size, 1, none⟩ = some (.int .i64 f2)) (w.alloc (.cells #[.int .i64 f1, .int .i64 f2] 24)).drew := ⟨cellA x0, cellA x4, cellA c0, cellA c1, cell_arr (heap_alloc_new _ _) rfl, cell_arr (heap_alloc_new _ _) rfl⟩
  have S1 : (fun w' : World => w'.cell? ⟨sb, 0, none⟩ = some (.slice (some ⟨b, o, none⟩) ln lc) ∧ w'.cell? ⟨sb, 4, none⟩ = some (.slice oa out.length oc) ∧ w'.cell? ⟨b, o + i * 4, none⟩ = some (.int .i64 m1) ∧ w'.cell? ⟨b, o + i * 4 + 1, none⟩ = some (.int .i64 m2) ∧ w'.cell? ⟨w.heap.size, 0, none⟩ = some (.int .i64 f1) ∧ w'.cell? ⟨w.heap.size, 1, none⟩ = some (.int .i64 f2)) ((w.alloc (.cells #[.int .i64 f1, .int .i64 f2] 24)).drew.alloc (.cells #[.int .i64 m1, .int .i64 m2, .int .i64 f1, .int .i64 f2] 36)) := ⟨cellA S0.1, cellA S0.2.1, cellA S0.2.2.1, cellA S0.2.2.2.1, cellA S0.2.2.2.2.1, cellA S0.2.2.2.2.2⟩
  have HPU : Hid (∀ v7 w7, OwnM w7 B v7 (out.length + 1) (out ++ [((m1, m2), (f1, f2))]) → GI B ((w.alloc (.cells #[.int .i64 f1, .int .i64 f2] 24)).drew.alloc (.cells #[.int .i64 m1, .int .i64 m2, .int .i64 f1, .int .i64 f2] 36)) w7 (.slice oa out.length oc) v7 → (fun w' : World => w'.cell? ⟨sb, 0, none⟩ = some (.slice (some ⟨b, o, none⟩) ln lc) ∧ w'.cell? ⟨sb, 4, none⟩ = some (.slice oa out.length oc) ∧ w'.cell? ⟨b, o + i * 4, none⟩ = some (.int .i64 m1) ∧ w'.cell? ⟨b, o + i * 4 + 1, none⟩ = some (.int .i64 m2) ∧ w'.cell? ⟨w.heap.size, 0, none⟩ = some (.int .i64 f1) ∧ w'.cell? ⟨w.heap.size, 1, none⟩ = some (.int .i64 f2)) w7 ∧ Hid ((SQ (w7.setCell ⟨sb, 4, none⟩ v7) B sb gb sm rm (some ⟨b, o, none⟩) ln lc v7 l A A (out ++ [((m1, m2), (f1, f2))]) ∧ Only (SF sb gb rm (.slice oa out.length oc)) w (w7.setCell ⟨sb, 4, none⟩ v7)) ∧ (∀ g, v7.ownBlock = some g → (Value.slice oa out.length oc).ownBlock = some g ∨ w.heap.size ≤ g) ∧ w7.frozen? ⟨sb, 4, none⟩ = false)) := fun v7 w7 h7 g7 => by
    obtain ⟨q1, q2, q3⟩ := H.put1 hbw h7 g7
    have hab := H.apart
    have kk : ∀ {a : Addr} {u : Value}, ((w.alloc (.cells #[.int .i64 f1, .int .i64 f2] 24)).drew.alloc (.cells #[.int .i64 m1, .int .i64 m2, .int .i64 f1, .int .i64 f2] 36)).cell? a = some u → (Value.slice oa out.length oc).ownBlock ≠ some a.block → w7.cell? a = some u := fun {a u} h1 h2 => (World.cell?_of_block (g7.blk a.block (block_lt_of_cell h1) h2)).trans h1
    have nb : (Value.slice oa out.length oc).ownBlock ≠ some b := fun e => by have := (own_block H.ou.out e).1; omega
    have nw : (Value.slice oa out.length oc).ownBlock ≠ some w.heap.size := fun e => by have := (own_block H.ou.out e).2; omega
    exact ⟨⟨kk S1.1 hab.2.2.2.2.2.1, kk S1.2.1 hab.2.2.2.2.2.1, kk S1.2.2.1 nb, kk S1.2.2.2.1 nb, kk S1.2.2.2.2.1 nw, kk S1.2.2.2.2.2 nw⟩, ⟨q1, q2⟩, fun g hg => (g7.own g hg).imp id (fun h => by simp at h; omega), fz_of (q3.trans H.box)⟩
  clear H hb hM hbw hfm hf hol hB c2 c3 hmi hAn hln hm hbB
  go_enter Try.func34, Try.ntmps34
  go_wp2_with fail
  refine led_start (S := fun w' : World => w'.cell? ⟨sb, 0, none⟩ = some (.slice (some ⟨b, o, none⟩) ln lc) ∧ w'.cell? ⟨sb, 4, none⟩ = some (.slice oa out.length oc) ∧ w'.cell? ⟨b, o + i * 4, none⟩ = some (.int .i64 m1) ∧ w'.cell? ⟨b, o + i * 4 + 1, none⟩ = some (.int .i64 m2) ∧ w'.cell? ⟨w.heap.size, 0, none⟩ = some (.int .i64 f1) ∧ w'.cell? ⟨w.heap.size, 1, none⟩ = some (.int .i64 f2)) (z := 19) rfl ?_
  show led _ _ _ _ _ 20 _ _ _
  try simp only [List.size_toArray, List.length_cons, List.length_nil, Array.replicate]
  refine led_take (i := 0) (v := ?v0) rfl (by kernel_rfl) (by kernel_rfl) (by kernel_rfl) (by kernel_rfl) (fun _ _ _ h => h) (.inl ⟨by rfl, ?hy0⟩) S0 ?rest0
  case hy0 =>
    rintro w' ⟨h1, h2, h3, h4, h5, h6⟩
    go_simp
    all_goals with_reducible rfl
  try simp only [Act.put, List.setIfInBounds_toArray, List.set_cons_zero, List.set_cons_succ]
  refine led_take (i := 1) (v := ?v1) rfl (by kernel_rfl) (by kernel_rfl) (by kernel_rfl) (by kernel_rfl) (fun _ _ _ h => h) (.inl ⟨by rfl, ?hy1⟩) S0 ?rest1
  case hy1 =>
    rintro w' ⟨h1, h2, h3, h4, h5, h6⟩
    go_simp
    all_goals with_reducible rfl
  try simp only [Act.put, List.setIfInBounds_toArray, List.set_cons_zero, List.set_cons_succ]
  refine led_take (i := 2) (v := ?v2) rfl (by kernel_rfl) (by kernel_rfl) (by kernel_rfl) (by kernel_rfl) (fun _ _ _ h => h) (.inl ⟨by rfl, ?hy2⟩) S0 ?rest2
  case hy2 =>
    rintro w' ⟨h1, h2, h3, h4, h5, h6⟩
    go_simp
    all_goals with_reducible rfl
  try simp only [Act.put, List.setIfInBounds_toArray, List.set_cons_zero, List.set_cons_succ]
  refine led_take (i := 3) (v := ?v3) rfl (by kernel_rfl) (by kernel_rfl) (by kernel_rfl) (by kernel_rfl) (fun _ _ _ h => h) (.inl ⟨by rfl, ?hy3⟩) S0 ?rest3
  case hy3 =>
    rintro w' ⟨h1, h2, h3, h4, h5, h6⟩
    go_simp
    all_goals with_reducible rfl
  try simp only [Act.put, List.setIfInBounds_toArray, List.set_cons_zero, List.set_cons_succ]
  refine led_take (i := 4) (v := ?v4) rfl (by kernel_rfl) (by kernel_rfl) (by kernel_rfl) (by kernel_rfl) (fun _ _ _ h => h) (.inl ⟨by rfl, ?hy4⟩) S0 ?rest4
  case hy4 =>
    rintro w' ⟨h1, h2, h3, h4, h5, h6⟩
    go_simp
    all_goals with_reducible rfl
  try simp only [Act.put, List.setIfInBounds_toArray, List.set_cons_zero, List.set_cons_succ]
  refine led_take (i := 5) (v := ?v5) rfl (by kernel_rfl) (by kernel_rfl) (by kernel_rfl) (by kernel_rfl) (fun _ _ _ h => h) (.inl ⟨by rfl, ?hy5⟩) S0 ?rest5
  case hy5 =>
    rintro w' ⟨h1, h2, h3, h4, h5, h6⟩
    go_simp
    all_goals with_reducible rfl
  try simp only [Act.put, List.setIfInBounds_toArray, List.set_cons_zero, List.set_cons_succ]
  refine led_take (i := 6) (v := ?v6) rfl (by kernel_rfl) (by kernel_rfl) (by kernel_rfl) (by kernel_rfl) (fun _ _ _ h => h) (.inl ⟨by rfl, ?hy6⟩) S0 ?rest6
  case hy6 =>
    rintro w' ⟨h1, h2, h3, h4, h5, h6⟩
    go_simp
    all_goals with_reducible rfl
  try simp only [Act.put, List.setIfInBounds_toArray, List.set_cons_zero, List.set_cons_succ]
  refine led_take (i := 7) (v := ?v7) rfl (by kernel_rfl) (by kernel_rfl) (by kernel_rfl) (by kernel_rfl) (fun _ _ _ h => h) (.inl ⟨by rfl, ?hy7⟩) S0 ?rest7
  case hy7 =>
    rintro w' ⟨h1, h2, h3, h4, h5, h6⟩
    go_simp
    all_goals with_reducible rfl
  try simp only [Act.put, List.setIfInBounds_toArray, List.set_cons_zero, List.set_cons_succ]
  refine led_take (i := 8) (v := ?v8) rfl (by kernel_rfl) (by kernel_rfl) (by kernel_rfl) (by kernel_rfl) (fun _ _ _ h => h) (.inl ⟨by rfl, ?hy8⟩) S0 ?rest8
  case hy8 =>
    rintro w' ⟨h1, h2, h3, h4, h5, h6⟩
    go_simp
    all_goals with_reducible rfl
  try simp only [Act.put, List.setIfInBounds_toArray, List.set_cons_zero, List.set_cons_succ]
  refine led_take (i := 9) (v := ?v9) rfl (by kernel_rfl) (by kernel_rfl) (by kernel_rfl) (by kernel_rfl) (fun _ _ _ h => h) (.inl ⟨by rfl, ?hy9⟩) S0 ?rest9
  case hy9 =>
    rintro w' ⟨h1, h2, h3, h4, h5, h6⟩
    go_simp
    all_goals with_reducible rfl
  try simp only [Act.put, List.setIfInBounds_toArray, List.set_cons_zero, List.set_cons_succ]
  refine led_take (i := 10) (v := ?v10) rfl (by kernel_rfl) (by kernel_rfl) (by kernel_rfl) (by kernel_rfl) (fun _ _ _ h => h) (.inl ⟨by rfl, ?hy10⟩) S0 ?rest10
  case hy10 =>
    rintro w' ⟨h1, h2, h3, h4, h5, h6⟩
    go_simp
    all_goals with_reducible rfl
  try simp only [Act.put, List.setIfInBounds_toArray, List.set_cons_zero, List.set_cons_succ]
  refine led_take (i := 11) (v := ?v11) rfl (by kernel_rfl) (by kernel_rfl) (by kernel_rfl) (by kernel_rfl) (fun _ _ _ h => h) (.inl ⟨by rfl, ?hy11⟩) S0 ?rest11
  case hy11 =>
    rintro w' ⟨h1, h2, h3, h4, h5, h6⟩
    go_simp
    all_goals with_reducible rfl
  try simp only [Act.put, List.setIfInBounds_toArray, List.set_cons_zero, List.set_cons_succ]
  refine led_take (i := 12) (v := ?v12) rfl (by kernel_rfl) (by kernel_rfl) (by kernel_rfl) (by kernel_rfl) (fun _ _ _ h => h) (.inl ⟨by rfl, ?hy12⟩) S0 ?rest12
  case hy12 =>
    rintro w' ⟨h1, h2, h3, h4, h5, h6⟩
    go_simp
    all_goals with_reducible rfl
  try simp only [Act.put, List.setIfInBounds_toArray, List.set_cons_zero, List.set_cons_succ]
  refine led_take (i := 13) (v := ?v13) rfl (by kernel_rfl) (by kernel_rfl) (by kernel_rfl) (by kernel_rfl) (fun _ _ _ h => h) (.inl ⟨by rfl, ?hy13⟩) S0 ?rest13
  case hy13 =>
    rintro w' ⟨h1, h2, h3, h4, h5, h6⟩
    go_simp
    all_goals with_reducible rfl
  try simp only [Act.put, List.setIfInBounds_toArray, List.set_cons_zero, List.set_cons_succ]
  refine led_take (i := 14) (v := ?v14) rfl (by kernel_rfl) (by kernel_rfl) (by kernel_rfl) (by kernel_rfl) (fun _ _ _ h => h) (.inl ⟨by rfl, ?hy14⟩) S0 ?rest14
  case hy14 =>
    rintro w' ⟨h1, h2, h3, h4, h5, h6⟩
    go_simp
    all_goals with_reducible rfl
  try simp only [Act.put, List.setIfInBounds_toArray, List.set_cons_zero, List.set_cons_succ]
  refine led_one (i := 15) rfl (by kernel_rfl) ?_
  intro K15 hK15
  rw [if_pos (by rfl)]
  go_simp
  refine hK15 _ _ (fun _ => S1) ?_
  clear hK15
  try simp only [Act.put, List.setIfInBounds_toArray, List.set_cons_zero, List.set_cons_succ]
  refine led_one (i := 16) rfl (by kernel_rfl) ?_
  intro K16 hK16
  refine step_append_mv rfl _ _ rfl B (.slice oa out.length oc) out.length out m1 m2 f1 f2 (by simp [Act.eval]) HOW.out HFM.out (w.alloc (.cells #[.int .i64 f1, .int .i64 f2] 24)).drew.heap.size (by simp [Act.eval]) (cell_arr (heap_alloc_new _ _) rfl) (cell_arr (heap_alloc_new _ _) rfl) (cell_arr (heap_alloc_new _ _) rfl) (cell_arr (heap_alloc_new _ _) rfl) (by have := HOL.out; omega) (by simp; have := HBS.out; omega) ?_
  intro v7 w7 h7 g7
  obtain ⟨S7, HP7⟩ := HPU.out v7 w7 h7 g7
  refine hK16 _ _ (fun _ => S7) ?_
  clear hK16
  obtain ⟨a7, k7, e7, _, _⟩ := own_slice h7.out
  subst e7
  try simp only [Act.put, List.setIfInBounds_toArray, List.set_cons_zero, List.set_cons_succ]
  refine led_one (i := 17) rfl (by kernel_rfl) ?_
  intro K17 hK17
  rw [if_pos (by rfl)]
  go_simp
  refine hK17 _ _ (fun _ => S7) ?_
  clear hK17
  try simp only [Act.put, List.setIfInBounds_toArray, List.set_cons_zero, List.set_cons_succ]
  refine led_one (i := 18) rfl (by kernel_rfl) ?_
  intro K18 hK18
  rw [if_pos (by rfl)]
  go_simp
  refine hK18 _ _ (fun _ => S7) ?_
  clear hK18
  try simp only [Act.put, List.setIfInBounds_toArray, List.set_cons_zero, List.set_cons_succ]
  refine led_one (i := 19) rfl (by kernel_rfl) ?_
  intro K19 hK19
  rw [if_pos (by rfl)]
  obtain ⟨_, q7, _⟩ := S7
  have p7 := HP7.out.2.2
  go_simp
  refine hK19 _ _ (fun h => absurd rfl h) ?_
  clear hK19 S0 S1 q7 p7
  refine led_done (by kernel_rfl) ?_

  obtain ⟨W8, hW8⟩ : ∃ W, W = w7.setCell ⟨sb, 4, none⟩ (.slice a7 (out.length + 1) k7) := ⟨_, rfl⟩
  rw [← hW8] at HP7 ⊢
  have HQ8 : Hid (SQ W8 B sb gb sm rm (some ⟨b, o, none⟩) ln lc (.slice a7 (out.length + 1) k7) l A A (out ++ [((m1, m2), (f1, f2))])) := HP7.out.1.1
  have HV8 : Hid (∀ g, (Value.slice a7 (out.length + 1) k7).ownBlock = some g → (Value.slice oa out.length oc).ownBlock = some g ∨ w.heap.size ≤ g) := HP7.out.2.1
  have HO8 : Hid (Only (SF sb gb rm (.slice oa out.length oc)) w W8) := HP7.out.1.2
  have y1 : W8.cell? ⟨sb, 1, none⟩ = some (.slice (some ⟨gb, 0, none⟩) ln ln) := cell_arr HQ8.out.box rfl
  have yl := HQ8.out.lf.cell (i := i) (by simp [lftB]; omega)
  have yz := HQ8.out.lf.fz i
  clear hW8 h7 g7 HP7 HPU HOW
  obtain ⟨W9, hW9⟩ : ∃ W, W = W8.setCell ⟨gb, i, none⟩ (.bool false) := ⟨_, rfl⟩
  have HQ9 : Hid (SQ W9 B sb gb sm rm (some ⟨b, o, none⟩) ln lc (.slice a7 (out.length + 1) k7) l (A.erase l[i]) A (out ++ [((m1, m2), (f1, f2))]) ∧ Only (SF sb gb rm (.slice a7 (out.length + 1) k7)) W8 W9) := by rw [hW9]; exact HQ8.out.put2 HAN.out HLN.out hi
  obtain ⟨nr, hh, hn1, hR9⟩ := HQ9.out.1.rd
  have z0 : W9.cell? ⟨sb, 0, none⟩ = some (.slice (some ⟨b, o, none⟩) ln lc) := cell_arr HQ9.out.1.box rfl
  have z3 : W9.cell? ⟨sb, 3, none⟩ = some (.map (some rm)) := cell_arr HQ9.out.1.box rfl
  have hM9 : AtM W9 b o l := by
    obtain ⟨b2, o2, e2, _, h2⟩ := HQ9.out.1.ar (by rintro rfl; simp at hi)
    cases e2
    exact h2
  obtain ⟨_, _, t2, t3⟩ := hM9.cell i hi
  rw [HLI.out] at t2 t3
  simp only at t2 t3
  have hlk := (hR9.move (w' := W9.drew) rfl).look HFF.out
  simp only at hlk
  obtain ⟨q, hq⟩ : ∃ q, cntR A (m3, m4) = q := ⟨_, rfl⟩
  rw [hq] at hlk
  have hmem : ((m1, m2), (m3, m4)) ∈ A := by rw [← HLI.out]; exact HMA.out
  have hq1 : 1 ≤ q ∧ q ≤ 1000000 := by
    have h1 := count_erase_map Prod.snd hmem (m3, m4)
    rw [one_self] at h1
    have h2 := List.count_le_length (a := (m3, m4)) (l := A.map Prod.snd)
    have h3 := HQ9.out.1.al
    rw [List.length_map] at h2
    unfold cntR at hq
    omega
  have hz2 := HQ9.out.1.sz
  obtain ⟨v0, st, we, h1, hen, hMe, hge, hst⟩ := (hR9.move (w' := W9.drew) rfl).entry (by omega) HFF.out
  have T0 : (fun w' : World => w'.cell? ⟨sb, 0, none⟩ = some (.slice (some ⟨b, o, none⟩) ln lc) ∧ w'.cell? ⟨sb, 3, none⟩ = some (.map (some rm)) ∧ w'.cell? ⟨b, o + i * 4 + 2, none⟩ = some (.int .i64 m3) ∧ w'.cell? ⟨b, o + i * 4 + 3, none⟩ = some (.int .i64 m4) ∧ (Instr.lookup 51 (.map (some rm)) (.agg #[.int .i64 m3, .int .i64 m4]) false).run Try.prog w' = .ok (.int .i64 q) w') W9.drew := ⟨z0, z3, t2, t3, hlk⟩
  have hap := HQ9.out.1.apart
  have kk : ∀ {a : Addr} {u : Value}, W9.cell? a = some u → a.block ≠ rm → we.cell? a = some u := fun {a u} h1 h2 => (World.cell?_of_block (hge.block a.block (block_lt_of_cell h1) (fun e => h2 (by cases e; rfl)))).trans h1
  have hbrm : b ≠ rm := by have := HQ9.out.1.lo.2.2.2; have := HBB.out; omega
  have hlk1 := hMe.look HFF.out
  rw [hq] at hlk1
  have T1 : (fun w' : World => w'.cell? ⟨sb, 0, none⟩ = some (.slice (some ⟨b, o, none⟩) ln lc) ∧ w'.cell? ⟨sb, 3, none⟩ = some (.map (some rm)) ∧ w'.cell? ⟨b, o + i * 4 + 2, none⟩ = some (.int .i64 m3) ∧ w'.cell? ⟨b, o + i * 4 + 3, none⟩ = some (.int .i64 m4) ∧ (Instr.lookup 51 (.map (some rm)) (.agg #[.int .i64 m3, .int .i64 m4]) false).run Try.prog w' = .ok (.int .i64 q) w') we := ⟨kk z0 hap.2.2.1, kk z3 hap.2.2.1, kk t2 hbrm, kk t3 hbrm, hlk1⟩
  obtain ⟨w3, hes, hM3, hg3⟩ := hst we rfl (q - 1) (by unfold Fits; omega)
  have HF3 : Hid (SQ w3 B sb gb sm rm (some ⟨b, o, none⟩) ln lc (.slice a7 (out.length + 1) k7) l (A.erase l[i]) (A.erase l[i]) (out ++ [((m1, m2), (f1, f2))]) ∧ Only (SF sb gb rm (.slice a7 (out.length + 1) k7)) W9 w3) := by
    have hge0 : W9.drew.grownBy w3 (some rm) := World.grownBy.trans hge hg3
    have hge' : W9.grownBy w3 (some rm) := ⟨hge0.os, hge0.tape, hge0.output, hge0.size, hge0.block⟩
    rw [HLI.out]
    have e1 : (fun q' => if q' = (m3, m4) then q - 1 else cntR A q') = cntR (A.erase ((m1, m2), (m3, m4))) := by rw [cntR_erase hmem, ← hq]
    rw [e1] at hM3
    have h4 := HQ9.out.1
    rw [HLI.out] at h4
    have h5 := List.length_erase_of_mem hmem
    have h6 := List.length_pos_of_mem hmem
    exact h4.put3 hM3 (by omega) (by have := h4.al; omega) hge'
  clear hM9 hR9 hMe hge hst hM3 hg3 kk hap hlk hlk1 hmem
  simp only at hen hes
  have hwr : IntKind.i64.wrap (q - 1) = q - 1 := by rw [IntKind.wrap_i64]; omega
  go_wp2_with fail
  rw [← hW9]
  clear hW9 y1 yl yz
  refine led_start (S := fun w' : World => w'.cell? ⟨sb, 0, none⟩ = some (.slice (some ⟨b, o, none⟩) ln lc) ∧ w'.cell? ⟨sb, 3, none⟩ = some (.map (some rm)) ∧ w'.cell? ⟨b, o + i * 4 + 2, none⟩ = some (.int .i64 m3) ∧ w'.cell? ⟨b, o + i * 4 + 3, none⟩ = some (.int .i64 m4) ∧ (Instr.lookup 51 (.map (some rm)) (.agg #[.int .i64 m3, .int .i64 m4]) false).run Try.prog w' = .ok (.int .i64 q) w') (z := 16) (by kernel_rfl) ?_
  show led _ _ _ _ _ 17 _ _ _
  refine led_take (i := 0) (v := ?v0b) rfl (by kernel_rfl) (by kernel_rfl) (by kernel_rfl) (by kernel_rfl) (fun _ _ _ h => h) (.inl ⟨by rfl, ?hy0b⟩) T0 ?rest0b
  case hy0b =>
    rintro w' ⟨h1, h2, h3, h4, h5⟩
    go_simp
    all_goals with_reducible rfl
  try simp only [Act.put, List.setIfInBounds_toArray, List.set_cons_zero, List.set_cons_succ]
  refine led_take (i := 1) (v := ?v1b) rfl (by kernel_rfl) (by kernel_rfl) (by kernel_rfl) (by kernel_rfl) (fun _ _ _ h => h) (.inl ⟨by rfl, ?hy1b⟩) T0 ?rest1b
  case hy1b =>
    rintro w' ⟨h1, h2, h3, h4, h5⟩
    go_simp
    all_goals with_reducible rfl
  try simp only [Act.put, List.setIfInBounds_toArray, List.set_cons_zero, List.set_cons_succ]
  refine led_take (i := 2) (v := ?v2b) rfl (by kernel_rfl) (by kernel_rfl) (by kernel_rfl) (by kernel_rfl) (fun _ _ _ h => h) (.inl ⟨by rfl, ?hy2b⟩) T0 ?rest2b
  case hy2b =>
    rintro w' ⟨h1, h2, h3, h4, h5⟩
    go_simp
    all_goals with_reducible rfl
  try simp only [Act.put, List.setIfInBounds_toArray, List.set_cons_zero, List.set_cons_succ]
  refine led_take (i := 3) (v := ?v3b) rfl (by kernel_rfl) (by kernel_rfl) (by kernel_rfl) (by kernel_rfl) (fun _ _ _ h => h) (.inl ⟨by rfl, ?hy3b⟩) T0 ?rest3b
  case hy3b =>
    rintro w' ⟨h1, h2, h3, h4, h5⟩
    go_simp
    all_goals with_reducible rfl
  try simp only [Act.put, List.setIfInBounds_toArray, List.set_cons_zero, List.set_cons_succ]
  refine led_take (i := 4) (v := ?v4b) rfl (by kernel_rfl) (by kernel_rfl) (by kernel_rfl) (by kernel_rfl) (fun _ _ _ h => h) (.inl ⟨by rfl, ?hy4b⟩) T0 ?rest4b
  case hy4b =>
    rintro w' ⟨h1, h2, h3, h4, h5⟩
    go_simp
    all_goals with_reducible rfl
  try simp only [Act.put, List.setIfInBounds_toArray, List.set_cons_zero, List.set_cons_succ]
  refine led_take (i := 5) (v := ?v5b) rfl (by kernel_rfl) (by kernel_rfl) (by kernel_rfl) (by kernel_rfl) (fun _ _ _ h => h) (.inl ⟨by rfl, ?hy5b⟩) T0 ?rest5b
  case hy5b =>
    rintro w' ⟨h1, h2, h3, h4, h5⟩
    go_simp
    all_goals with_reducible rfl
  try simp only [Act.put, List.setIfInBounds_toArray, List.set_cons_zero, List.set_cons_succ]
  refine led_take (i := 6) (v := ?v6b) rfl (by kernel_rfl) (by kernel_rfl) (by kernel_rfl) (by kernel_rfl) (fun _ _ _ h => h) (.inl ⟨by rfl, ?hy6b⟩) T0 ?rest6b
  case hy6b =>
    rintro w' ⟨h1, h2, h3, h4, h5⟩
    go_simp
    all_goals with_reducible rfl
  try simp only [Act.put, List.setIfInBounds_toArray, List.set_cons_zero, List.set_cons_succ]
  refine led_take (i := 7) (v := ?v7b) rfl (by kernel_rfl) (by kernel_rfl) (by kernel_rfl) (by kernel_rfl) (fun _ _ _ h => h) (.inl ⟨by rfl, ?hy7b⟩) T0 ?rest7b
  case hy7b =>
    rintro w' ⟨h1, h2, h3, h4, h5⟩
    go_simp
    all_goals with_reducible rfl
  try simp only [Act.put, List.setIfInBounds_toArray, List.set_cons_zero, List.set_cons_succ]
  refine led_take (i := 8) (v := ?v8b) rfl (by kernel_rfl) (by kernel_rfl) (by kernel_rfl) (by kernel_rfl) (fun _ _ _ h => h) (.inl ⟨by rfl, ?hy8b⟩) T0 ?rest8b
  case hy8b =>
    rintro w' ⟨h1, h2, h3, h4, h5⟩
    go_simp
    all_goals with_reducible rfl
  try simp only [Act.put, List.setIfInBounds_toArray, List.set_cons_zero, List.set_cons_succ]
  refine led_take (i := 9) (v := ?v9b) rfl (by kernel_rfl) (by kernel_rfl) (by kernel_rfl) (by kernel_rfl) (fun _ _ _ h => h) (.inl ⟨by rfl, ?hy9b⟩) T0 ?rest9b
  case hy9b =>
    rintro w' ⟨h1, h2, h3, h4, h5⟩
    go_simp
    all_goals with_reducible rfl
  try simp only [Act.put, List.setIfInBounds_toArray, List.set_cons_zero, List.set_cons_succ]
  refine led_take (i := 10) (v := ?v10b) rfl (by kernel_rfl) (by kernel_rfl) (by kernel_rfl) (by kernel_rfl) (fun _ _ _ h => h) (.inl ⟨by rfl, ?hy10b⟩) T0 ?rest10b
  case hy10b =>
    rintro w' ⟨h1, h2, h3, h4, h5⟩
    go_simp
    all_goals with_reducible rfl
  try simp only [Act.put, List.setIfInBounds_toArray, List.set_cons_zero, List.set_cons_succ]
  refine led_take (i := 11) (v := ?v11b) rfl (by kernel_rfl) (by kernel_rfl) (by kernel_rfl) (by kernel_rfl) (fun _ _ _ h => h) (.inl ⟨by rfl, ?hy11b⟩) T0 ?rest11b
  case hy11b =>
    rintro w' ⟨h1, h2, h3, h4, h5⟩
    go_simp
    all_goals with_reducible rfl
  try simp only [Act.put, List.setIfInBounds_toArray, List.set_cons_zero, List.set_cons_succ]
  refine led_take (i := 12) (v := ?v12b) rfl (by kernel_rfl) (by kernel_rfl) (by kernel_rfl) (by kernel_rfl) (fun _ _ _ h => h) (.inl ⟨by rfl, ?hy12b⟩) T0 ?rest12b
  case hy12b =>
    rintro w' ⟨h1, h2, h3, h4, h5⟩
    go_simp
    all_goals with_reducible rfl
  try simp only [Act.put, List.setIfInBounds_toArray, List.set_cons_zero, List.set_cons_succ]
  refine led_take (i := 13) (v := ?v13b) rfl (by kernel_rfl) (by kernel_rfl) (by kernel_rfl) (by kernel_rfl) (fun _ _ _ h => h) (.inl ⟨by rfl, ?hy13b⟩) T0 ?rest13b
  case hy13b =>
    rintro w' ⟨h1, h2, h3, h4, h5⟩
    go_simp
    all_goals with_reducible rfl
  try simp only [Act.put, List.setIfInBounds_toArray, List.set_cons_zero, List.set_cons_succ]
  refine led_one (i := 14) rfl (by kernel_rfl) ?_
  intro K14 hK14
  rw [if_pos (by rfl)]
  go_simp
  refine hK14 _ _ (fun _ => T1) ?_
  clear hK14
  try simp only [Act.put, List.setIfInBounds_toArray, List.set_cons_zero, List.set_cons_succ]
  refine led_one (i := 15) rfl (by kernel_rfl) ?_
  intro K15 hK15
  rw [if_pos (by rfl)]
  go_simp
  refine hK15 _ _ (fun _ => T1) ?_
  clear hK15
  try simp only [Act.put, List.setIfInBounds_toArray, List.set_cons_zero, List.set_cons_succ]
  refine led_one (i := 16) rfl (by kernel_rfl) ?_
  intro K16 hK16
  rw [if_pos (by rfl)]
  go_simp
  refine hK16 _ _ (fun h => absurd rfl h) ?_
  clear hK16 T0 T1
  refine led_done (by kernel_rfl) ?_

  refine bodyPost_end (v := .tuple #[]) (by simp [results, Try.results34, go_sem]) rfl ?_
  refine ⟨rfl, .slice a7 (out.length + 1) k7, ?_, ?_⟩
  · have := HF3.out.1
    rw [HLI.out] at this ⊢
    exact this
  · have hF : ∀ k, k < w.heap.size → SF sb gb rm (.slice a7 (out.length + 1) k7) k → SF sb gb rm (.slice oa out.length oc) k := fun k hk h => by
      rcases h with h | h | h | h
      · exact .inl h
      · exact .inr (.inl h)
      · exact .inr (.inr (.inl h))
      · rcases HV8.out k h with h | h
        · exact .inr (.inr (.inr h))
        · omega
    exact (HO8.out.trans HQ9.out.2 hF).trans HF3.out.2 hF
end Go.Proofs.Ytdoiblknbpbhaaa
