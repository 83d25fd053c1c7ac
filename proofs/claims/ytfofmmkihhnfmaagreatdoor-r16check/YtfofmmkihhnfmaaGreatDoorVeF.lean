import Derived.Test.YtfofmmkihhnfmaaGreatDoorVeE
set_option linter.unusedVariables false
set_option linter.unusedSimpArgs false
namespace Go.Proofs.YtfofmmkihhnfmaaGreatDoor
open Go.ChangeShapes Go.WideShapes Go.ChangeAt Go.RowKit Go.Maps

theorem stsE_cells {W : World} {ao : Option Addr} {c z : Nat} {xs : List (List Value)} (h : StsG W ao c z xs) : xs ≠ [] → ∃ ad, ao = some ad ∧ ∀ j u, xs.flatten[j]? = some u → W.cell? (ad.add j) = some u := fun hne => by
  obtain ⟨b, o, e, _, hc⟩ := h.out hne
  exact ⟨⟨b, o, none⟩, e, fun j u hu => by rw [add_noneR]; exact hc j u hu⟩
theorem rowE_gi {w0 w' : World} {B B' e e' z z' : Nat} {u v v' : Value} {xs ys : List (List Value)} (h : Row w0 B e z u xs) (hv : Row w0 B' e' z' v ys) (g : GI B' w0 w' v v') (hne : e' ≠ e) : Row w' B e z u xs :=
  h.move fun b hb => g.blk b (own_block h.out hb).2 fun q => by
    rcases h.out.2 with ⟨q0, _⟩ | ⟨b1, cap, cur, e1, _, e3, _⟩
    · rw [q0] at hb; cases hb
    · have : b1 = b := by rw [e1] at hb; simpa [Value.ownBlock] using hb
      subst this
      exact own_not hv.out e3 hne q
theorem rowE_slice {w : World} {B e z : Nat} {v : Value} {xs : List (List Value)} (h : Row w B e z v xs) : ∃ a c, v = .slice a xs.length c := by
  obtain ⟨ao, c, ev, _⟩ := own_slice h.out
  exact ⟨ao, c, ev⟩
/-- The marks. -/
def mkI : List Value := [.int .i64 (-71), .int .i64 0, .int .i64 0, .int .i64 0, .int .i64 0]
def mkR : List Value := [.string ⟨#[]⟩, .int .i64 0, .int .i64 (-71), .int .i64 0, .int .i64 0]
/-- Code that was lent, in its memory. -/
structure LnC (w W : World) (u v : Value) (xs ys : List (List Value)) : Prop where
  ins : Row W w.heap.size 71 5 u xs
  fns : Row W w.heap.size 59 5 v ys
  low : Below w.heap.size w W
theorem LnC.keep {w W W' u v xs ys} (h : LnC w W u v xs ys) (b : Below W.heap.size W W') : LnC w W' u v xs ys := ⟨h.ins.keep b, h.fns.keep b, h.low.trans (b.mono h.low.size)⟩
theorem LnC.addI {w W W' : World} {u v u'} {xs ys zs} (h : LnC w W u v xs ys) (hr : Row W' w.heap.size 71 5 u' (xs ++ zs)) (g : GI w.heap.size W W' u u') : LnC w W' u' v (xs ++ zs) ys :=
  ⟨hr, rowE_gi h.fns h.ins g (by decide), h.low.trans (g.bel.mono (Nat.le_refl _))⟩
theorem LnC.addR {w W W' : World} {u v v'} {xs ys zs} (h : LnC w W u v xs ys) (hr : Row W' w.heap.size 59 5 v' (ys ++ zs)) (g : GI w.heap.size W W' v v') : LnC w W' u v' xs (ys ++ zs) :=
  ⟨rowE_gi h.ins h.fns g (by decide), hr, h.low.trans (g.bel.mono (Nat.le_refl _))⟩
theorem LnC.first {w W : World} (b : Below w.heap.size w W) : LnC w W (.slice none 0 0) (.slice none 0 0) [] [] := ⟨Row.nil _ _ _ _, Row.nil _ _ _ _, b⟩
theorem LnC.box {w W : World} {u v xs ys b A} (h : LnC w W u v xs ys) (hk : W.heap[b]? = some (.cells A 25 (0, 0))) (hb : w.heap.size ≤ b) (i : Nat) (x : Value) : LnC w (W.setCell ⟨b, i, none⟩ x) u v xs ys :=
  ⟨h.ins.move fun g hg => heap_set_other fun e => own_not h.ins.out hk (by decide) (e ▸ hg), h.fns.move fun g hg => heap_set_other fun e => own_not h.fns.out hk (by decide) (e ▸ hg), h.low.setCell hb _⟩
/-- Its boxes. -/
structure LnB (W : World) (p : Nat) (A B : Array Value) : Prop where
  k0 : W.heap[p]? = some (.cells A 25 (0, 0))
  k1 : W.heap[p + 1]? = some (.cells B 25 (0, 0))
theorem LnB.keep {W W' p A B} (h : LnB W p A B) (b : Below W.heap.size W W') : LnB W' p A B := ⟨(b.block _ (Array.getElem?_eq_some_iff.1 h.k0).1).trans h.k0, (b.block _ (Array.getElem?_eq_some_iff.1 h.k1).1).trans h.k1⟩
theorem LnB.gi {W W' : World} {p A B K e z} {v v' : Value} {xs : List (List Value)} (h : LnB W p A B) (hv : Row W K e z v xs) (g : GI K W W' v v') (hne : e ≠ 25) : LnB W' p A B :=
  ⟨(g.blk _ (Array.getElem?_eq_some_iff.1 h.k0).1 (own_not hv.out h.k0 hne)).trans h.k0, (g.blk _ (Array.getElem?_eq_some_iff.1 h.k1).1 (own_not hv.out h.k1 hne)).trans h.k1⟩
theorem rivE_len (C : List Ri) : ∀ y ∈ C.map riv, y.length = 5 := fun y hy => by obtain ⟨x, _, rfl⟩ := List.mem_map.1 hy; rfl
theorem rfvE_len (C : List Rf) : ∀ y ∈ C.map rfv, y.length = 5 := fun y hy => by obtain ⟨x, _, rfl⟩ := List.mem_map.1 hy; rfl
set_option maxRecDepth 100000 in
set_option maxHeartbeats 4000000 in
theorem rLent_any (w : World) (ca : Option Addr) (cn cc : Nat) (fa : Option Addr) (fn fc : Nat) (m : Int) (C : List Ri) (FS : List Rf) (hcn : cn = C.length) (hfn : fn = FS.length) (hC : StsG w ca cc 5 (C.map riv)) (hF : StsG w fa fc 5 (FS.map rfv)) (hlen : cn ≤ 100000000) (hfl : fn ≤ 1000000) :
    Calls Tryz.prog 14 #[.agg #[.slice ca cn cc, .slice fa fn fc, .int .i64 m]] w fun e w' => ∃ g gc h hc, e = .returned (.agg #[.slice (some ⟨g, 0, none⟩) cn gc, .slice (some ⟨h, 0, none⟩) fn hc, .int .i64 m]) ∧ LnC w w' (.slice (some ⟨g, 0, none⟩) (cn + 1) gc) (.slice (some ⟨h, 0, none⟩) (fn + 1) hc) (C.map riv ++ [mkI]) (FS.map rfv ++ [mkR]) := by
  obtain ⟨W1, hW1⟩ : ∃ W, W = (w.alloc (.cells #[.slice ca cn cc, .slice fa fn fc, .int .i64 m] 25)).alloc (.cells #[.slice none 0 0, .slice none 0 0, .int .i64 0] 25) := ⟨_, rfl⟩
  have eal : W1 = al w [.cells #[.slice ca cn cc, .slice fa fn fc, .int .i64 m] 25, .cells #[.slice none 0 0, .slice none 0 0, .int .i64 0] 25] := hW1
  obtain ⟨p, hp⟩ : ∃ p, p = w.heap.size := ⟨_, rfl⟩
  have k0 : W1.heap[p]? = some (.cells #[.slice ca cn cc, .slice fa fn fc, .int .i64 m] 25 (0, 0)) := by rw [eal, hp]; exact al_at _ w 0 (by simp)
  have k1 : W1.heap[p + 1]? = some (.cells #[.slice none 0 0, .slice none 0 0, .int .i64 0] 25 (0, 0)) := by rw [eal, hp]; exact al_at _ w 1 (by simp)
  have b1 : Below w.heap.size w W1 := by rw [eal]; exact al_below _ w
  have HL1 : Hid (LnC w W1 (.slice none 0 0) (.slice none 0 0) [] []) := LnC.first b1
  have HIN : Hid (∀ W, Below w.heap.size w W → StsG W ca cc 5 (C.map riv) ∧ StsG W fa fc 5 (FS.map rfv)) := fun W bW => ⟨hC.below bW (Nat.le_refl _), hF.below bW (Nat.le_refl _)⟩
  have HLE : Hid (cn = C.length ∧ fn = FS.length ∧ cn ≤ 100000000 ∧ fn ≤ 1000000) := ⟨hcn, hfn, hlen, hfl⟩
  have HB1 : Hid (LnB W1 p #[.slice ca cn cc, .slice fa fn fc, .int .i64 m] #[.slice none 0 0, .slice none 0 0, .int .i64 0]) := ⟨k0, k1⟩
  have HP : Hid (p = w.heap.size) := hp
  clear hcn hfn hC hF hlen hfl eal k0 k1 b1
  go_enter Tryz.func14, Tryz.ntmps14
  go_upto_region 1 with fail
  rw [← hW1, ← hp]
  clear hW1 hp
  have l0 := (Array.getElem?_eq_some_iff.1 HB1.out.k0).1
  have c0 : W1.cell? ⟨p, 0, none⟩ = some (.slice ca cn cc) := cell_arr HB1.out.k0 rfl
  have c1 : W1.cell? ⟨p, 1, none⟩ = some (.slice fa fn fc) := cell_arr HB1.out.k0 rfl
  have c2 : W1.cell? ⟨p, 2, none⟩ = some (.int .i64 m) := cell_arr HB1.out.k0 rfl
  have HS1 : Hid (StsG W1 ca cc 5 (C.map riv)) := (HIN.out W1 HL1.out.low).1
  go_upto_region 2 with (at_builtin; refine wpList_step fun K hK => ?_; refine step_append_rowsG rfl _ _ 22 71 5 _ 40 rfl Tryz.underlying22 info_ri rfl (by decide) (by decide) w.heap.size (.slice none 0 0) ([]) rfl HL1.out.ins ca cn cc rfl (C.map riv) (by rw [List.length_map]; exact HLE.out.1) (rivE_len C) (stsE_cells HS1.out) (HS1.out.one) (by have := HLE.out; show 0 + cn ≤ _; omega) HL1.out.low.size ?_; intro v' w2 hr hg; refine hK _ _ ?_; clear hK; have q := HL1.out.addI hr hg; have q2 := HB1.out.gi HL1.out.ins hg (by decide); rw [List.nil_append] at q; obtain ⟨a2, cc2, e2⟩ := rowE_slice q.ins; simp only [List.length_append, List.length_map, List.length_cons, List.length_nil] at e2; rw [← HLE.out.1] at e2; subst e2; have HL2 : Hid _ := q; have HB2 : Hid _ := q2; clear q q2 hr hg)
  obtain ⟨X2, hX2⟩ : ∃ X, X = w2.alloc (.cells #[.int .i64 (-71), .int .i64 0, .int .i64 0, .int .i64 0, .int .i64 0] 71) := ⟨_, rfl⟩
  obtain ⟨b2, hb2⟩ : ∃ b, b = w2.heap.size := ⟨_, rfl⟩
  have bX2 : Below w2.heap.size w2 X2 := by rw [hX2]; exact below_newR w2 _
  have HX2 : Hid (StsG X2 (some ⟨b2, 0, none⟩) 1 5 [mkI]) := stsG_exact (xs := [mkI]) (by rw [hX2, hb2]; exact heap_alloc_new _ _) rfl rfl rfl (by show 1 ≤ _; omega)
  have HLX2 : Hid _ := HL2.out.keep bX2
  have HBX2 : Hid _ := HB2.out.keep bX2
  have EX2 : Hid _ := hX2
  have EB2 : Hid _ := hb2
  clear bX2 hX2 hb2
  go_upto_region 3 with (at_builtin; rw [← EB2.out, ← EX2.out]; refine wpList_step fun K hK => ?_; refine step_append_rowsG rfl _ _ 22 71 5 _ 40 rfl Tryz.underlying22 info_ri rfl (by decide) (by decide) w.heap.size (.slice a2 cn cc2) (C.map riv) rfl HLX2.out.ins (some ⟨b2, 0, none⟩) 1 1 rfl ([mkI]) rfl (by intro y hy; simp at hy; subst hy; rfl) (stsE_cells HX2.out) (HX2.out.one) (by have := HLE.out; rw [List.length_map]; omega) HLX2.out.low.size ?_; intro v' w3 hr hg; refine hK _ _ ?_; clear hK; have q := HLX2.out.addI hr hg; have q2 := HBX2.out.gi HLX2.out.ins hg (by decide); obtain ⟨a3, cc3, e3⟩ := rowE_slice q.ins; simp only [List.length_append, List.length_map, List.length_cons, List.length_nil] at e3; rw [← HLE.out.1] at e3; subst e3; have HL3 : Hid _ := q; have HB3 : Hid _ := q2; clear q q2 hr hg)
  clear l0 c0 c1 c2 HL1 HB1 HS1 HL2 HB2 HX2 HLX2 HBX2 EX2 EB2
  have l0 := (Array.getElem?_eq_some_iff.1 HB3.out.k0).1
  have c0 : w3.cell? ⟨p, 0, none⟩ = some (.slice ca cn cc) := cell_arr HB3.out.k0 rfl
  have c1 : w3.cell? ⟨p, 1, none⟩ = some (.slice fa fn fc) := cell_arr HB3.out.k0 rfl
  have c2 : w3.cell? ⟨p, 2, none⟩ = some (.int .i64 m) := cell_arr HB3.out.k0 rfl
  have HS3 : Hid (StsG w3 fa fc 5 (FS.map rfv)) := (HIN.out w3 HL3.out.low).2
  go_upto_region 4 with (at_builtin; refine wpList_step fun K hK => ?_; refine step_append_rowsG rfl _ _ 23 59 5 _ 48 rfl Tryz.underlying23 info_rf rfl (by decide) (by decide) w.heap.size (.slice none 0 0) ([]) rfl HL3.out.fns fa fn fc rfl (FS.map rfv) (by rw [List.length_map]; exact HLE.out.2.1) (rfvE_len FS) (stsE_cells HS3.out) (HS3.out.one) (by have := HLE.out; show 0 + fn ≤ _; omega) HL3.out.low.size ?_; intro v' w4 hr hg; refine hK _ _ ?_; clear hK; have q := HL3.out.addR hr hg; have q2 := HB3.out.gi HL3.out.fns hg (by decide); rw [List.nil_append] at q; obtain ⟨a4, cc4, e4⟩ := rowE_slice q.fns; simp only [List.length_append, List.length_map, List.length_cons, List.length_nil] at e4; rw [← HLE.out.2.1] at e4; subst e4; have HL4 : Hid _ := q; have HB4 : Hid _ := q2; clear q q2 hr hg)
  clear l0 c0 c1 c2 HL3 HB3 HS3
  obtain ⟨X4, hX4⟩ : ∃ X, X = w4.alloc (.cells #[.string ⟨#[]⟩, .int .i64 0, .int .i64 (-71), .int .i64 0, .int .i64 0] 59) := ⟨_, rfl⟩
  obtain ⟨b4, hb4⟩ : ∃ b, b = w4.heap.size := ⟨_, rfl⟩
  have bX4 : Below w4.heap.size w4 X4 := by rw [hX4]; exact below_newR w4 _
  have HX4 : Hid (StsG X4 (some ⟨b4, 0, none⟩) 1 5 [mkR]) := stsG_exact (xs := [mkR]) (by rw [hX4, hb4]; exact heap_alloc_new _ _) rfl rfl rfl (by show 1 ≤ _; omega)
  have HLX4 : Hid _ := HL4.out.keep bX4
  have HBX4 : Hid _ := HB4.out.keep bX4
  have EX4 : Hid _ := hX4
  have EB4 : Hid _ := hb4
  clear bX4 hX4 hb4
  go_upto_region 5 with (at_builtin; rw [← EB4.out, ← EX4.out]; refine wpList_step fun K hK => ?_; refine step_append_rowsG rfl _ _ 23 59 5 _ 48 rfl Tryz.underlying23 info_rf rfl (by decide) (by decide) w.heap.size (.slice a4 fn cc4) (FS.map rfv) rfl HLX4.out.fns (some ⟨b4, 0, none⟩) 1 1 rfl ([mkR]) rfl (by intro y hy; simp at hy; subst hy; rfl) (stsE_cells HX4.out) (HX4.out.one) (by have := HLE.out; rw [List.length_map]; omega) HLX4.out.low.size ?_; intro v' w5 hr hg; refine hK _ _ ?_; clear hK; have q := HLX4.out.addR hr hg; have q2 := HBX4.out.gi HLX4.out.fns hg (by decide); obtain ⟨a5, cc5, e5⟩ := rowE_slice q.fns; simp only [List.length_append, List.length_map, List.length_cons, List.length_nil] at e5; rw [← HLE.out.2.1] at e5; subst e5; have HL5 : Hid _ := q; have HB5 : Hid _ := q2; clear q q2 hr hg)
  clear HL4 HB4 HX4 HLX4 HBX4 EX4 EB4
  have l0 := (Array.getElem?_eq_some_iff.1 HB5.out.k0).1
  have c0 : w5.cell? ⟨p, 0, none⟩ = some (.slice ca cn cc) := cell_arr HB5.out.k0 rfl
  have c1 : w5.cell? ⟨p, 1, none⟩ = some (.slice fa fn fc) := cell_arr HB5.out.k0 rfl
  have c2 : w5.cell? ⟨p, 2, none⟩ = some (.int .i64 m) := cell_arr HB5.out.k0 rfl
  obtain ⟨g, gc, A, eg, q1, q2, q3, q4⟩ := HL5.out.ins.some (by rw [List.length_append]; simp)
  obtain ⟨h, hc, A2, eh, q5, q6, q7, q8⟩ := HL5.out.fns.some (by rw [List.length_append]; simp)
  simp only [Value.slice.injEq] at eg eh
  obtain ⟨e1, _, e2⟩ := eg
  obtain ⟨e3, _, e4⟩ := eh
  subst e1
  subst e2
  subst e3
  subst e4
  simp only [List.length_append, List.length_map, List.length_cons, List.length_nil] at q1 q5
  rw [← HLE.out.1] at q1
  rw [← HLE.out.2.1] at q5
  have hle1 : cn ≤ cc3 := by omega
  have hle2 : fn ≤ cc5 := by omega
  have hm1 : cc3 ≤ 9223372036854775807 := q2
  have hm2 : cc5 ≤ 9223372036854775807 := q6
  have hcb : cn ≤ 100000000 := HLE.out.2.2.1
  have hfb : fn ≤ 1000000 := HLE.out.2.2.2
  have HBB : Hid _ := HB5.out.k1
  have z0 : w5.cell? ⟨p + 1, 0, none⟩ = some (.slice none 0 0) := cell_arr HB5.out.k1 rfl
  have z1 : w5.cell? ⟨p + 1, 1, none⟩ = some (.slice none 0 0) := cell_arr HB5.out.k1 rfl
  have z2 : w5.cell? ⟨p + 1, 2, none⟩ = some (.int .i64 0) := cell_arr HB5.out.k1 rfl
  have u0 : w5.frozen? ⟨p + 1, 0, none⟩ = false := fz_of HB5.out.k1
  have u1 : w5.frozen? ⟨p + 1, 1, none⟩ = false := fz_of HB5.out.k1
  have u2 : w5.frozen? ⟨p + 1, 2, none⟩ = false := fz_of HB5.out.k1
  clear q1 q2 q3 q4 q5 q6 q7 q8
  go_region
  obtain ⟨W6, hW6⟩ : ∃ W, W = (((w5.setCell ⟨p + 1, 0, none⟩ (.slice (some ⟨g, 0, none⟩) cn cc3)).setCell ⟨p + 1, 1, none⟩ (.slice (some ⟨h, 0, none⟩) fn cc5)).setCell ⟨p + 1, 2, none⟩ (.int .i64 m)).drew := ⟨_, rfl⟩
  have hpw : w.heap.size ≤ p + 1 := by rw [← HP.out]; omega
  have j1 := heap_set_at (i := 0) (v := .slice (some ⟨g, 0, none⟩) cn cc3) HB5.out.k1
  have j2 := heap_set_at (i := 1) (v := .slice (some ⟨h, 0, none⟩) fn cc5) j1
  have j3 := heap_set_at (i := 2) (v := .int .i64 m) j2
  have HJ : Hid (W6.heap[p + 1]? = some (.cells #[.slice (some ⟨g, 0, none⟩) cn cc3, .slice (some ⟨h, 0, none⟩) fn cc5, .int .i64 m] 25 (0, 0))) := by rw [hW6]; exact j3
  have HLN : Hid _ := (((HL5.out.box HB5.out.k1 hpw 0 (.slice (some ⟨g, 0, none⟩) cn cc3)).box j1 hpw 1 (.slice (some ⟨h, 0, none⟩) fn cc5)).box j2 hpw 2 (.int .i64 m)).keep ((Below.refl _ _).drew)
  rw [← hW6] at HLN ⊢
  clear j1 j2 j3 hW6 HBB HL5 HB5 HIN z0 z1 z2 u0 u1 u2 l0 c0 c1 c2
  go_wp2_with fail
  refine bodyPost_ret (v := .agg #[.slice (some ⟨g, 0, none⟩) cn cc3, .slice (some ⟨h, 0, none⟩) fn cc5, .int .i64 m]) ?_ rfl ⟨g, cc3, h, cc5, rfl, HLN⟩
  exact results_cell_row Tryz.results14 _ _ (p + 1) 25 _ (0, 0) _ rfl HJ.out Tryz.underlying25 rfl (by kernel_rfl)
end Go.Proofs.YtfofmmkihhnfmaaGreatDoor
