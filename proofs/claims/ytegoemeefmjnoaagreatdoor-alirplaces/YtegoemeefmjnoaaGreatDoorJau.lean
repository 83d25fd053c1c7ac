import Derived.Test.YtegoemeefmjnoaaGreatDoorJat
set_option linter.unusedVariables false
set_option linter.unusedSimpArgs false
namespace Go.Proofs.YtegoemeefmjnoaaGreatDoor
open Go.ChangeShapes Go.WideShapes Go.ChangeAt Go.RowKit Go.Maps
set_option maxRecDepth 100000 in
set_option maxHeartbeats 4000000 in
theorem ended_any {w : World} {mb so : Nat} {va : Option Addr} {vn vc : Nat} {x1 x2 x3 x4 x5 x6 : Int} {x7 : Bool} (hS : (fun w' : World => w'.cell? ⟨mb, so + 1, none⟩ = some (.slice va vn vc) /\ w'.cell? ⟨mb, so + 1 + 1, none⟩ = some (.int .i64 x1) /\ w'.cell? ⟨mb, so + 1 + 2, none⟩ = some (.int .i64 x2) /\ w'.cell? ⟨mb, so + 1 + 3, none⟩ = some (.int .i64 x3) /\ w'.cell? ⟨mb, so + 1 + 4, none⟩ = some (.int .i64 x4) /\ w'.cell? ⟨mb, so + 1 + 5, none⟩ = some (.int .i64 x5) /\ w'.cell? ⟨mb, so + 1 + 6, none⟩ = some (.int .i64 x6) /\ w'.cell? ⟨mb, so + 1 + 7, none⟩ = some (.bool x7) /\ mb < w'.heap.size) w) :
 Calls Tryz.prog 31 #[.pointer (some ⟨mb, so, none⟩)] w fun e w' => ∃ nb, e = .returned (.agg #[.pointer (some ⟨nb, 0, none⟩), .slice va vn vc, .int .i64 x1, .int .i64 x2, .int .i64 x3, .int .i64 x4, .int .i64 x5, .int .i64 x6, .bool x7, .slice none 0 0]) /\ Below w.heap.size w w' := by
 obtain ⟨W0, hW0⟩ : ∃ W0, W0 = w.alloc (.cells #[.pointer none, .slice none 0 0, .int .i64 0, .int .i64 0, .int .i64 0, .int .i64 0, .int .i64 0, .int .i64 0, .bool false, .slice none 0 0] 73) := ⟨_, rfl⟩
 obtain ⟨rb, hrb⟩ : ∃ rb, rb = w.heap.size := ⟨_, rfl⟩
 have b0 : Below w.heap.size w W0 := by rw [hW0]; exact below_newA w _
 have hz0 : W0.heap[rb]? = some (.cells #[.pointer none, .slice none 0 0, .int .i64 0, .int .i64 0, .int .i64 0, .int .i64 0, .int .i64 0, .int .i64 0, .bool false, .slice none 0 0] 73 (0, 0)) := by rw [hW0, hrb]; exact heap_alloc_new w _
 have hS' : ∀ W, Below w.heap.size w W -> (fun w' : World => w'.cell? ⟨mb, so + 1, none⟩ = some (.slice va vn vc) /\ w'.cell? ⟨mb, so + 1 + 1, none⟩ = some (.int .i64 x1) /\ w'.cell? ⟨mb, so + 1 + 2, none⟩ = some (.int .i64 x2) /\ w'.cell? ⟨mb, so + 1 + 3, none⟩ = some (.int .i64 x3) /\ w'.cell? ⟨mb, so + 1 + 4, none⟩ = some (.int .i64 x4) /\ w'.cell? ⟨mb, so + 1 + 5, none⟩ = some (.int .i64 x5) /\ w'.cell? ⟨mb, so + 1 + 6, none⟩ = some (.int .i64 x6) /\ w'.cell? ⟨mb, so + 1 + 7, none⟩ = some (.bool x7) /\ mb < w'.heap.size) W := fun W hW => by
  obtain ⟨g0, g1, g2, g3, g4, g5, g6, g7, g8⟩ := hS
  have cc := fun (i : Nat) => hW.cell (p := ⟨mb, i, none⟩) g8
  exact ⟨(cc _).trans g0, (cc _).trans g1, (cc _).trans g2, (cc _).trans g3, (cc _).trans g4, (cc _).trans g5, (cc _).trans g6, (cc _).trans g7, by have := hW.size; omega⟩
 have b0d : Below w.heap.size w W0.drew := b0.trans ((Below.refl _ _).drew.mono b0.size)
 have Sz : (fun w' : World => w'.cell? ⟨mb, so + 1, none⟩ = some (.slice va vn vc) /\ w'.cell? ⟨mb, so + 1 + 1, none⟩ = some (.int .i64 x1) /\ w'.cell? ⟨mb, so + 1 + 2, none⟩ = some (.int .i64 x2) /\ w'.cell? ⟨mb, so + 1 + 3, none⟩ = some (.int .i64 x3) /\ w'.cell? ⟨mb, so + 1 + 4, none⟩ = some (.int .i64 x4) /\ w'.cell? ⟨mb, so + 1 + 5, none⟩ = some (.int .i64 x5) /\ w'.cell? ⟨mb, so + 1 + 6, none⟩ = some (.int .i64 x6) /\ w'.cell? ⟨mb, so + 1 + 7, none⟩ = some (.bool x7) /\ mb < w'.heap.size) W0.drew := hS' W0.drew b0d
 have HSS : Hid (∀ W, Below W0.drew.heap.size W0.drew W -> (fun w' : World => w'.cell? ⟨mb, so + 1, none⟩ = some (.slice va vn vc) /\ w'.cell? ⟨mb, so + 1 + 1, none⟩ = some (.int .i64 x1) /\ w'.cell? ⟨mb, so + 1 + 2, none⟩ = some (.int .i64 x2) /\ w'.cell? ⟨mb, so + 1 + 3, none⟩ = some (.int .i64 x3) /\ w'.cell? ⟨mb, so + 1 + 4, none⟩ = some (.int .i64 x4) /\ w'.cell? ⟨mb, so + 1 + 5, none⟩ = some (.int .i64 x5) /\ w'.cell? ⟨mb, so + 1 + 6, none⟩ = some (.int .i64 x6) /\ w'.cell? ⟨mb, so + 1 + 7, none⟩ = some (.bool x7) /\ mb < w'.heap.size) W) := fun W hW => hS' W (b0d.trans (hW.mono b0d.size))
 have hl0 : rb < W0.heap.size := (gl hz0)
 have HZN : Hid (∀ W, Below W0.drew.heap.size W0.drew W -> W.heap[rb]? = some (.cells #[.pointer none, .slice none 0 0, .int .i64 0, .int .i64 0, .int .i64 0, .int .i64 0, .int .i64 0, .int .i64 0, .bool false, .slice none 0 0] 73 (0, 0))) := fun W hW => (hW.block rb hl0).trans hz0
 obtain ⟨nb, hnb⟩ : ∃ nb, nb = W0.drew.heap.size + 1 + 1 := ⟨_, rfl⟩
 have HNW : Hid (Calls Tryz.prog 40 #[] W0.drew fun e w' => e = .returned (.pointer (some ⟨nb, 0, none⟩)) /\ Below W0.drew.heap.size W0.drew w') := by
  rw [hnb]
  exact (new_any W0.drew).mono fun e w' ⟨q1, _, q3, _⟩ => ⟨q1, q3⟩
 have HB0 : Hid _ := b0d
 have HRB : Hid (rb = w.heap.size) := hrb
 have hltm : mb < W0.heap.size := Sz.2.2.2.2.2.2.2.2
 clear hS hS' b0 b0d hnb hz0
 go_enter Tryz.func31, Tryz.ntmps31
 go_upto_region 1 with fail
 rw [<- hW0, <- hrb]
 clear hW0 hrb
 refine lec_start (S := fun w' : World => w'.cell? ⟨mb, so + 1, none⟩ = some (.slice va vn vc) /\ w'.cell? ⟨mb, so + 1 + 1, none⟩ = some (.int .i64 x1) /\ w'.cell? ⟨mb, so + 1 + 2, none⟩ = some (.int .i64 x2) /\ w'.cell? ⟨mb, so + 1 + 3, none⟩ = some (.int .i64 x3) /\ w'.cell? ⟨mb, so + 1 + 4, none⟩ = some (.int .i64 x4) /\ w'.cell? ⟨mb, so + 1 + 5, none⟩ = some (.int .i64 x5) /\ w'.cell? ⟨mb, so + 1 + 6, none⟩ = some (.int .i64 x6) /\ w'.cell? ⟨mb, so + 1 + 7, none⟩ = some (.bool x7) /\ mb < w'.heap.size) (z := 6) (by kernel_rfl) ?_
 show lec _ _ _ _ _ 7 _ _ _
 try simp only [List.size_toArray, List.length_cons, List.length_nil, Array.replicate]
 refine lec_takeP (i := 1) (v := ?v1z) rfl (by kernel_rfl) (by kernel_rfl) (by kernel_rfl) (by kernel_rfl) (fun _ _ _ h => h) (.inl ⟨by rfl, ?hy1z⟩) Sz ?rest1z
 case hy1z =>
  rintro w' _
  go_simp
  all_goals with_reducible rfl
 try simp only [Act.put, List.getElem_toArray, List.getElem_cons_succ, List.getElem_cons_zero, List.setIfInBounds_toArray, List.set_cons_zero, List.set_cons_succ]
 refine lec_takeP (i := 2) (v := ?v2z) rfl (by kernel_rfl) (by kernel_rfl) (by kernel_rfl) (by kernel_rfl) (fun _ _ _ h => h) (.inl ⟨by rfl, ?hy2z⟩) Sz ?rest2z
 case hy2z =>
  rintro w' _
  go_simp
  all_goals with_reducible rfl
 try simp only [Act.put, List.getElem_toArray, List.getElem_cons_succ, List.getElem_cons_zero, List.setIfInBounds_toArray, List.set_cons_zero, List.set_cons_succ]
 refine lec_takeP (i := 3) (v := ?v3z) rfl (by kernel_rfl) (by kernel_rfl) (by kernel_rfl) (by kernel_rfl) (fun _ _ _ h => h) (.inl ⟨by rfl, ?hy3z⟩) Sz ?rest3z
 case hy3z =>
  rintro w' _
  go_simp
  all_goals with_reducible rfl
 try simp only [Act.put, List.getElem_toArray, List.getElem_cons_succ, List.getElem_cons_zero, List.setIfInBounds_toArray, List.set_cons_zero, List.set_cons_succ]
 refine lec_takeT [5, 6] (i := 4) (v := ?v4z) rfl (by kernel_rfl) (by kernel_rfl) (by kernel_rfl) (by kernel_rfl) (fun _ _ _ h => h) (.inl ⟨by rfl, ?hy4z⟩) Sz ?rest4z
 case hy4z =>
  rintro w' ⟨g0, g1, g2, g3, g4, g5, g6, g7, g8⟩
  go_simp
  all_goals with_reducible rfl
 try simp only [Act.put, List.getElem_toArray, List.getElem_cons_succ, List.getElem_cons_zero, List.setIfInBounds_toArray, List.set_cons_zero, List.set_cons_succ]
 refine lec_one (i := 0) rfl (by kernel_rfl) ?_
 intro K0 hK0
 rw [if_pos (by rfl)]
 go_simp
 refine Calls.mono HNW.out ?_
 rintro e wN ⟨rfl, bN⟩
 have SN := HSS.out wN bN
 have HBN : Hid _ := bN
 have hzN := HZN.out wN bN
 clear bN
 go_simp
 refine hK0 _ _ (fun _ => SN) ?_
 clear hK0
 try simp only [Act.put, List.getElem_toArray, List.getElem_cons_succ, List.getElem_cons_zero, List.setIfInBounds_toArray, List.set_cons_zero, List.set_cons_succ]
 refine lec_one (i := 5) rfl (by kernel_rfl) ?_
 intro K5 hK5
 rw [if_pos (by rfl)]
 go_simp
 refine hK5 _ _ (fun _ => SN) ?_
 clear hK5
 try simp only [Act.put, List.getElem_toArray, List.getElem_cons_succ, List.getElem_cons_zero, List.setIfInBounds_toArray, List.set_cons_zero, List.set_cons_succ]
 refine lec_one (i := 6) rfl (by kernel_rfl) ?_
 intro K6 hK6
 rw [if_pos (by rfl)]
 refine wp_store_row _ _ _ rfl rb #[.pointer (some ⟨nb, 0, none⟩), .slice va vn vc, .int .i64 x1, .int .i64 x2, .int .i64 x3, .int .i64 x4, .int .i64 x5, .int .i64 x6, .bool x7, .slice none 0 0] rfl rfl 73 _ hzN (by kernel_rfl) rfl (by kernel_rfl) ?_
 obtain ⟨X2, hX2⟩ : ∃ X2, X2 = wN.setRow rb #[.pointer (some ⟨nb, 0, none⟩), .slice va vn vc, .int .i64 x1, .int .i64 x2, .int .i64 x3, .int .i64 x4, .int .i64 x5, .int .i64 x6, .bool x7, .slice none 0 0] := ⟨_, rfl⟩
 rw [<- hX2]
 refine hK6 _ _ (fun h => by cases h) ?_
 clear hK6
 refine lec_done (by kernel_rfl) ?_
 have HX2 : Hid (X2.heap[rb]? = some (.cells #[.pointer (some ⟨nb, 0, none⟩), .slice va vn vc, .int .i64 x1, .int .i64 x2, .int .i64 x3, .int .i64 x4, .int .i64 x5, .int .i64 x6, .bool x7, .slice none 0 0] 73 (0, 0))) := by rw [hX2]; exact setRow_heap wN rb _ _ _ _ hzN
 have HBX : Hid (Below w.heap.size w X2) := by
  rw [hX2]
  exact below_setRowA (HB0.out.trans (HBN.out.mono HB0.out.size)) (by rw [HRB.out]; exact Nat.le_refl _) _
 clear Sz SN HSS HZN HNW hX2 hzN
 go_wp2_with fail
 refine bodyPost_ret (v := .agg #[.pointer (some ⟨nb, 0, none⟩), .slice va vn vc, .int .i64 x1, .int .i64 x2, .int .i64 x3, .int .i64 x4, .int .i64 x5, .int .i64 x6, .bool x7, .slice none 0 0]) ?_ rfl ⟨nb, rfl, HBX.out⟩
 exact results_cell_row Tryz.results31 _ _ rb 73 _ (0, 0) _ rfl HX2.out Tryz.underlying73 rfl (by kernel_rfl)
structure OvA (s : Ast) (ve : Value) (w : World) (V : Wv) : Prop where
 c0 : w.cell? ⟨s.ws.mb, 15, none⟩ = some ve
 c1 : w.cell? ⟨s.ws.mb, 15 + 1, none⟩ = some (.int .i64 V.fin)
 c2 : w.cell? ⟨s.ws.mb, 15 + 2, none⟩ = some (.int .i64 V.kd)
 c3 : w.cell? ⟨s.ws.mb, 15 + 3, none⟩ = some (.int .i64 V.vl)
 c4 : w.cell? ⟨s.ws.mb, 15 + 4, none⟩ = some (.int .i64 V.steps)
 c5 : w.cell? ⟨s.ws.mb, 15 + 5, none⟩ = some (.int .i64 V.words)
 c6 : w.cell? ⟨s.ws.mb, 15 + 6, none⟩ = some (.int .i64 V.deep)
 c7 : w.cell? ⟨s.ws.mb, 15 + 7, none⟩ = some (.bool V.rests)
 box : ∃ A, w.heap[s.ws.mb]? = some (.cells A 83 (0, 0))
 ev : Row w s.ws.hi 52 2 ve (V.ev.map evc)
 evs : V.ev.length <= 1048576
theorem OvA.lt {s ve w V} (h : OvA s ve w V) : s.ws.mb < w.heap.size := block_lt_of_cell h.c0
theorem OvA.fz {s ve w V} (h : OvA s ve w V) (i : Nat) : w.frozen? ⟨s.ws.mb, i, none⟩ = false := by
 obtain ⟨A, hA⟩ := h.box
 exact fz_of hA
theorem Mca.ended {FS s d w M} (h : Mca FS s d w M) : OvA s d.wd.ve w M.wv := by
 have T := h.rs.wm.cells
 have ho := h.rs.ty.2
 have hb := h.rs.wm.box
 rw [h.rs.ty.1] at hb
 have e : s.ws.o + 1 = 15 := by rw [ho]
 have t1 := T.c1
 have t2 := T.c2
 have t3 := T.c3
 have t4 := T.c4
 have t5 := T.c5
 have t6 := T.c6
 have t7 := T.c7
 have t8 := T.c8
 rw [e] at t1 t2 t3 t4 t5 t6 t7 t8
 exact ⟨t1, t2, t3, t4, t5, t6, t7, t8, ⟨_, hb⟩, h.rs.wm.rest.ev, h.rs.wm.rest.evs⟩
theorem OvA.apart {s ve w w' V} (h : OvA s ve w V) {F : Nat -> Prop} (ho : Only F w w') (h1 : ¬ F s.ws.mb) (h2 : ∀ k, ve.ownBlock = some k -> ¬ F k) : OvA s ve w' V := by
 obtain ⟨A, hA⟩ := h.box
 have hA2 := (ho.block _ (gl hA) h1).trans hA
 have ce : ∀ i, w'.cell? ⟨s.ws.mb, i, none⟩ = w.cell? ⟨s.ws.mb, i, none⟩ := fun i => by simp [World.cell?, hA, hA2]
 exact ⟨(ce _).trans h.c0, (ce _).trans h.c1, (ce _).trans h.c2, (ce _).trans h.c3, (ce _).trans h.c4, (ce _).trans h.c5, (ce _).trans h.c6, (ce _).trans h.c7, ⟨_, hA2⟩, h.ev.move fun g hg => ho.block g (own_block h.ev.out hg).2 (h2 g hg), h.evs⟩
theorem OvA.below {s ve w w' V} (h : OvA s ve w V) (hb : Below w.heap.size w w') : OvA s ve w' V := h.apart (F := fun _ => False) (Only.of_below hb _) (fun q => q) (fun _ _ q => q)
theorem OvA.toldAt {s ve w V} (h : OvA s ve w V) : ToldAt w s.ws.hi s.ws.mb 15 V.ev V.fin V.kd V.vl V.steps V.words V.deep := ⟨⟨_, h.c0, h.ev⟩, h.c1, h.c2, h.c3, h.c4, h.c5, h.c6, h.evs⟩
theorem OvA.over {s ve w V} (h : OvA s ve w V) : Calls Tryz.prog 29 #[.pointer (some ⟨s.ws.mb, 15, none⟩)] w fun e w' => e = .returned (.bool V.over) /\ w' = w := told_over w (o := 15) h.c7 h.c1
theorem OvA.made {s ve w V} (h : OvA s ve w V) (k : Int) : OvA s ve (w.setCell ⟨s.ws.mb, 15 + 4, none⟩ (.int .i64 k)) { V with steps := k } := by
 obtain ⟨A, hA⟩ := h.box
 have hs := heap_set_at (i := 19) (v := .int .i64 k) hA
 have lt : 19 < A.size := by
  have := h.c4
  simp [World.cell?, hA] at this
  exact (gl this)
 have ne : ∀ i, i ≠ 19 -> (w.setCell ⟨s.ws.mb, 19, none⟩ (.int .i64 k)).cell? ⟨s.ws.mb, i, none⟩ = w.cell? ⟨s.ws.mb, i, none⟩ := fun i hi => by
  simp [World.cell?, hs, hA, Array.getElem?_setIfInBounds_ne (Ne.symm hi)]
 have hev : s.ws.mb < w.heap.size := h.lt
 refine ⟨(ne _ (by omega)).trans h.c0, (ne _ (by omega)).trans h.c1, (ne _ (by omega)).trans h.c2, (ne _ (by omega)).trans h.c3, cell_arr hs (by simp [Array.getElem?_setIfInBounds_self_of_lt, lt]), (ne _ (by omega)).trans h.c5, (ne _ (by omega)).trans h.c6, (ne _ (by omega)).trans h.c7, ⟨_, hs⟩, h.ev.move fun g hg => heap_set_other fun e => ?_, h.evs⟩
 obtain ⟨_, _, B, hB⟩ := row_cells h.ev hg
 rw [e, hA] at hB
 injection (Option.some.inj hB) with _ q
 exact absurd q (by decide)
structure StA (FS : List Af) (s : Ast) (d0 : Ady) (w0 w : World) (M : Ma) : Prop where
 out : ∃ d, (M.over = false -> Mca FS s d w M) /\ OvA s d.wd.ve w M.wv /\ FooA s d0 d w0 w
def Ma.stp (FS : List Af) (M : Ma) : Option (Bool × Ma) :=
 if M.over then some (false, M) else
 if M.wait.length <= 900000000 /\ 0 <= M.wv.steps /\ M.wv.steps <= 4611686018427387904 then
  (match M.adv FS with
   | none => none
   | some M1 => if M1.wv.rests then some (false, M1) else some (true, { M1 with wv := { M1.wv with steps := M.wv.steps + 1 } }))
 else none
theorem Mca.staA {FS s d w M} (h : Mca FS s d w M) : StA FS s d w w M := ⟨d, fun _ => h, h.ended, FooA.refl _ _ _⟩
theorem StA.below {FS s d w W W' M} (h : StA FS s d w W M) (hb : Below W.heap.size W W') : StA FS s d w W' M := by
 obtain ⟨d1, h1, h2, h3⟩ := h.out
 exact ⟨d1, fun q => (h1 q).below hb, h2.below hb, h3.trans (FooA.of_below hb)⟩
theorem Wv.keep_steps {V V' : Wv} (h : V'.steps = V.steps) : V'.steps = V.steps := h
set_option maxRecDepth 100000 in
theorem mStep_no {s ve w V} (h : OvA s ve w V) (ho : V.over = true) :
 Calls Tryz.prog 17 #[.pointer (some ⟨s.ws.mb, 0, none⟩)] w fun e w' => e = .returned (.bool false) /\ w' = w := by
 have HO : Hid _ := h.over
 rw [ho] at HO
 have hlt := h.lt
 generalize s.ws.mb = mb at *
 clear h
 go_enter Tryz.func17, Tryz.ntmps17
 go_wp2_with (go_at_call 29; refine Calls.mono HO.out ?_; rintro e w1 ⟨rfl, rfl⟩)
 go_ret
 exact ⟨rfl, rfl⟩
theorem Mca.gone {FS s d w M} (h : Mca FS s d w M) (nb : Nat) {va : Option Addr} {vn vc : Nat} (hv : d.wd.ve = .slice va vn vc) {V : Wv} (hV : V = M.wv) {w3 : World} (hw : w3 = w.setRow s.ws.mb #[.pointer none, .pointer none, .int .i64 0, .int .i64 0, .int .i64 0, .int .i64 0, .int .i64 0, .int .i64 0, .int .i64 0, .int .i64 0, .int .i64 0, .map none, .slice none 0 0, .slice none 0 0, .pointer (some ⟨nb, 0, none⟩), .slice va vn vc, .int .i64 V.fin, .int .i64 V.kd, .int .i64 V.vl, .int .i64 V.steps, .int .i64 V.words, .int .i64 V.deep, .bool V.rests, .slice none 0 0]) : OvA s d.wd.ve w3 V /\ FooA s d d w w3 := by
 have hb := h.rs.wm.box
 rw [h.rs.ty.1] at hb
 have h3 := setRow_heap w s.ws.mb _ #[.pointer none, .pointer none, .int .i64 0, .int .i64 0, .int .i64 0, .int .i64 0, .int .i64 0, .int .i64 0, .int .i64 0, .int .i64 0, .int .i64 0, .map none, .slice none 0 0, .slice none 0 0, .pointer (some ⟨nb, 0, none⟩), .slice va vn vc, .int .i64 V.fin, .int .i64 V.kd, .int .i64 V.vl, .int .i64 V.steps, .int .i64 V.words, .int .i64 V.deep, .bool V.rests, .slice none 0 0] _ _ hb
 rw [<- hw] at h3
 have hmb := h.rs.wm.rest.hi.2.1
 have hev := h.rs.wm.rest.ev
 refine ⟨⟨by rw [hv]; exact cell_arr h3 rfl, cell_arr h3 rfl, cell_arr h3 rfl, cell_arr h3 rfl, cell_arr h3 rfl, cell_arr h3 rfl, cell_arr h3 rfl, cell_arr h3 rfl, ⟨_, h3⟩, by rw [hV]; exact hev.move fun g hg => by rw [hw]; exact heap_setRow_otherA (by have := (own_block hev.out hg).1; omega), by rw [hV]; exact h.rs.wm.rest.evs⟩, ⟨by rw [hw]; exact (only_setRowA w s.ws.mb _).mono fun k _ e => .inl (.inl e), fun k q => .inl q⟩⟩
set_option maxRecDepth 100000 in
set_option maxHeartbeats 4000000 in
theorem mStep_any {FS s d w M} (h : Mca FS s d w M) (ho : M.over = false) (hl : M.wait.length <= 900000000) (hs : 0 <= M.wv.steps /\ M.wv.steps <= 4611686018427387904) (M1 : Ma) (hM : M.adv FS = some M1) (hst : M1.wv.steps = M.wv.steps) :
 Calls Tryz.prog 17 #[.pointer (some ⟨s.ws.mb, 0, none⟩)] w fun e w' => (M1.wv.rests = false -> e = .returned (.bool true) /\ StA FS s d w w' { M1 with wv := { M1.wv with steps := M.wv.steps + 1 } }) /\ (M1.wv.rests = true -> e = .returned (.bool false) /\ StA FS s d w w' M1) := by
 have eo : M.wv.over = false := ho
 have HO : Hid (Calls Tryz.prog 29 #[.pointer (some ⟨s.ws.mb, 15, none⟩)] w fun e w' => e = .returned (.bool false) /\ w = w') := by
  have := h.ended.over
  rw [eo] at this
  exact this.mono fun e w' r => ⟨r.1, r.2.symm⟩
 have HA : Hid _ := mAdv_any h hl M1 hM
 have hlt := h.cells.lt
 obtain ⟨V, hV⟩ : ∃ V, V = M1.wv := ⟨_, rfl⟩
 generalize hM2 : ({ M1 with wv := { M1.wv with steps := M.wv.steps + 1 } } : Ma) = M2
 have HO2 : Hid (∀ w2, (∃ d', Mca FS s d' w2 M1 /\ FooA s d d' w w2) -> s.ws.mb < w2.heap.size /\ Calls Tryz.prog 29 #[.pointer (some ⟨s.ws.mb, 15, none⟩)] w2 fun e w' => e = .returned (.bool V.over) /\ w2 = w') := fun w2 ⟨d', q, _⟩ => ⟨q.cells.lt, by have := q.ended.over; rw [<- hV] at this; exact this.mono fun e w' r => ⟨r.1, r.2.symm⟩⟩
 have HEN : Hid (∀ w2, (∃ d', Mca FS s d' w2 M1 /\ FooA s d d' w w2) -> ∃ va vn vc, Hid (Calls Tryz.prog 31 #[.pointer (some ⟨s.ws.mb, 14, none⟩)] w2 fun e w' => ∃ nb, e = .returned (.agg #[.pointer (some ⟨nb, 0, none⟩), .slice va vn vc, .int .i64 V.fin, .int .i64 V.kd, .int .i64 V.vl, .int .i64 V.steps, .int .i64 V.words, .int .i64 V.deep, .bool V.rests, .slice none 0 0]) /\ s.ws.mb < w'.heap.size /\ (∃ A : Array Value, A.size = 24 /\ w'.heap[s.ws.mb]? = some (.cells A 83 (0, 0))) /\ Hid (∀ w3, w3 = w'.setRow s.ws.mb #[.pointer none, .pointer none, .int .i64 0, .int .i64 0, .int .i64 0, .int .i64 0, .int .i64 0, .int .i64 0, .int .i64 0, .int .i64 0, .int .i64 0, .map none, .slice none 0 0, .slice none 0 0, .pointer (some ⟨nb, 0, none⟩), .slice va vn vc, .int .i64 V.fin, .int .i64 V.kd, .int .i64 V.vl, .int .i64 V.steps, .int .i64 V.words, .int .i64 V.deep, .bool V.rests, .slice none 0 0] -> s.ws.mb < w3.heap.size /\ ∃ d', OvA s d'.wd.ve w3 V /\ FooA s d d' w w3))) := by
  rintro w2 ⟨d', q, f2⟩
  obtain ⟨va, vc, ev, _, _⟩ := own_slice q.rs.wm.rest.ev.out
  obtain ⟨n9, hn9⟩ : ∃ n, n = (M1.wv.ev.map evc).length := ⟨_, rfl⟩
  rw [<- hn9] at ev
  have e := q.ended
  rw [ev, <- hV] at e
  refine ⟨va, n9, vc, (ended_any (so := 14) ⟨e.c0, e.c1, e.c2, e.c3, e.c4, e.c5, e.c6, e.c7, e.lt⟩).mono ?_⟩
  rintro e' w' ⟨nb, rfl, b⟩
  have q' := q.below b
  have hb := q'.rs.wm.box
  rw [q'.rs.ty.1] at hb
  refine ⟨nb, rfl, q'.cells.lt, ⟨_, ?_, hb⟩, fun w3 hw3 => ?_⟩
  ·simp [fav_len q'.rg, wcs]
  ·have g := q'.gone nb ev hV hw3
   exact ⟨g.1.lt, d', g.1, (f2.trans (FooA.of_below b)).trans g.2⟩
 have HMD : Hid (∀ w3, V.over = true -> (∃ d', OvA s d'.wd.ve w3 V /\ FooA s d d' w w3) -> Calls Tryz.prog 32 #[.pointer (some ⟨s.ws.mb, 15, none⟩)] w3 fun e w' => e = .returned (.bool (!V.rests)) /\ (V.rests = false -> StA FS s d w w' M2) /\ (V.rests = true -> StA FS s d w w' M1)) := by
  rintro w3 hov ⟨d', e, f⟩
  cases hr : V.rests with
  | true =>
    refine (told_made_no w3 (o := 15) (by rw [<- hr]; exact e.c7)).mono ?_
    rintro e' w' ⟨rfl, rfl⟩
    exact ⟨rfl, fun q => (by cases q), fun _ => ⟨d', fun q => (by have e9 : M1.wv.over = false := q; rw [<- hV, hov] at e9; cases e9), by rw [hV] at e; exact e, f⟩⟩
  | false =>
    refine (told_made_yes w3 (o := 15) (by rw [<- hr]; exact e.c7) e.c4 (e.fz _) (by rw [hV, hst]; exact hs.1) (by rw [hV, hst]; exact hs.2)).mono ?_
    rintro e' w' ⟨rfl, rfl⟩
    have m := e.made (V.steps + 1)
    rw [<- hM2]
    refine ⟨rfl, fun _ => ⟨d', fun q => (by have e9 : M1.wv.over = false := q; rw [<- hV, hov] at e9; cases e9), by rw [hV, hst] at m; rw [hV, hst]; exact m, f.trans ⟨(Only.of_set _ ⟨s.ws.mb, 15 + 4, none⟩ _).mono fun k _ e => .inl (.inl e), fun k q => .inl q⟩⟩, fun q => (by cases q)⟩
 have HMG : Hid (∀ w2, V.over = false -> (∃ d', Mca FS s d' w2 M1 /\ FooA s d d' w w2) -> Calls Tryz.prog 32 #[.pointer (some ⟨s.ws.mb, 15, none⟩)] w2 fun e w' => e = .returned (.bool true) /\ StA FS s d w w' M2) := by
  rintro w2 hov ⟨d', q, f⟩
  have hr : M1.wv.rests = false := by
   rw [hV] at hov
   unfold Wv.over at hov
   simp at hov
   exact hov.1
  have e := q.ended
  refine (told_made_yes w2 (o := 15) (by rw [<- hr]; exact e.c7) e.c4 (e.fz _) (by rw [hst]; exact hs.1) (by rw [hst]; exact hs.2)).mono ?_
  rintro e' w' ⟨rfl, rfl⟩
  have o14 : s.ws.o + 1 + 4 = 15 + 4 := by rw [q.rs.ty.2]
  have m := q.rs.wm.made (M1.wv.steps + 1)
  rw [o14] at m
  have hc := q.wv m.1 m.2
  rw [hst] at hc
  rw [hst, <- hM2]
  exact ⟨rfl, _, fun _ => hc.1, hc.1.ended, f.trans hc.2⟩
 rw [<- hV]
 generalize s.ws.mb = mb at *
 clear hM2 h hM hst hl hs ho eo hV
 go_enter Tryz.func17, Tryz.ntmps17
 go_upto_region 4 with (first
  | (go_at_call 29; refine Calls.mono HO.out ?_; rintro e w1 ⟨rfl, rfl⟩)
  | (go_at_call 30; refine Calls.mono HA.out ?_; rintro e w2 ⟨rfl, h2⟩))
 obtain ⟨x2, hc2⟩ := HO2.out w2 h2
 have HC2 : Hid _ := hc2
 have H2 : Hid _ := h2
 clear HO HA HO2 hc2 h2
 cases hov : V.over with
 | true =>
   rw [hov] at HC2
   obtain ⟨va, vn, vc, hen⟩ := HEN.out w2 H2.out
   have HE2 : Hid _ := hen.out
   have HM2 := HMD.out
   have HMM : Hid (∀ w3, (∃ d', OvA s d'.wd.ve w3 V /\ FooA s d d' w w3) -> _) := fun w3 => HMD.out w3 hov
   clear hen HEN HM2 HMD HMG
   go_upto_region 5 with (go_at_call 29; refine Calls.mono HC2.out ?_; rintro e w4 ⟨rfl, rfl⟩)
   go_upto_region 6 with (first
    | (go_at_call 31; refine Calls.mono HE2.out ?_; rintro e w5 ⟨nb, rfl, l5, ⟨A5, s5, b5⟩, h5⟩; have HB5 : Hid _ := b5; have H5 : Hid _ := h5; clear b5 h5)
    | (refine wpList_store_row rfl _ _ _ rfl mb #[.pointer none, .pointer none, .int .i64 0, .int .i64 0, .int .i64 0, .int .i64 0, .int .i64 0, .int .i64 0, .int .i64 0, .int .i64 0, .int .i64 0, .map none, .slice none 0 0, .slice none 0 0, .pointer (some ⟨nb, 0, none⟩), .slice va vn vc, .int .i64 V.fin, .int .i64 V.kd, .int .i64 V.vl, .int .i64 V.steps, .int .i64 V.words, .int .i64 V.deep, .bool V.rests, .slice none 0 0] rfl rfl 83 _ HB5.out (by kernel_rfl) s5 (by kernel_rfl) ?_))
   obtain ⟨w3, hw3⟩ : ∃ w3, w3 = w5.setRow mb #[.pointer none, .pointer none, .int .i64 0, .int .i64 0, .int .i64 0, .int .i64 0, .int .i64 0, .int .i64 0, .int .i64 0, .int .i64 0, .int .i64 0, .map none, .slice none 0 0, .slice none 0 0, .pointer (some ⟨nb, 0, none⟩), .slice va vn vc, .int .i64 V.fin, .int .i64 V.kd, .int .i64 V.vl, .int .i64 V.steps, .int .i64 V.words, .int .i64 V.deep, .bool V.rests, .slice none 0 0] := ⟨_, rfl⟩
   obtain ⟨l3, h3⟩ := H5.out w3 hw3
   have HM3 : Hid _ := HMM.out w3 h3
   rw [<- hw3]
   clear hw3 H5 h3 HMM HB5 l5 s5 HE2
   go_wp2_with (go_at_call 32; refine Calls.mono HM3.out ?_; rintro e w6 ⟨rfl, h6⟩; have H6 : Hid _ := h6; clear h6)
   go_ret
   exact ⟨fun q => ⟨by rw [q]; rfl, H6.out.1 q⟩, fun q => ⟨by rw [q]; rfl, H6.out.2 q⟩⟩
 | false =>
   rw [hov] at HC2
   have HM3 : Hid _ := HMG.out w2 hov H2.out
   have hrr : V.rests = false := by
    unfold Wv.over at hov
    simp at hov
    exact hov.1
   clear HEN HMD HMG H2
   go_wp2_with (first
    | (go_at_call 29; refine Calls.mono HC2.out ?_; rintro e w4 ⟨rfl, rfl⟩)
    | (go_at_call 32; refine Calls.mono HM3.out ?_; rintro e w6 ⟨rfl, h6⟩; have H6 : Hid _ := h6; clear h6))
   go_ret
   exact ⟨fun q => ⟨rfl, H6.out⟩, fun q => (by rw [hrr] at q; cases q)⟩
theorem set_steps {M M' : Ma} {l : Int × Int} {x : Int} (h : M.set l x = some M') : M'.wv = M.wv /\ M'.wait = M.wait := by
 unfold Ma.set at h
 obtain ⟨F, _, rfl⟩ := Option.map_eq_some_iff.1 h
 exact ⟨rfl, rfl⟩
theorem mem_steps (V : Wv) (op a b c : Int) : (V.mem op a b c).1.steps = V.steps := by
 unfold Wv.mem Wv.noEl
 repeat' split
 all_goals rfl
theorem tell_steps (V : Wv) (k x : Int) : (V.tell k x).steps = V.steps := by
 unfold Wv.tell
 split <;> rfl
theorem calc_steps (V : Wv) (op a b : Int) : (V.calc op a b).steps = V.steps := by
 unfold Wv.calc
 repeat' split
 all_goals rfl
theorem opr_steps {V V' : Wv} {op imm a b c n : Int} (h : V.opr op imm a b c = some (V', n)) : V'.steps = V.steps := by
 unfold Wv.opr at h
 split at h
 ·cases h; rfl
 split at h
 ·cases h; rfl
 split at h
 ·split at h
  ·have e := mem_steps V op a b c; rw [Option.some.inj h] at e; exact e
  ·cases h
 split at h
 ·cases hi : V.inp with
  | nil => rw [hi] at h; cases h; rfl
  | cons y I => rw [hi] at h; cases h; rfl
 split at h
 ·cases h; exact tell_steps V 1 a
 split at h
 ·split at h
  ·cases h; exact tell_steps V 2 a
  ·cases h; rfl
 split at h
 ·split at h <;> (cases h; rfl)
 split at h
 ·split at h <;> (cases h; rfl)
 split at h
 ·split at h <;> (cases h; rfl)
 cases h
 exact calc_steps V op a b
theorem enter_steps {FS : List Af} {M M' : Ma} {t : Int} (h : M.enter FS t = some M') : M'.wv = M.wv := by
 unfold Ma.enter at h
 split at h
 ·cases h
 ·split at h
  ·cases h
  ·split at h
   ·cases h; rfl
   ·cases h
theorem back_steps {FS : List Af} {M M' : Ma} {v : Int} (h : M.back FS v = some M') : M'.wv.steps = M.wv.steps := by
 unfold Ma.back at h
 split at h
 ·cases h; rfl
 ·split at h
  ·cases h
  ·split at h
   ·cases h
   ·split at h
    ·cases h
    ·cases h; rfl
theorem leave_steps {FS : List Af} {M M' : Ma} {b : Ab} (h : M.leave FS b = some M') : M'.wv.steps = M.wv.steps := by
 unfold Ma.leave at h
 split at h
 ·split at h
  ·cases h
  ·rw [enter_steps h]
 split at h
 ·split at h
  ·cases h
  ·split at h
   ·cases h
   ·split at h <;> rw [enter_steps h]
 split at h
 ·split at h
  ·cases h
  ·exact back_steps h
 split at h
 ·split at h
  ·cases h
  ·cases h; rfl
 ·cases h
theorem do_steps {FS : List Af} {M M' : Ma} {x : Ai} (h : M.doI FS x = some M') : M'.wv.steps = M.wv.steps := by
 unfold Ma.doI at h
 split at h
 ·unfold Ma.call at h
  split at h
  ·cases h
  ·split at h
   ·cases h
   ·split at h
    ·cases h
    ·split at h
     ·cases h
     ·split at h
      ·cases h
      ·cases h; rfl
 split at h
 ·cases h
 split at h
 ·cases h
 ·split at h
  ·cases h
  ·next V n hV =>
   have hs := opr_steps hV
   split at h
   ·cases h; exact hs
   ·rw [(set_steps h).1]; exact hs
theorem adv_steps {FS : List Af} {M M' : Ma} (h : M.adv FS = some M') : M'.wv.steps = M.wv.steps := by
 unfold Ma.adv at h
 split at h
 ·cases h
 ·split at h
  ·cases h
  ·split at h
   ·exact leave_steps h
   ·split at h
    ·cases h
    ·have := do_steps h
     exact this
theorem StA.step {FS s d w W M T M'} (h : StA FS s d w W M) (hs : M.stp FS = some (T, M')) :
 Calls Tryz.prog 17 #[.pointer (some ⟨s.ws.mb, 0, none⟩)] W fun e w' => e = .returned (.bool T) /\ StA FS s d w w' M' := by
 obtain ⟨d1, h1, h2, h3⟩ := h.out
 unfold Ma.stp at hs
 cases ho : M.over with
 | true =>
   rw [ho] at hs
   cases hs
   refine (mStep_no h2 ho).mono ?_
   rintro e w' ⟨rfl, rfl⟩
   exact ⟨rfl, h⟩
 | false =>
   rw [ho, if_neg (by simp)] at hs
   split at hs
   ·next hc =>
    cases ha : M.adv FS with
    | none => rw [ha] at hs; cases hs
    | some M1 =>
      rw [ha] at hs
      simp only at hs
      refine (mStep_any (h1 ho) ho hc.1 hc.2 M1 ha (adv_steps ha)).mono ?_
      rintro e w' ⟨q1, q2⟩
      cases hr : M1.wv.rests with
      | true =>
        rw [if_pos hr] at hs
        cases hs
        obtain ⟨r1, r2⟩ := q2 hr
        obtain ⟨d2, k1, k2, k3⟩ := r2.out
        exact ⟨r1, d2, k1, k2, h3.trans k3⟩
      | false =>
        rw [if_neg (by rw [hr]; simp)] at hs
        cases hs
        obtain ⟨r1, r2⟩ := q1 hr
        obtain ⟨d2, k1, k2, k3⟩ := r2.out
        exact ⟨r1, d2, k1, k2, h3.trans k3⟩
   ·cases hs
def otvA (v : Value) (V : Wv) : Value := .agg #[v, .int .i64 V.fin, .int .i64 V.kd, .int .i64 V.vl, .int .i64 V.steps, .int .i64 V.words, .int .i64 V.deep]
set_option maxRecDepth 100000 in
theorem mRunA_of (w wq : World) {mb fuel : Nat} (hlt : mb < w.heap.size) (hf : fuel <= 1099511627776) {E : List (Int × Int)} {x1 x2 x3 x4 x5 x6 : Int} (P : World -> Prop) (hwq : wq = w.alloc (.cells #[.slice none 0 0, .int .i64 0, .int .i64 0, .int .i64 0, .int .i64 0, .int .i64 0, .int .i64 0] 48))
 (hR : Calls Tryz.prog 27 #[.pointer (some ⟨mb, 15, none⟩), .int .i64 fuel, .func (.func 17) #[.pointer (some ⟨mb, 0, none⟩)] #[]] wq fun e w' => ∃ v' wF, e = .returned (.tuple #[.agg #[v', .int .i64 x1, .int .i64 x2, .int .i64 x3, .int .i64 x4, .int .i64 x5, .int .i64 x6], .int .i64 0]) /\ P wF /\ Row w' wF.heap.size 52 2 v' (E.map evc) /\ Only (fun k => k = wq.heap.size) wF w')
 (hP : ∀ wF, P wF -> wF.heap[w.heap.size]? = some (.cells #[.slice none 0 0, .int .i64 0, .int .i64 0, .int .i64 0, .int .i64 0, .int .i64 0, .int .i64 0] 48 (0, 0)) ) :
 Calls Tryz.prog 13 #[.pointer (some ⟨mb, 0, none⟩), .int .i64 fuel] w fun e w' => ∃ v' wF, e = .returned (.tuple #[.agg #[v', .int .i64 x1, .int .i64 x2, .int .i64 x3, .int .i64 x4, .int .i64 x5, .int .i64 x6], .int .i64 0]) /\ P wF /\ Row w' wF.heap.size 52 2 v' (E.map evc) /\ Only (fun k => k = w.heap.size \/ k = wq.heap.size) wF w' := by
 have HR : Hid _ := hR
 have HP : Hid _ := hP
 have hs : wq.heap.size = w.heap.size + 1 := by rw [hwq]; simp
 have HS : Hid _ := hs
 clear hR hP hs
 go_enter Tryz.func13, Tryz.ntmps13
 go_upto_region 1 with fail
 rw [<- hwq]
 clear hwq
 go_wp2_with fail
 refine Calls.mono HR.out ?_
 rintro e w2 ⟨v2, wF, rfl, hp, hR2, o2⟩
 obtain ⟨ao2, cc2, rfl, _⟩ := evs_of hR2
 have hkr := HP.out wF hp
 have hwf : w.heap.size < wF.heap.size := (gl hkr)
 have q0 := (o2.block w.heap.size hwf (by show ¬ w.heap.size = wq.heap.size; rw [HS.out]; omega)).trans hkr
 obtain ⟨W4, hW4⟩ : ∃ W, W = (((((((w2.setCell ⟨w.heap.size, 0, none⟩ (.slice ao2 E.length cc2)).setCell ⟨w.heap.size, 1, none⟩ (.int .i64 x1)).setCell ⟨w.heap.size, 2, none⟩ (.int .i64 x2)).setCell ⟨w.heap.size, 3, none⟩ (.int .i64 x3)).setCell ⟨w.heap.size, 4, none⟩ (.int .i64 x4)).setCell ⟨w.heap.size, 5, none⟩ (.int .i64 x5)).setCell ⟨w.heap.size, 6, none⟩ (.int .i64 x6)) := ⟨_, rfl⟩
 have HRX : Hid (W4.heap[w.heap.size]? = some (.cells #[.slice ao2 E.length cc2, .int .i64 x1, .int .i64 x2, .int .i64 x3, .int .i64 x4, .int .i64 x5, .int .i64 x6] 48 (0, 0))) := by rw [hW4]; exact box_seven q0 _ _ _ _ _ _ _
 have hsame : ∀ g, g ≠ w.heap.size -> W4.heap[g]? = w2.heap[g]? := fun g n0 => by
  rw [hW4, heap_set_other n0, heap_set_other n0, heap_set_other n0, heap_set_other n0, heap_set_other n0, heap_set_other n0, heap_set_other n0]
 have HR4 : Hid (Row W4 wF.heap.size 52 2 (.slice ao2 E.length cc2) (E.map evc)) := hR2.move fun g hg => hsame g fun q => own_not hR2.out q0 (by decide) (q ▸ hg)
 have HO4 : Hid (Only (fun k => k = w.heap.size \/ k = wq.heap.size) wF W4) := by
  rw [hW4]
  have z := only_sevenR (w := w2) (w1 := w2) (gb := w.heap.size) (Only.refl _ _) (.slice ao2 E.length cc2) (.int .i64 x1) (.int .i64 x2) (.int .i64 x3) (.int .i64 x4) (.int .i64 x5) (.int .i64 x6)
  exact (o2.mono fun i _ h => .inr h).trans z fun i _ h => .inl h
 have t0 : w2.cell? ⟨w.heap.size, 0, none⟩ = some (.slice none 0 0) := cell_arr q0 rfl
 have t1 : w2.cell? ⟨w.heap.size, 1, none⟩ = some (.int .i64 0) := cell_arr q0 rfl
 have t2 : w2.cell? ⟨w.heap.size, 2, none⟩ = some (.int .i64 0) := cell_arr q0 rfl
 have t3 : w2.cell? ⟨w.heap.size, 3, none⟩ = some (.int .i64 0) := cell_arr q0 rfl
 have t4 : w2.cell? ⟨w.heap.size, 4, none⟩ = some (.int .i64 0) := cell_arr q0 rfl
 have t5 : w2.cell? ⟨w.heap.size, 5, none⟩ = some (.int .i64 0) := cell_arr q0 rfl
 have t6 : w2.cell? ⟨w.heap.size, 6, none⟩ = some (.int .i64 0) := cell_arr q0 rfl
 have u0 : w2.frozen? ⟨w.heap.size, 0, none⟩ = false := fz_of q0
 have u1 : w2.frozen? ⟨w.heap.size, 1, none⟩ = false := fz_of q0
 have u2 : w2.frozen? ⟨w.heap.size, 2, none⟩ = false := fz_of q0
 have u3 : w2.frozen? ⟨w.heap.size, 3, none⟩ = false := fz_of q0
 have u4 : w2.frozen? ⟨w.heap.size, 4, none⟩ = false := fz_of q0
 have u5 : w2.frozen? ⟨w.heap.size, 5, none⟩ = false := fz_of q0
 have u6 : w2.frozen? ⟨w.heap.size, 6, none⟩ = false := fz_of q0
 have HW4 : Hid _ := hW4
 have HPF : Hid (P wF) := hp
 clear hR2 o2 q0 hW4 hsame hp hkr
 go_wp2_with fail
 rw [<- HW4.out]
 refine bodyPost_ret (v := .tuple #[.agg #[.slice ao2 E.length cc2, .int .i64 x1, .int .i64 x2, .int .i64 x3, .int .i64 x4, .int .i64 x5, .int .i64 x6], .int .i64 0]) ?_ rfl ⟨_, wF, rfl, HPF.out, HR4.out, HO4.out⟩
 exact results_row_tmp Tryz.results13 _ _ w.heap.size 48 _ (0, 0) _ rfl HRX.out Tryz.underlying48 rfl (by kernel_rfl)
end Go.Proofs.YtegoemeefmjnoaaGreatDoor
