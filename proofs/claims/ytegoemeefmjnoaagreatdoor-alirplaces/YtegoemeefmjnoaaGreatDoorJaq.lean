import Derived.Test.YtegoemeefmjnoaaGreatDoorJap
set_option linter.unusedVariables false
set_option linter.unusedSimpArgs false
namespace Go.Proofs.YtegoemeefmjnoaaGreatDoor
open Go.ChangeShapes Go.WideShapes Go.ChangeAt Go.RowKit Go.Maps
theorem mEnter_any {FS s d w M} (h : Mca FS s d w M) (t : Int) (M' : Ma) (hM : M.enter FS t = some M') : ∃ k : Nat, t = (k : Int) /\ Calls Tryz.prog 51 #[.pointer (some ⟨s.ws.mb, 0, none⟩), .int .i64 (k : Int)] w fun e w' => e = .returned (.tuple #[]) /\ ∃ d', Mca FS s d' w' M' /\ FooA s d d' w w' := by
 unfold Ma.enter at hM
 split at hM
 ·cases hM
 ·next ht =>
  obtain ⟨k, rfl⟩ : ∃ k : Nat, t = (k : Int) := ⟨t.toNat, by omega⟩
  rw [Int.toNat_natCast] at hM
  cases hf : FS[M.here.fi]? with
  | none => rw [hf] at hM; cases hM
  | some f =>
    rw [hf] at hM
    simp only at hM
    split at hM
    ·next hk =>
     cases hM
     refine ⟨k, rfl, (fEnter_any h.rs.fns h.fb h.agr hf k hk).mono ?_⟩
     rintro e w' ⟨rfl, q1, q2⟩
     have hc := h.here q1 (q2.mono fun _ _ e => .inl e) (.inl rfl)
     exact ⟨rfl, _, hc⟩
    ·cases hM
theorem way_at {w : World} {a2 : Option Addr} {c2 : Nat} {L : List Int} (h : Ints w a2 c2 L) {j : Nat} (hj : j < L.length) : ∃ tb to, a2 = some ⟨tb, to, none⟩ /\ w.cell? ⟨tb, to + j, none⟩ = some (.int .i64 (L.getD j 0)) := by
 obtain ⟨tb, to, ea, hA⟩ := h.out (by intro q; rw [q] at hj; simp at hj)
 refine ⟨tb, to, ea, ?_⟩
 have := hA.cell j hj
 rw [this]
 simp [List.getD, hj]
set_option maxRecDepth 100000 in
set_option maxHeartbeats 8000000 in
theorem mLeave_any {FS s d w M} (h : Mca FS s d w M) (hl : M.wait.length <= 1000000000000) (b : Ab) {a2 : Option Addr} {c2 : Nat} (hI : Ints w a2 c2 b.ways) (M' : Ma) (hM : M.leave FS b = some M') :
 Calls Tryz.prog 44 #[.pointer (some ⟨s.ws.mb, 0, none⟩), .agg #[.int .i64 b.kind, .int .i64 b.val.1, .int .i64 b.val.2, .slice a2 b.ways.length c2]] w fun e w' => e = .returned (.tuple #[]) /\ ∃ d', Mca FS s d' w' M' /\ FooA s d d' w w' := by
 obtain ⟨W0, hW0⟩ : ∃ W0, W0 = w.alloc (.cells #[.int .i64 b.kind, .int .i64 b.val.1, .int .i64 b.val.2, .slice a2 b.ways.length c2] 32) := ⟨_, rfl⟩
 have b0 : Below w.heap.size w W0 := by rw [hW0]; exact below_newA w _
 have hbx : W0.heap[w.heap.size]? = some (.cells #[.int .i64 b.kind, .int .i64 b.val.1, .int .i64 b.val.2, .slice a2 b.ways.length c2] 32 (0, 0)) := by rw [hW0]; exact heap_alloc_new w _
 have H0 := h.below b0
 have hF0 : FooA s d d w W0 := FooA.of_below b0
 have hI0 := hI.below b0 (Nat.le_refl _)
 have hlt := H0.cells.lt
 have l0 : w.heap.size < W0.heap.size := (gl hbx)
 have k0 : W0.cell? ⟨w.heap.size, 0, none⟩ = some (.int .i64 b.kind) := cell_arr hbx rfl
 have k1 : W0.cell? ⟨w.heap.size, 1, none⟩ = some (.int .i64 b.val.1) := cell_arr hbx rfl
 have k2 : W0.cell? ⟨w.heap.size, 1 + 1, none⟩ = some (.int .i64 b.val.2) := cell_arr hbx rfl
 have k3 : W0.cell? ⟨w.heap.size, 3, none⟩ = some (.slice a2 b.ways.length c2) := cell_arr hbx rfl
 obtain ⟨cb, hcb⟩ : ∃ cb, cb = w.heap.size := ⟨_, rfl⟩
 have htl := hI.le
 have htm := hI.mx
 unfold Ma.leave at hM
 clear hbx hI h b0
 generalize hv1 : b.val.1 = v1 at *
 generalize hv2 : b.val.2 = v2 at *
 have ebv : b.val = (v1, v2) := by rw [<- hv1, <- hv2]
 rw [ebv] at hM
 generalize hkd : b.kind = kd at *
 obtain ⟨tn, htn⟩ : ∃ tn, tn = b.ways.length := ⟨_, rfl⟩
 have hlm : b.ways.length <= 9223372036854775807 := by omega
 rw [<- hcb] at k0 k1 k2 k3 l0
 clear hv1 hv2 hkd ebv
 by_cases q1 : kd = 1
 ·subst q1
  rw [if_pos rfl] at hM
  split at hM
  ·cases hM
  ·next hn =>
   obtain ⟨tb, to, ea, kt⟩ := way_at hI0 (j := 0) (by omega)
   obtain ⟨k, ek, hen⟩ := mEnter_any (H0.below (Below.refl _ _).drew) _ M' hM
   rw [ek, Nat.add_zero] at kt
   subst ea
   have HEN : Hid (Calls Tryz.prog 51 #[.pointer (some ⟨s.ws.mb, 0, none⟩), .int .i64 (k : Int)] W0.drew fun e w' => e = .returned (.tuple #[]) /\ ∃ d', Mca FS s d' w' M' /\ FooA s d d' w w') := hen.mono fun e w' ⟨r1, d', r2, r3⟩ => ⟨r1, d', r2, (hF0.trans (FooA.of_below (Below.refl _ _).drew)).trans r3⟩
   have hni : (0 : Int) < ((b.ways.length : Nat) : Int) := by omega
   have hnp : 0 < b.ways.length := by omega
   have e1 : W0.cell? ⟨cb, 3, none⟩ = some (.slice (some ⟨tb, to, none⟩) b.ways.length c2) := k3
   have e2 := kt
   have e3 := l0
   have e4 : tb < W0.heap.size := block_lt_of_cell kt
   have e5 := hlt
   rw [<- htn] at e1 hni hnp hlm htl hW0 ⊢
   generalize s.ws.mb = mb at *
   clear H0 hF0 hI0 hM hen ek k3 kt htn hn
   go_enter Tryz.func44, Tryz.ntmps44
   go_upto_region 1 with fail
   rw [<- hW0, <- hcb]
   clear hW0 hcb
   go_upto_region 3 with fail
   have Se : (fun w' : World => w'.cell? ⟨cb, 3, none⟩ = some (.slice (some ⟨tb, to, none⟩) tn c2) /\ w'.cell? ⟨tb, to, none⟩ = some (.int .i64 (k : Int)) /\ cb < w'.heap.size /\ tb < w'.heap.size /\ mb < w'.heap.size) W0.drew := ⟨e1, e2, e3, e4, e5⟩
   refine lec_start (S := fun w' : World => w'.cell? ⟨cb, 3, none⟩ = some (.slice (some ⟨tb, to, none⟩) tn c2) /\ w'.cell? ⟨tb, to, none⟩ = some (.int .i64 (k : Int)) /\ cb < w'.heap.size /\ tb < w'.heap.size /\ mb < w'.heap.size) (z := 7) (by kernel_rfl) ?_
   show lec _ _ _ _ _ 8 _ _ _
   try simp only [List.size_toArray, List.length_cons, List.length_nil, Array.replicate]
   refine lec_takeP (i := 0) (v := ?v0a) rfl (by kernel_rfl) (by kernel_rfl) (by kernel_rfl) (by kernel_rfl) (fun _ _ _ h => h) (.inl ⟨by rfl, ?hy0a⟩) Se ?rest0a
   case hy0a =>
    rintro w' _
    go_simp
    all_goals with_reducible rfl
   try simp only [Act.put, List.getElem_toArray, List.getElem_cons_succ, List.getElem_cons_zero, List.setIfInBounds_toArray, List.set_cons_zero, List.set_cons_succ]
   refine lec_takeP (i := 1) (v := ?v1a) rfl (by kernel_rfl) (by kernel_rfl) (by kernel_rfl) (by kernel_rfl) (fun _ _ _ h => h) (.inl ⟨by rfl, ?hy1a⟩) Se ?rest1a
   case hy1a =>
    rintro w' _
    go_simp
    all_goals with_reducible rfl
   try simp only [Act.put, List.getElem_toArray, List.getElem_cons_succ, List.getElem_cons_zero, List.setIfInBounds_toArray, List.set_cons_zero, List.set_cons_succ]
   refine lec_takeP (i := 2) (v := ?v2a) rfl (by kernel_rfl) (by kernel_rfl) (by kernel_rfl) (by kernel_rfl) (fun _ _ _ h => h) (.inl ⟨by rfl, ?hy2a⟩) Se ?rest2a
   case hy2a =>
    rintro w' _
    go_simp
    all_goals with_reducible rfl
   try simp only [Act.put, List.getElem_toArray, List.getElem_cons_succ, List.getElem_cons_zero, List.setIfInBounds_toArray, List.set_cons_zero, List.set_cons_succ]
   refine lec_takeP (i := 3) (v := ?v3a) rfl (by kernel_rfl) (by kernel_rfl) (by kernel_rfl) (by kernel_rfl) (fun _ _ _ h => h) (.inl ⟨by rfl, ?hy3a⟩) Se ?rest3a
   case hy3a =>
    rintro w' _
    go_simp
    all_goals with_reducible rfl
   try simp only [Act.put, List.getElem_toArray, List.getElem_cons_succ, List.getElem_cons_zero, List.setIfInBounds_toArray, List.set_cons_zero, List.set_cons_succ]
   refine lec_takeT [5, 6, 7] (i := 4) (v := ?v4a) rfl (by kernel_rfl) (by kernel_rfl) (by kernel_rfl) (by kernel_rfl) (fun _ _ _ h => h) (.inl ⟨by rfl, ?hy4a⟩) Se ?rest4a
   case hy4a =>
    rintro w' ⟨h1, h2, h3, h4, h5⟩
    go_simp
    all_goals with_reducible rfl
   try simp only [Act.put, List.getElem_toArray, List.getElem_cons_succ, List.getElem_cons_zero, List.setIfInBounds_toArray, List.set_cons_zero, List.set_cons_succ]
   refine lec_takeP (i := 5) (v := ?v5a) rfl (by kernel_rfl) (by kernel_rfl) (by kernel_rfl) (by kernel_rfl) (fun _ _ _ h => h) (.inl ⟨by rfl, ?hy5a⟩) Se ?rest5a
   case hy5a =>
    rintro w' _
    go_simp
    all_goals with_reducible rfl
   try simp only [Act.put, List.getElem_toArray, List.getElem_cons_succ, List.getElem_cons_zero, List.setIfInBounds_toArray, List.set_cons_zero, List.set_cons_succ]
   refine lec_takeT [7] (i := 6) (v := ?v6a) rfl (by kernel_rfl) (by kernel_rfl) (by kernel_rfl) (by kernel_rfl) (fun _ _ _ h => h) (.inl ⟨by rfl, ?hy6a⟩) Se ?rest6a
   case hy6a =>
    rintro w' ⟨h1, h2, h3, h4, h5⟩
    go_simp
    all_goals with_reducible rfl
   try simp only [Act.put, List.getElem_toArray, List.getElem_cons_succ, List.getElem_cons_zero, List.setIfInBounds_toArray, List.set_cons_zero, List.set_cons_succ]
   refine lec_one (i := 7) rfl (by kernel_rfl) ?_
   intro K7 hK7
   rw [if_pos (by rfl)]
   go_simp
   refine Calls.mono HEN.out ?_
   rintro e w7 ⟨rfl, hh⟩
   have H7 : Hid _ := hh
   clear hh
   go_simp
   refine hK7 _ _ (fun h => by cases h) ?_
   clear hK7
   try simp only [Act.put, List.getElem_toArray, List.getElem_cons_succ, List.getElem_cons_zero, List.setIfInBounds_toArray, List.set_cons_zero, List.set_cons_succ]
   refine lec_done (by kernel_rfl) ?_
   clear Se HEN
   go_wp2_with fail
   exact bodyPost_end (v := .tuple #[]) (by simp [results, Tryz.results44, go_sem]) rfl ⟨rfl, H7.out⟩
 rw [if_neg q1] at hM
 have t1 : (kd == 1) = false := by simp [q1]
 have hG : ∀ (x : Int), M.get (v1, v2) = some x -> ∀ W5, Below W0.heap.size W0 W5 -> Calls Tryz.prog 52 #[.pointer (some ⟨s.ws.mb, 0, none⟩), .agg #[.int .i64 v1, .int .i64 v2]] W5 fun e w' => e = .returned (.int .i64 x) /\ Below W0.heap.size W0 w' := fun x hx W5 b5 => by
  refine (fGet_any (H0.below b5).fb (v1, v2) x hx).mono ?_
  rintro e w' ⟨rfl, bb⟩
  exact ⟨rfl, b5.trans (bb.mono b5.size)⟩
 by_cases q2 : kd = 2
 ·subst q2
  rw [if_pos rfl] at hM
  split at hM
  ·cases hM
  ·next hn =>
   obtain ⟨tb, to, ea, kt0⟩ := way_at hI0 (j := 0) (by omega)
   obtain ⟨tb', to', ea', kt1⟩ := way_at hI0 (j := 1) (by omega)
   rw [ea] at ea'
   cases ea'
   cases hx : M.get (v1, v2) with
   | none => rw [hx] at hM; cases hM
   | some x =>
     rw [hx] at hM
     simp only at hM
     have HGE : Hid _ := hG x hx W0.drew (Below.refl _ _).drew
     have hnp : 1 < b.ways.length := by omega
     have hnp0 : 0 < b.ways.length := by omega
     subst ea
     have HK : Hid (∀ w5, Below W0.heap.size W0 w5 -> w5.cell? ⟨cb, 3, none⟩ = some (.slice (some ⟨tb, to, none⟩) b.ways.length c2) /\ w5.cell? ⟨tb, to, none⟩ = some (.int .i64 (b.ways.getD 0 0)) /\ w5.cell? ⟨tb, to + 1, none⟩ = some (.int .i64 (b.ways.getD 1 0)) /\ cb < w5.heap.size /\ tb < w5.heap.size /\ s.ws.mb < w5.heap.size) := fun w5 b5 => by
      have c1 := fun (p : Addr) (hp : p.block < W0.heap.size) => b5.cell (p := p) hp
      refine ⟨(c1 ⟨cb, 3, none⟩ l0).trans k3, (c1 ⟨tb, to, none⟩ (block_lt_of_cell kt0)).trans kt0, (c1 ⟨tb, to + 1, none⟩ (block_lt_of_cell kt1)).trans kt1, by have := b5.size; omega, by have := b5.size; have := block_lt_of_cell kt0; simp only at this; omega, by have := b5.size; omega⟩
     have HEA : Hid (∀ (t : Int), M.enter FS t = some M' -> ∃ k : Nat, t = (k : Int) /\ ∀ w5, Below W0.heap.size W0 w5 -> Calls Tryz.prog 51 #[.pointer (some ⟨s.ws.mb, 0, none⟩), .int .i64 (k : Int)] w5 fun e w' => e = .returned (.tuple #[]) /\ ∃ d', Mca FS s d' w' M' /\ FooA s d d' w w') := fun t ht => by
      obtain ⟨k, ek, _⟩ := mEnter_any H0 t M' ht
      refine ⟨k, ek, fun w5 b5 => ?_⟩
      obtain ⟨k', ek', hen⟩ := mEnter_any (H0.below b5) t M' ht
      obtain rfl : k' = k := by omega
      exact hen.mono fun e w' ⟨r1, d', r2, r3⟩ => ⟨r1, d', r2, (hF0.trans (FooA.of_below b5)).trans r3⟩
     have Sg : (fun w' : World => w'.cell? ⟨cb, 1, none⟩ = some (.int .i64 v1) /\ w'.cell? ⟨cb, 1 + 1, none⟩ = some (.int .i64 v2) /\ cb < w'.heap.size /\ s.ws.mb < w'.heap.size) W0.drew := ⟨k1, k2, l0, hlt⟩
     by_cases x0 : x = 0
     ·subst x0
      rw [if_neg (by simp)] at hM
      obtain ⟨k, ek, hen⟩ := HEA.out _ hM
      have HEN0 : Hid _ := hen
      rw [ek] at HK
      rw [<- htn] at HK hlm htl hW0 hnp hnp0 ⊢
      have hni : (1 : Int) < (tn : Int) := by omega
      generalize s.ws.mb = mb at *
      clear H0 hF0 hI0 hM hen ek k3 kt0 kt1 htn hn hG hx HEA
      go_enter Tryz.func44, Tryz.ntmps44
      go_upto_region 1 with fail
      rw [<- hW0, <- hcb]
      clear hW0 hcb
      go_upto_region 5 with fail
      refine lec_start (S := fun w' : World => w'.cell? ⟨cb, 1, none⟩ = some (.int .i64 v1) /\ w'.cell? ⟨cb, 1 + 1, none⟩ = some (.int .i64 v2) /\ cb < w'.heap.size /\ mb < w'.heap.size) (z := 5) (by kernel_rfl) ?_
      show lec _ _ _ _ _ 7 _ _ _
      try simp only [List.size_toArray, List.length_cons, List.length_nil, Array.replicate]
      refine lec_takeP (i := 0) (v := ?v0b) rfl (by kernel_rfl) (by kernel_rfl) (by kernel_rfl) (by kernel_rfl) (fun _ _ _ h => h) (.inl ⟨by rfl, ?hy0b⟩) Sg ?rest0b
      case hy0b =>
       rintro w' _
       go_simp
       all_goals with_reducible rfl
      try simp only [Act.put, List.getElem_toArray, List.getElem_cons_succ, List.getElem_cons_zero, List.setIfInBounds_toArray, List.set_cons_zero, List.set_cons_succ]
      refine lec_takeP (i := 1) (v := ?v1b) rfl (by kernel_rfl) (by kernel_rfl) (by kernel_rfl) (by kernel_rfl) (fun _ _ _ h => h) (.inl ⟨by rfl, ?hy1b⟩) Sg ?rest1b
      case hy1b =>
       rintro w' _
       go_simp
       all_goals with_reducible rfl
      try simp only [Act.put, List.getElem_toArray, List.getElem_cons_succ, List.getElem_cons_zero, List.setIfInBounds_toArray, List.set_cons_zero, List.set_cons_succ]
      refine lec_takeP (i := 2) (v := ?v2b) rfl (by kernel_rfl) (by kernel_rfl) (by kernel_rfl) (by kernel_rfl) (fun _ _ _ h => h) (.inl ⟨by rfl, ?hy2b⟩) Sg ?rest2b
      case hy2b =>
       rintro w' _
       go_simp
       all_goals with_reducible rfl
      try simp only [Act.put, List.getElem_toArray, List.getElem_cons_succ, List.getElem_cons_zero, List.setIfInBounds_toArray, List.set_cons_zero, List.set_cons_succ]
      refine lec_takeP (i := 3) (v := ?v3b) rfl (by kernel_rfl) (by kernel_rfl) (by kernel_rfl) (by kernel_rfl) (fun _ _ _ h => h) (.inl ⟨by rfl, ?hy3b⟩) Sg ?rest3b
      case hy3b =>
       rintro w' _
       go_simp
       all_goals with_reducible rfl
      try simp only [Act.put, List.getElem_toArray, List.getElem_cons_succ, List.getElem_cons_zero, List.setIfInBounds_toArray, List.set_cons_zero, List.set_cons_succ]
      refine lec_takeT [5, 6] (i := 4) (v := ?v4b) rfl (by kernel_rfl) (by kernel_rfl) (by kernel_rfl) (by kernel_rfl) (fun _ _ _ h => h) (.inl ⟨by rfl, ?hy4b⟩) Sg ?rest4b
      case hy4b =>
       rintro w' ⟨h1, h2, h3, h4⟩
       go_simp
       all_goals with_reducible rfl
      try simp only [Act.put, List.getElem_toArray, List.getElem_cons_succ, List.getElem_cons_zero, List.setIfInBounds_toArray, List.set_cons_zero, List.set_cons_succ]
      refine lec_one (i := 5) rfl (by kernel_rfl) ?_
      intro K5 hK5
      rw [if_pos (by rfl)]
      go_simp
      refine Calls.mono HGE.out ?_
      rintro e w5 ⟨rfl, hh⟩
      have H5 : Hid _ := hh
      clear hh
      go_simp
      refine hK5 _ _ (fun h => by cases h) ?_
      clear hK5
      try simp only [Act.put, List.getElem_toArray, List.getElem_cons_succ, List.getElem_cons_zero, List.setIfInBounds_toArray, List.set_cons_zero, List.set_cons_succ]
      refine lec_one (i := 6) rfl (by kernel_rfl) ?_
      intro K6 hK6
      rw [if_pos (by rfl)]
      go_simp
      refine hK6 _ _ (fun h => by cases h) ?_
      clear hK6
      refine lec_done (by kernel_rfl) ?_
      obtain ⟨e1, e9, e2, e3, e4, e5⟩ := HK.out w5.drew (H5.out.trans ((Below.refl _ _).drew.mono H5.out.size))
      have HEN : Hid _ := HEN0.out w5.drew (H5.out.trans ((Below.refl _ _).drew.mono H5.out.size))
      clear Sg HGE HK HEN0 k0 k1 k2
      go_upto_region 7 with fail
      have Se : (fun w' : World => w'.cell? ⟨cb, 3, none⟩ = some (.slice (some ⟨tb, to, none⟩) tn c2) /\ w'.cell? ⟨tb, to + 1, none⟩ = some (.int .i64 (k : Int)) /\ cb < w'.heap.size /\ tb < w'.heap.size /\ mb < w'.heap.size) w5.drew := ⟨e1, e2, e3, e4, e5⟩
      refine lec_start (S := fun w' : World => w'.cell? ⟨cb, 3, none⟩ = some (.slice (some ⟨tb, to, none⟩) tn c2) /\ w'.cell? ⟨tb, to + 1, none⟩ = some (.int .i64 (k : Int)) /\ cb < w'.heap.size /\ tb < w'.heap.size /\ mb < w'.heap.size) (z := 7) (by kernel_rfl) ?_
      show lec _ _ _ _ _ 8 _ _ _
      try simp only [List.size_toArray, List.length_cons, List.length_nil, Array.replicate]
      refine lec_takeP (i := 0) (v := ?v0c) rfl (by kernel_rfl) (by kernel_rfl) (by kernel_rfl) (by kernel_rfl) (fun _ _ _ h => h) (.inl ⟨by rfl, ?hy0c⟩) Se ?rest0c
      case hy0c =>
       rintro w' _
       go_simp
       all_goals with_reducible rfl
      try simp only [Act.put, List.getElem_toArray, List.getElem_cons_succ, List.getElem_cons_zero, List.setIfInBounds_toArray, List.set_cons_zero, List.set_cons_succ]
      refine lec_takeP (i := 1) (v := ?v1c) rfl (by kernel_rfl) (by kernel_rfl) (by kernel_rfl) (by kernel_rfl) (fun _ _ _ h => h) (.inl ⟨by rfl, ?hy1c⟩) Se ?rest1c
      case hy1c =>
       rintro w' _
       go_simp
       all_goals with_reducible rfl
      try simp only [Act.put, List.getElem_toArray, List.getElem_cons_succ, List.getElem_cons_zero, List.setIfInBounds_toArray, List.set_cons_zero, List.set_cons_succ]
      refine lec_takeP (i := 2) (v := ?v2c) rfl (by kernel_rfl) (by kernel_rfl) (by kernel_rfl) (by kernel_rfl) (fun _ _ _ h => h) (.inl ⟨by rfl, ?hy2c⟩) Se ?rest2c
      case hy2c =>
       rintro w' _
       go_simp
       all_goals with_reducible rfl
      try simp only [Act.put, List.getElem_toArray, List.getElem_cons_succ, List.getElem_cons_zero, List.setIfInBounds_toArray, List.set_cons_zero, List.set_cons_succ]
      refine lec_takeP (i := 3) (v := ?v3c) rfl (by kernel_rfl) (by kernel_rfl) (by kernel_rfl) (by kernel_rfl) (fun _ _ _ h => h) (.inl ⟨by rfl, ?hy3c⟩) Se ?rest3c
      case hy3c =>
       rintro w' _
       go_simp
       all_goals with_reducible rfl
      try simp only [Act.put, List.getElem_toArray, List.getElem_cons_succ, List.getElem_cons_zero, List.setIfInBounds_toArray, List.set_cons_zero, List.set_cons_succ]
      refine lec_takeT [5, 6, 7] (i := 4) (v := ?v4c) rfl (by kernel_rfl) (by kernel_rfl) (by kernel_rfl) (by kernel_rfl) (fun _ _ _ h => h) (.inl ⟨by rfl, ?hy4c⟩) Se ?rest4c
      case hy4c =>
       rintro w' ⟨h1, h2, h3, h4, h5⟩
       go_simp
       all_goals with_reducible rfl
      try simp only [Act.put, List.getElem_toArray, List.getElem_cons_succ, List.getElem_cons_zero, List.setIfInBounds_toArray, List.set_cons_zero, List.set_cons_succ]
      refine lec_takeP (i := 5) (v := ?v5c) rfl (by kernel_rfl) (by kernel_rfl) (by kernel_rfl) (by kernel_rfl) (fun _ _ _ h => h) (.inl ⟨by rfl, ?hy5c⟩) Se ?rest5c
      case hy5c =>
       rintro w' _
       go_simp
       all_goals with_reducible rfl
      try simp only [Act.put, List.getElem_toArray, List.getElem_cons_succ, List.getElem_cons_zero, List.setIfInBounds_toArray, List.set_cons_zero, List.set_cons_succ]
      refine lec_takeT [7] (i := 6) (v := ?v6c) rfl (by kernel_rfl) (by kernel_rfl) (by kernel_rfl) (by kernel_rfl) (fun _ _ _ h => h) (.inl ⟨by rfl, ?hy6c⟩) Se ?rest6c
      case hy6c =>
       rintro w' ⟨h1, h2, h3, h4, h5⟩
       go_simp
       all_goals with_reducible rfl
      try simp only [Act.put, List.getElem_toArray, List.getElem_cons_succ, List.getElem_cons_zero, List.setIfInBounds_toArray, List.set_cons_zero, List.set_cons_succ]
      refine lec_one (i := 7) rfl (by kernel_rfl) ?_
      intro K7 hK7
      rw [if_pos (by rfl)]
      go_simp
      refine Calls.mono HEN.out ?_
      rintro e w7 ⟨rfl, hh⟩
      have H7 : Hid _ := hh
      clear hh
      go_simp
      refine hK7 _ _ (fun h => by cases h) ?_
      clear hK7
      try simp only [Act.put, List.getElem_toArray, List.getElem_cons_succ, List.getElem_cons_zero, List.setIfInBounds_toArray, List.set_cons_zero, List.set_cons_succ]
      refine lec_done (by kernel_rfl) ?_
      clear Se HEN
      go_wp2_with fail
      exact bodyPost_end (v := .tuple #[]) (by simp [results, Tryz.results44, go_sem]) rfl ⟨rfl, H7.out⟩
     ·rw [if_pos x0] at hM
      obtain ⟨k, ek, hen⟩ := HEA.out _ hM
      have HEN0 : Hid _ := hen
      rw [ek] at HK
      rw [<- htn] at HK hlm htl hW0 hnp hnp0 ⊢
      have hni : (0 : Int) < (tn : Int) := by omega
      have hx9 : (x != 0) = true := by simp [x0]
      generalize s.ws.mb = mb at *
      clear H0 hF0 hI0 hM hen ek k3 kt0 kt1 htn hn hG hx HEA x0
      go_enter Tryz.func44, Tryz.ntmps44
      go_upto_region 1 with fail
      rw [<- hW0, <- hcb]
      clear hW0 hcb
      go_upto_region 5 with fail
      refine lec_start (S := fun w' : World => w'.cell? ⟨cb, 1, none⟩ = some (.int .i64 v1) /\ w'.cell? ⟨cb, 1 + 1, none⟩ = some (.int .i64 v2) /\ cb < w'.heap.size /\ mb < w'.heap.size) (z := 5) (by kernel_rfl) ?_
      show lec _ _ _ _ _ 7 _ _ _
      try simp only [List.size_toArray, List.length_cons, List.length_nil, Array.replicate]
      refine lec_takeP (i := 0) (v := ?v0d) rfl (by kernel_rfl) (by kernel_rfl) (by kernel_rfl) (by kernel_rfl) (fun _ _ _ h => h) (.inl ⟨by rfl, ?hy0d⟩) Sg ?rest0d
      case hy0d =>
       rintro w' _
       go_simp
       all_goals with_reducible rfl
      try simp only [Act.put, List.getElem_toArray, List.getElem_cons_succ, List.getElem_cons_zero, List.setIfInBounds_toArray, List.set_cons_zero, List.set_cons_succ]
      refine lec_takeP (i := 1) (v := ?v1d) rfl (by kernel_rfl) (by kernel_rfl) (by kernel_rfl) (by kernel_rfl) (fun _ _ _ h => h) (.inl ⟨by rfl, ?hy1d⟩) Sg ?rest1d
      case hy1d =>
       rintro w' _
       go_simp
       all_goals with_reducible rfl
      try simp only [Act.put, List.getElem_toArray, List.getElem_cons_succ, List.getElem_cons_zero, List.setIfInBounds_toArray, List.set_cons_zero, List.set_cons_succ]
      refine lec_takeP (i := 2) (v := ?v2d) rfl (by kernel_rfl) (by kernel_rfl) (by kernel_rfl) (by kernel_rfl) (fun _ _ _ h => h) (.inl ⟨by rfl, ?hy2d⟩) Sg ?rest2d
      case hy2d =>
       rintro w' _
       go_simp
       all_goals with_reducible rfl
      try simp only [Act.put, List.getElem_toArray, List.getElem_cons_succ, List.getElem_cons_zero, List.setIfInBounds_toArray, List.set_cons_zero, List.set_cons_succ]
      refine lec_takeP (i := 3) (v := ?v3d) rfl (by kernel_rfl) (by kernel_rfl) (by kernel_rfl) (by kernel_rfl) (fun _ _ _ h => h) (.inl ⟨by rfl, ?hy3d⟩) Sg ?rest3d
      case hy3d =>
       rintro w' _
       go_simp
       all_goals with_reducible rfl
      try simp only [Act.put, List.getElem_toArray, List.getElem_cons_succ, List.getElem_cons_zero, List.setIfInBounds_toArray, List.set_cons_zero, List.set_cons_succ]
      refine lec_takeT [5, 6] (i := 4) (v := ?v4d) rfl (by kernel_rfl) (by kernel_rfl) (by kernel_rfl) (by kernel_rfl) (fun _ _ _ h => h) (.inl ⟨by rfl, ?hy4d⟩) Sg ?rest4d
      case hy4d =>
       rintro w' ⟨h1, h2, h3, h4⟩
       go_simp
       all_goals with_reducible rfl
      try simp only [Act.put, List.getElem_toArray, List.getElem_cons_succ, List.getElem_cons_zero, List.setIfInBounds_toArray, List.set_cons_zero, List.set_cons_succ]
      refine lec_one (i := 5) rfl (by kernel_rfl) ?_
      intro K5 hK5
      rw [if_pos (by rfl)]
      go_simp
      refine Calls.mono HGE.out ?_
      rintro e w5 ⟨rfl, hh⟩
      have H5 : Hid _ := hh
      clear hh
      go_simp
      refine hK5 _ _ (fun h => by cases h) ?_
      clear hK5
      try simp only [Act.put, List.getElem_toArray, List.getElem_cons_succ, List.getElem_cons_zero, List.setIfInBounds_toArray, List.set_cons_zero, List.set_cons_succ]
      refine lec_one (i := 6) rfl (by kernel_rfl) ?_
      intro K6 hK6
      rw [if_pos (by rfl)]
      go_simp
      refine hK6 _ _ (fun h => by cases h) ?_
      clear hK6
      refine lec_done (by kernel_rfl) ?_
      obtain ⟨e1, e2, e9, e3, e4, e5⟩ := HK.out w5.drew (H5.out.trans ((Below.refl _ _).drew.mono H5.out.size))
      have HEN : Hid _ := HEN0.out w5.drew (H5.out.trans ((Below.refl _ _).drew.mono H5.out.size))
      clear Sg HGE HK HEN0 k0 k1 k2
      go_upto_region 6 with fail
      have Se : (fun w' : World => w'.cell? ⟨cb, 3, none⟩ = some (.slice (some ⟨tb, to, none⟩) tn c2) /\ w'.cell? ⟨tb, to, none⟩ = some (.int .i64 (k : Int)) /\ cb < w'.heap.size /\ tb < w'.heap.size /\ mb < w'.heap.size) w5.drew := ⟨e1, e2, e3, e4, e5⟩
      refine lec_start (S := fun w' : World => w'.cell? ⟨cb, 3, none⟩ = some (.slice (some ⟨tb, to, none⟩) tn c2) /\ w'.cell? ⟨tb, to, none⟩ = some (.int .i64 (k : Int)) /\ cb < w'.heap.size /\ tb < w'.heap.size /\ mb < w'.heap.size) (z := 7) (by kernel_rfl) ?_
      show lec _ _ _ _ _ 8 _ _ _
      try simp only [List.size_toArray, List.length_cons, List.length_nil, Array.replicate]
      refine lec_takeP (i := 0) (v := ?v0e) rfl (by kernel_rfl) (by kernel_rfl) (by kernel_rfl) (by kernel_rfl) (fun _ _ _ h => h) (.inl ⟨by rfl, ?hy0e⟩) Se ?rest0e
      case hy0e =>
       rintro w' _
       go_simp
       all_goals with_reducible rfl
      try simp only [Act.put, List.getElem_toArray, List.getElem_cons_succ, List.getElem_cons_zero, List.setIfInBounds_toArray, List.set_cons_zero, List.set_cons_succ]
      refine lec_takeP (i := 1) (v := ?v1e) rfl (by kernel_rfl) (by kernel_rfl) (by kernel_rfl) (by kernel_rfl) (fun _ _ _ h => h) (.inl ⟨by rfl, ?hy1e⟩) Se ?rest1e
      case hy1e =>
       rintro w' _
       go_simp
       all_goals with_reducible rfl
      try simp only [Act.put, List.getElem_toArray, List.getElem_cons_succ, List.getElem_cons_zero, List.setIfInBounds_toArray, List.set_cons_zero, List.set_cons_succ]
      refine lec_takeP (i := 2) (v := ?v2e) rfl (by kernel_rfl) (by kernel_rfl) (by kernel_rfl) (by kernel_rfl) (fun _ _ _ h => h) (.inl ⟨by rfl, ?hy2e⟩) Se ?rest2e
      case hy2e =>
       rintro w' _
       go_simp
       all_goals with_reducible rfl
      try simp only [Act.put, List.getElem_toArray, List.getElem_cons_succ, List.getElem_cons_zero, List.setIfInBounds_toArray, List.set_cons_zero, List.set_cons_succ]
      refine lec_takeP (i := 3) (v := ?v3e) rfl (by kernel_rfl) (by kernel_rfl) (by kernel_rfl) (by kernel_rfl) (fun _ _ _ h => h) (.inl ⟨by rfl, ?hy3e⟩) Se ?rest3e
      case hy3e =>
       rintro w' _
       go_simp
       all_goals with_reducible rfl
      try simp only [Act.put, List.getElem_toArray, List.getElem_cons_succ, List.getElem_cons_zero, List.setIfInBounds_toArray, List.set_cons_zero, List.set_cons_succ]
      refine lec_takeT [5, 6, 7] (i := 4) (v := ?v4e) rfl (by kernel_rfl) (by kernel_rfl) (by kernel_rfl) (by kernel_rfl) (fun _ _ _ h => h) (.inl ⟨by rfl, ?hy4e⟩) Se ?rest4e
      case hy4e =>
       rintro w' ⟨h1, h2, h3, h4, h5⟩
       go_simp
       all_goals with_reducible rfl
      try simp only [Act.put, List.getElem_toArray, List.getElem_cons_succ, List.getElem_cons_zero, List.setIfInBounds_toArray, List.set_cons_zero, List.set_cons_succ]
      refine lec_takeP (i := 5) (v := ?v5e) rfl (by kernel_rfl) (by kernel_rfl) (by kernel_rfl) (by kernel_rfl) (fun _ _ _ h => h) (.inl ⟨by rfl, ?hy5e⟩) Se ?rest5e
      case hy5e =>
       rintro w' _
       go_simp
       all_goals with_reducible rfl
      try simp only [Act.put, List.getElem_toArray, List.getElem_cons_succ, List.getElem_cons_zero, List.setIfInBounds_toArray, List.set_cons_zero, List.set_cons_succ]
      refine lec_takeT [7] (i := 6) (v := ?v6e) rfl (by kernel_rfl) (by kernel_rfl) (by kernel_rfl) (by kernel_rfl) (fun _ _ _ h => h) (.inl ⟨by rfl, ?hy6e⟩) Se ?rest6e
      case hy6e =>
       rintro w' ⟨h1, h2, h3, h4, h5⟩
       go_simp
       all_goals with_reducible rfl
      try simp only [Act.put, List.getElem_toArray, List.getElem_cons_succ, List.getElem_cons_zero, List.setIfInBounds_toArray, List.set_cons_zero, List.set_cons_succ]
      refine lec_one (i := 7) rfl (by kernel_rfl) ?_
      intro K7 hK7
      rw [if_pos (by rfl)]
      go_simp
      refine Calls.mono HEN.out ?_
      rintro e w7 ⟨rfl, hh⟩
      have H7 : Hid _ := hh
      clear hh
      go_simp
      refine hK7 _ _ (fun h => by cases h) ?_
      clear hK7
      try simp only [Act.put, List.getElem_toArray, List.getElem_cons_succ, List.getElem_cons_zero, List.setIfInBounds_toArray, List.set_cons_zero, List.set_cons_succ]
      refine lec_done (by kernel_rfl) ?_
      clear Se HEN
      go_wp2_with fail
      exact bodyPost_end (v := .tuple #[]) (by simp [results, Tryz.results44, go_sem]) rfl ⟨rfl, H7.out⟩
 rw [if_neg q2] at hM
 have t2 : (kd == 2) = false := by simp [q2]
 by_cases q3 : kd = 3
 ·subst q3
  rw [if_pos rfl] at hM
  cases hx : M.get (v1, v2) with
  | none => rw [hx] at hM; cases hM
  | some x =>
    rw [hx] at hM
    simp only at hM
    have HGE : Hid _ := hG x hx W0.drew (Below.refl _ _).drew
    have HBA : Hid (∀ w5, Below W0.heap.size W0 w5 -> Calls Tryz.prog 53 #[.pointer (some ⟨s.ws.mb, 0, none⟩), .int .i64 x] w5 fun e w' => e = .returned (.tuple #[]) /\ ∃ d', Mca FS s d' w' M' /\ FooA s d d' w w') := fun w5 b5 => (mBack_any (H0.below b5) hl x M' hM).mono fun e w' ⟨r1, d', r2, r3⟩ => ⟨r1, d', r2, (hF0.trans (FooA.of_below b5)).trans r3⟩
    have Sg : (fun w' : World => w'.cell? ⟨cb, 1, none⟩ = some (.int .i64 v1) /\ w'.cell? ⟨cb, 1 + 1, none⟩ = some (.int .i64 v2) /\ cb < w'.heap.size /\ s.ws.mb < w'.heap.size) W0.drew := ⟨k1, k2, l0, hlt⟩
    generalize s.ws.mb = mb at *
    clear H0 hF0 hI0 hM hG hx
    go_enter Tryz.func44, Tryz.ntmps44
    go_upto_region 1 with fail
    rw [<- hW0, <- hcb]
    clear hW0 hcb
    go_upto_region 9 with fail
    refine lec_start (S := fun w' : World => w'.cell? ⟨cb, 1, none⟩ = some (.int .i64 v1) /\ w'.cell? ⟨cb, 1 + 1, none⟩ = some (.int .i64 v2) /\ cb < w'.heap.size /\ mb < w'.heap.size) (z := 6) (by kernel_rfl) ?_
    show lec _ _ _ _ _ 8 _ _ _
    try simp only [List.size_toArray, List.length_cons, List.length_nil, Array.replicate]
    refine lec_takeP (i := 0) (v := ?v0f) rfl (by kernel_rfl) (by kernel_rfl) (by kernel_rfl) (by kernel_rfl) (fun _ _ _ h => h) (.inl ⟨by rfl, ?hy0f⟩) Sg ?rest0f
    case hy0f =>
     rintro w' _
     go_simp
     all_goals with_reducible rfl
    try simp only [Act.put, List.getElem_toArray, List.getElem_cons_succ, List.getElem_cons_zero, List.setIfInBounds_toArray, List.set_cons_zero, List.set_cons_succ]
    refine lec_takeP (i := 1) (v := ?v1f) rfl (by kernel_rfl) (by kernel_rfl) (by kernel_rfl) (by kernel_rfl) (fun _ _ _ h => h) (.inl ⟨by rfl, ?hy1f⟩) Sg ?rest1f
    case hy1f =>
     rintro w' _
     go_simp
     all_goals with_reducible rfl
    try simp only [Act.put, List.getElem_toArray, List.getElem_cons_succ, List.getElem_cons_zero, List.setIfInBounds_toArray, List.set_cons_zero, List.set_cons_succ]
    refine lec_takeP (i := 2) (v := ?v2f) rfl (by kernel_rfl) (by kernel_rfl) (by kernel_rfl) (by kernel_rfl) (fun _ _ _ h => h) (.inl ⟨by rfl, ?hy2f⟩) Sg ?rest2f
    case hy2f =>
     rintro w' _
     go_simp
     all_goals with_reducible rfl
    try simp only [Act.put, List.getElem_toArray, List.getElem_cons_succ, List.getElem_cons_zero, List.setIfInBounds_toArray, List.set_cons_zero, List.set_cons_succ]
    refine lec_takeP (i := 3) (v := ?v3f) rfl (by kernel_rfl) (by kernel_rfl) (by kernel_rfl) (by kernel_rfl) (fun _ _ _ h => h) (.inl ⟨by rfl, ?hy3f⟩) Sg ?rest3f
    case hy3f =>
     rintro w' _
     go_simp
     all_goals with_reducible rfl
    try simp only [Act.put, List.getElem_toArray, List.getElem_cons_succ, List.getElem_cons_zero, List.setIfInBounds_toArray, List.set_cons_zero, List.set_cons_succ]
    refine lec_takeP (i := 4) (v := ?v4f) rfl (by kernel_rfl) (by kernel_rfl) (by kernel_rfl) (by kernel_rfl) (fun _ _ _ h => h) (.inl ⟨by rfl, ?hy4f⟩) Sg ?rest4f
    case hy4f =>
     rintro w' _
     go_simp
     all_goals with_reducible rfl
    try simp only [Act.put, List.getElem_toArray, List.getElem_cons_succ, List.getElem_cons_zero, List.setIfInBounds_toArray, List.set_cons_zero, List.set_cons_succ]
    refine lec_takeT [6, 7] (i := 5) (v := ?v5f) rfl (by kernel_rfl) (by kernel_rfl) (by kernel_rfl) (by kernel_rfl) (fun _ _ _ h => h) (.inl ⟨by rfl, ?hy5f⟩) Sg ?rest5f
    case hy5f =>
     rintro w' ⟨h1, h2, h3, h4⟩
     go_simp
     all_goals with_reducible rfl
    try simp only [Act.put, List.getElem_toArray, List.getElem_cons_succ, List.getElem_cons_zero, List.setIfInBounds_toArray, List.set_cons_zero, List.set_cons_succ]
    refine lec_one (i := 6) rfl (by kernel_rfl) ?_
    intro K6 hK6
    rw [if_pos (by rfl)]
    go_simp
    refine Calls.mono HGE.out ?_
    rintro e w5 ⟨rfl, hh⟩
    have H5 : Hid _ := hh
    clear hh
    go_simp
    refine hK6 _ _ (fun h => by cases h) ?_
    clear hK6
    try simp only [Act.put, List.getElem_toArray, List.getElem_cons_succ, List.getElem_cons_zero, List.setIfInBounds_toArray, List.set_cons_zero, List.set_cons_succ]
    refine lec_one (i := 7) rfl (by kernel_rfl) ?_
    intro K7 hK7
    rw [if_pos (by rfl)]
    go_simp
    refine Calls.mono (HBA.out w5 H5.out) ?_
    rintro e w7 ⟨rfl, hh⟩
    have H7 : Hid _ := hh
    clear hh
    go_simp
    refine hK7 _ _ (fun h => by cases h) ?_
    clear hK7
    try simp only [Act.put, List.getElem_toArray, List.getElem_cons_succ, List.getElem_cons_zero, List.setIfInBounds_toArray, List.set_cons_zero, List.set_cons_succ]
    refine lec_done (by kernel_rfl) ?_
    clear Sg HGE HBA
    go_wp2_with fail
    exact bodyPost_end (v := .tuple #[]) (by simp [results, Tryz.results44, go_sem]) rfl ⟨rfl, H7.out⟩
 rw [if_neg q3] at hM
 have t3 : (kd == 3) = false := by simp [q3]
 by_cases q4 : kd = 4
 ·subst q4
  rw [if_pos rfl] at hM
  cases hx : M.get (v1, v2) with
  | none => rw [hx] at hM; cases hM
  | some x =>
    rw [hx] at hM
    cases hM
    have HGE : Hid _ := hG x hx W0.drew (Below.refl _ _).drew
    have ho : s.ws.o + 1 = 15 := by rw [H0.rs.ty.2]
    have HBA : Hid (∀ w5, Below W0.heap.size W0 w5 -> Calls Tryz.prog 54 #[.pointer (some ⟨s.ws.mb, 15, none⟩), .int .i64 6, .int .i64 x] w5 fun e w' => e = .returned (.tuple #[]) /\ ∃ d', Mca FS s d' w' { M with wv := M.wv.panic 6 x } /\ FooA s d d' w w') := fun w5 b5 => by
     have hp := mPanicW (H0.below b5).rs.wm 6 x
     rw [ho] at hp
     refine hp.mono ?_
     rintro e w' ⟨rfl, d', r1, r2⟩
     have hc := (H0.below b5).wv r1 r2
     exact ⟨rfl, _, hc.1, (hF0.trans (FooA.of_below b5)).trans hc.2⟩
    have Sg : (fun w' : World => w'.cell? ⟨cb, 1, none⟩ = some (.int .i64 v1) /\ w'.cell? ⟨cb, 1 + 1, none⟩ = some (.int .i64 v2) /\ cb < w'.heap.size /\ s.ws.mb < w'.heap.size) W0.drew := ⟨k1, k2, l0, hlt⟩
    generalize s.ws.mb = mb at *
    clear H0 hF0 hI0 hG hx ho
    go_enter Tryz.func44, Tryz.ntmps44
    go_upto_region 1 with fail
    rw [<- hW0, <- hcb]
    clear hW0 hcb
    go_upto_region 11 with fail
    refine lec_start (S := fun w' : World => w'.cell? ⟨cb, 1, none⟩ = some (.int .i64 v1) /\ w'.cell? ⟨cb, 1 + 1, none⟩ = some (.int .i64 v2) /\ cb < w'.heap.size /\ mb < w'.heap.size) (z := 9) (by kernel_rfl) ?_
    show lec _ _ _ _ _ 11 _ _ _
    try simp only [List.size_toArray, List.length_cons, List.length_nil, Array.replicate]
    refine lec_takeP (i := 0) (v := ?v0g) rfl (by kernel_rfl) (by kernel_rfl) (by kernel_rfl) (by kernel_rfl) (fun _ _ _ h => h) (.inl ⟨by rfl, ?hy0g⟩) Sg ?rest0g
    case hy0g =>
     rintro w' _
     go_simp
     all_goals with_reducible rfl
    try simp only [Act.put, List.getElem_toArray, List.getElem_cons_succ, List.getElem_cons_zero, List.setIfInBounds_toArray, List.set_cons_zero, List.set_cons_succ]
    refine lec_takeP (i := 1) (v := ?v1g) rfl (by kernel_rfl) (by kernel_rfl) (by kernel_rfl) (by kernel_rfl) (fun _ _ _ h => h) (.inl ⟨by rfl, ?hy1g⟩) Sg ?rest1g
    case hy1g =>
     rintro w' _
     go_simp
     all_goals with_reducible rfl
    try simp only [Act.put, List.getElem_toArray, List.getElem_cons_succ, List.getElem_cons_zero, List.setIfInBounds_toArray, List.set_cons_zero, List.set_cons_succ]
    refine lec_takeP (i := 2) (v := ?v2g) rfl (by kernel_rfl) (by kernel_rfl) (by kernel_rfl) (by kernel_rfl) (fun _ _ _ h => h) (.inl ⟨by rfl, ?hy2g⟩) Sg ?rest2g
    case hy2g =>
     rintro w' _
     go_simp
     all_goals with_reducible rfl
    try simp only [Act.put, List.getElem_toArray, List.getElem_cons_succ, List.getElem_cons_zero, List.setIfInBounds_toArray, List.set_cons_zero, List.set_cons_succ]
    refine lec_takeP (i := 3) (v := ?v3g) rfl (by kernel_rfl) (by kernel_rfl) (by kernel_rfl) (by kernel_rfl) (fun _ _ _ h => h) (.inl ⟨by rfl, ?hy3g⟩) Sg ?rest3g
    case hy3g =>
     rintro w' _
     go_simp
     all_goals with_reducible rfl
    try simp only [Act.put, List.getElem_toArray, List.getElem_cons_succ, List.getElem_cons_zero, List.setIfInBounds_toArray, List.set_cons_zero, List.set_cons_succ]
    refine lec_takeP (i := 4) (v := ?v4g) rfl (by kernel_rfl) (by kernel_rfl) (by kernel_rfl) (by kernel_rfl) (fun _ _ _ h => h) (.inl ⟨by rfl, ?hy4g⟩) Sg ?rest4g
    case hy4g =>
     rintro w' _
     go_simp
     all_goals with_reducible rfl
    try simp only [Act.put, List.getElem_toArray, List.getElem_cons_succ, List.getElem_cons_zero, List.setIfInBounds_toArray, List.set_cons_zero, List.set_cons_succ]
    refine lec_takeP (i := 5) (v := ?v5g) rfl (by kernel_rfl) (by kernel_rfl) (by kernel_rfl) (by kernel_rfl) (fun _ _ _ h => h) (.inl ⟨by rfl, ?hy5g⟩) Sg ?rest5g
    case hy5g =>
     rintro w' _
     go_simp
     all_goals with_reducible rfl
    try simp only [Act.put, List.getElem_toArray, List.getElem_cons_succ, List.getElem_cons_zero, List.setIfInBounds_toArray, List.set_cons_zero, List.set_cons_succ]
    refine lec_takeP (i := 6) (v := ?v6g) rfl (by kernel_rfl) (by kernel_rfl) (by kernel_rfl) (by kernel_rfl) (fun _ _ _ h => h) (.inl ⟨by rfl, ?hy6g⟩) Sg ?rest6g
    case hy6g =>
     rintro w' _
     go_simp
     all_goals with_reducible rfl
    try simp only [Act.put, List.getElem_toArray, List.getElem_cons_succ, List.getElem_cons_zero, List.setIfInBounds_toArray, List.set_cons_zero, List.set_cons_succ]
    refine lec_takeP (i := 7) (v := ?v7g) rfl (by kernel_rfl) (by kernel_rfl) (by kernel_rfl) (by kernel_rfl) (fun _ _ _ h => h) (.inl ⟨by rfl, ?hy7g⟩) Sg ?rest7g
    case hy7g =>
     rintro w' _
     go_simp
     all_goals with_reducible rfl
    try simp only [Act.put, List.getElem_toArray, List.getElem_cons_succ, List.getElem_cons_zero, List.setIfInBounds_toArray, List.set_cons_zero, List.set_cons_succ]
    refine lec_takeT [9, 10] (i := 8) (v := ?v8g) rfl (by kernel_rfl) (by kernel_rfl) (by kernel_rfl) (by kernel_rfl) (fun _ _ _ h => h) (.inl ⟨by rfl, ?hy8g⟩) Sg ?rest8g
    case hy8g =>
     rintro w' ⟨h1, h2, h3, h4⟩
     go_simp
     all_goals with_reducible rfl
    try simp only [Act.put, List.getElem_toArray, List.getElem_cons_succ, List.getElem_cons_zero, List.setIfInBounds_toArray, List.set_cons_zero, List.set_cons_succ]
    refine lec_one (i := 9) rfl (by kernel_rfl) ?_
    intro K9 hK9
    rw [if_pos (by rfl)]
    go_simp
    refine Calls.mono HGE.out ?_
    rintro e w5 ⟨rfl, hh⟩
    have H5 : Hid _ := hh
    clear hh
    go_simp
    refine hK9 _ _ (fun h => by cases h) ?_
    clear hK9
    try simp only [Act.put, List.getElem_toArray, List.getElem_cons_succ, List.getElem_cons_zero, List.setIfInBounds_toArray, List.set_cons_zero, List.set_cons_succ]
    refine lec_one (i := 10) rfl (by kernel_rfl) ?_
    intro K10 hK10
    rw [if_pos (by rfl)]
    go_simp
    refine Calls.mono (HBA.out w5 H5.out) ?_
    rintro e w7 ⟨rfl, hh⟩
    have H7 : Hid _ := hh
    clear hh
    go_simp
    refine hK10 _ _ (fun h => by cases h) ?_
    clear hK10
    try simp only [Act.put, List.getElem_toArray, List.getElem_cons_succ, List.getElem_cons_zero, List.setIfInBounds_toArray, List.set_cons_zero, List.set_cons_succ]
    refine lec_done (by kernel_rfl) ?_
    clear Sg HGE HBA
    go_wp2_with fail
    exact bodyPost_end (v := .tuple #[]) (by simp [results, Tryz.results44, go_sem]) rfl ⟨rfl, H7.out⟩
 rw [if_neg q4] at hM
 cases hM
end Go.Proofs.YtegoemeefmjnoaaGreatDoor
