import Derived.Test.YtdbkjjelaipcfaaGreatDoorJbl
set_option linter.unusedVariables false
set_option linter.unusedSimpArgs false
namespace Go.Proofs.YtdbkjjelaipcfaaGreatDoor
open Go.ChangeShapes Go.WideShapes Go.ChangeAt Go.RowKit Go.Maps
theorem infoBls : (Tryz.prog.info? 70).map (fun i => (i.zero, i.size, i.bytes)) = some (some (.slice none 0 0), 1, 24) := by kernel_rfl
theorem see_end {w W : World} {s : ByteArray} {pa : Option Addr} {pn pc : Nat} {r : Int} {va : Option Addr} {vn vc : Nat} {ba : Option Addr} {bn bc : Nat} {g c pg wg : Nat} {f : Fu} (A : Af1 w (.cells #[.string s, .slice pa pn pc, .int .i64 r, .slice va vn vc, .slice ba bn bc] 38) W) (hr : RW w W g c f) (hp : T3 W pg vn (qlK f f.blks.length) (cntAll f)) (hm : W.heap[wg]? = some (.cells (madeCells #[.slice none 0 0] bn) 70 (0, 0))) (hne : g ≠ wg) (hup : w.heap.size <= wg) (eb : bn = f.blks.length) (ev : vn = f.vals.length) :
 SG w (W.alloc (.cells #[.slice (some ⟨g, 0, none⟩) bn c, .slice (some ⟨pg, 0, none⟩) vn vn, .slice (some ⟨wg, 0, none⟩) bn bn] 112)) W.heap.size wg (some ⟨g, 0, none⟩) c pg bn vn f := by
 have hl := (gl hm)
 have hb := below_new W (.cells #[.slice (some ⟨g, 0, none⟩) bn c, .slice (some ⟨pg, 0, none⟩) vn vn, .slice (some ⟨wg, 0, none⟩) bn bn] 112)
 have hlow := (A.next hb).low
 have hpn : pg ≠ wg := fun e => by
  obtain ⟨cs, h1, _⟩ := hp.out
  rw [e, hm] at h1
  injection h1 with h1
  injection h1 with _ h2
  exact absurd h2 (by decide)
 refine ⟨heap_alloc_new W _, by omega, hpn, fun w' ho => hr.out w' (ho.low hlow hup) ?_, hp.keep hb, ⟨_, (hb.block _ hl).trans hm, by rw [size_madeCells], fun a ha => ⟨.inl ?_⟩⟩, hlow, hup⟩
 ·exact (ho.eq g (by have := hr.lt; have := hb.size; omega) hne).trans (hb.block g hr.lt)
 ·rw [Array.getElem?_eq_getElem (by rw [size_madeCells]; exact ha)]
  simp only [madeCells, Array.getElem_map, Array.getElem_range]
  rw [show a % (#[Value.slice none 0 0] : Array Value).size = 0 by simp; omega]
  rfl
set_option maxRecDepth 100000 in
set_option maxHeartbeats 8000000 in
theorem rSee_any (w : World) {fa : Option Addr} {fn fc : Nat} {s : ByteArray} {pa : Option Addr} {pn pc : Nat} {r : Int} {va : Option Addr} {vn vc : Nat} {ba : Option Addr} {bn bc : Nat} {FS : List Fu} {f : Fu} (X : RX w fa fn fc s pa pn pc r va vn vc ba bn bc FS f) (hf : formP FS f = true) (hbn : bn <= 1000000) (hbulk : totK f f.blks.length <= 1000000000) :
 Calls Tryz.prog 91 #[.agg #[.string s, .slice pa pn pc, .int .i64 r, .slice va vn vc, .slice ba bn bc]] w fun e w' => ∃ sb wg toa toc pg, e = .returned (.pointer (some ⟨sb, 0, none⟩)) /\ SG w w' sb wg toa toc pg bn vn f := by
 have hpos := (formP_blocks hf).1
 have eb' := X.eb
 have ev' := X.ev
 have hmk := run_make_row' (P := Tryz.prog) 110 70 (.slice none 0 0) 24 Tryz.underlying110 infoBls rfl .i64 .i64 bn (by omega) (by omega)
 have HWY : Hid (∀ w', Af1 w (.cells #[.string s, .slice pa pn pc, .int .i64 r, .slice va vn vc, .slice ba bn bc] 38) w' -> Calls Tryz.prog 44 #[.agg #[.string s, .slice pa pn pc, .int .i64 r, .slice va vn vc, .slice ba bn bc]] w' fun e w'' => ∃ g c, e = .returned (.slice (some ⟨g, 0, none⟩) bn c) /\ w'.heap.size <= g /\ RW w w'' g c f /\ Below w'.heap.size w' w'') := fun w' h => by
  have := rWays2_any w w' (s := s) (pa := pa) (pn := pn) (pc := pc) (r := r) (va := va) (vn := vn) (vc := vc) X.eb X.hB h.low hbn hpos
  rw [<- X.eb] at this
  exact this
 have HPL : Hid (∀ w', Af1 w (.cells #[.string s, .slice pa pn pc, .int .i64 r, .slice va vn vc, .slice ba bn bc] 38) w' -> Calls Tryz.prog 46 #[.agg #[.string s, .slice pa pn pc, .int .i64 r, .slice va vn vc, .slice ba bn bc]] w' fun e w'' => ∃ g, e = .returned (.slice (some ⟨g, 0, none⟩) vn vn) /\ T3 w'' g vn (qlK f f.blks.length) (cntAll f) /\ Below w'.heap.size w' w'') := fun w' h => rPlaces_any w' (X.below h.low) hf hbn hbulk
 have HS : Hid (∀ w', Af1 w (.cells #[.string s, .slice pa pn pc, .int .i64 r, .slice va vn vc, .slice ba bn bc] 38) w' -> (fun w' : World => w'.cell? ⟨w.heap.size, 0, none⟩ = some (.string s) /\ w'.cell? ⟨w.heap.size, 1, none⟩ = some (.slice pa pn pc) /\ w'.cell? ⟨w.heap.size, 2, none⟩ = some (.int .i64 r) /\ w'.cell? ⟨w.heap.size, 3, none⟩ = some (.slice va vn vc) /\ w'.cell? ⟨w.heap.size, 4, none⟩ = some (.slice ba bn bc)) w') := fun w' h => ⟨cell_arr h.one rfl, cell_arr h.one rfl, cell_arr h.one rfl, cell_arr h.one rfl, cell_arr h.one rfl⟩
 have AX : Af1 w (.cells #[.string s, .slice pa pn pc, .int .i64 r, .slice va vn vc, .slice ba bn bc] 38) (w.alloc (.cells #[.string s, .slice pa pn pc, .int .i64 r, .slice va vn vc, .slice ba bn bc] 38)).drew := (Af1.refl w _).next (Below.refl _ _).drew
 have S0 := HS.out _ AX
 have HEB : Hid (bn = f.blks.length) := eb'
 have HEV : Hid (vn = f.vals.length) := ev'
 clear X hf hpos hbulk eb' ev'
 go_enter Tryz.func91, Tryz.ntmps91
 go_wp2_with fail
 refine led_start (S := fun w' : World => w'.cell? ⟨w.heap.size, 0, none⟩ = some (.string s) /\ w'.cell? ⟨w.heap.size, 1, none⟩ = some (.slice pa pn pc) /\ w'.cell? ⟨w.heap.size, 2, none⟩ = some (.int .i64 r) /\ w'.cell? ⟨w.heap.size, 3, none⟩ = some (.slice va vn vc) /\ w'.cell? ⟨w.heap.size, 4, none⟩ = some (.slice ba bn bc)) (z := 100) (by kernel_rfl) ?_
 obtain ⟨WX, hWX⟩ : ∃ u, u = (w.alloc (.cells #[.string s, .slice pa pn pc, .int .i64 r, .slice va vn vc, .slice ba bn bc] 38)).drew := ⟨_, rfl⟩
 rw [<- hWX] at AX S0 ⊢
 clear hWX
 refine led_nF 0 S0 ?_
 refine led_nF 2 S0 ?_
 refine led_nF 4 S0 ?_
 refine led_nF 5 S0 ?_
 refine led_nF 6 S0 ?_
 clear S0
 refine led_two (i := 1) (j := 7) rfl rfl (by kernel_rfl) ?_ ?_
 ·intro K1 hK1
  rw [if_pos (by rfl)]
  go_simp
  refine (HWY.out _ AX).mono ?_
  rintro e w1 ⟨gw, cw, rfl, hgw, hrw, hb1⟩
  replace AX := AX.next hb1
  clear hb1
  refine hK1 _ _ (fun _ => HS.out _ AX) ?_
  clear hK1
  try simp only [Act.put, zi, zz, zs]
  refine led_two (i := 3) (j := 7) rfl rfl (by kernel_rfl) ?_ ?_
  ·intro K2 hK2
   rw [if_pos (by rfl)]
   go_simp
   refine (HPL.out _ AX).mono ?_
   rintro e w2 ⟨pg, rfl, hpl, hb2⟩
   replace hrw := hrw.next hb2
   replace AX := AX.next hb2
   clear hb2
   refine hK2 _ _ (fun _ => HS.out _ AX) ?_
   clear hK2
   try simp only [Act.put, zi, zz, zs]
   refine led_one (i := 7) rfl (by kernel_rfl) ?_
   intro K3 hK3
   rw [if_pos (by rfl)]
   go_simp
   have hb3 := below_new w2 (.cells (madeCells #[.slice none 0 0] bn) 70)
   obtain ⟨wg, hwg⟩ : ∃ g, g = w2.heap.size := ⟨_, rfl⟩
   have hmw := heap_alloc_new w2 (.cells (madeCells #[.slice none 0 0] bn) 70)
   rw [<- hwg] at hmw ⊢
   have hup : w.heap.size <= wg := by have := AX.size; have : (w2).heap.size = wg := hwg.symm; omega
   have hne : gw ≠ wg := by have := hrw.lt; have : (w2).heap.size = wg := hwg.symm; omega
   replace hrw := hrw.next hb3
   replace hpl := hpl.keep hb3
   replace AX := AX.next hb3
   clear hwg hb3
   obtain ⟨w3, hw3⟩ : ∃ u, u = w2.alloc (.cells (madeCells #[.slice none 0 0] bn) 70) := ⟨_, rfl⟩
   rw [<- hw3] at AX hmw hrw hpl ⊢
   clear hw3
   refine hK3 _ _ (fun _ => HS.out _ AX) ?_
   clear hK3
   try simp only [Act.put, zi, zz, zs]
   have HAX : Hid _ := AX
   have HEND : Hid _ := see_end AX hrw hpl hmw hne hup HEB.out HEV.out
   have S9 := HS.out _ AX
   clear AX hrw hpl hmw
   refine led_nF 8 S9 ?_
   refine led_one (i := 9) rfl (by kernel_rfl) ?_
   intro K4 hK4
   rw [if_pos (by rfl)]
   go_simp
   refine hK4 _ _ (fun _ => HS.out _ (HAX.out.next (below_new _ _))) ?_
   clear hK4 S9
   try simp only [Act.put, zi, zz, zs]
   have S10 := HS.out _ (HAX.out.next (below_new w3 (.cells #[.slice (some ⟨gw, 0, none⟩) bn cw, .slice (some ⟨pg, 0, none⟩) vn vn, .slice (some ⟨wg, 0, none⟩) bn bn] 112)))
   refine led_nF 10 S10 ?_
   try simp only [Act.put, List.getElem_toArray, List.getElem_cons_succ, List.getElem_cons_zero, List.setIfInBounds_toArray, List.set_cons_zero, List.set_cons_succ]
   refine led_done (by kernel_rfl) ?_
   clear S10
   go_wp2_with fail
   go_ret
   exact ⟨w3.heap.size, wg, some ⟨gw, 0, none⟩, cw, pg, by first | rfl | kernel_rfl | simp, HEND.out⟩
  ·intro K5 hK5
   rw [if_pos (by rfl)]
   go_simp
   have hb5 := below_new w1 (.cells (madeCells #[.slice none 0 0] bn) 70)
   obtain ⟨wg, hwg⟩ : ∃ g, g = w1.heap.size := ⟨_, rfl⟩
   have hmw := heap_alloc_new w1 (.cells (madeCells #[.slice none 0 0] bn) 70)
   rw [<- hwg] at hmw ⊢
   have hup : w.heap.size <= wg := by have := AX.size; have : (w1).heap.size = wg := hwg.symm; omega
   have hne : gw ≠ wg := by have := hrw.lt; have : (w1).heap.size = wg := hwg.symm; omega
   replace hrw := hrw.next hb5
   replace AX := AX.next hb5
   clear hwg hb5
   obtain ⟨w5, hw5⟩ : ∃ u, u = w1.alloc (.cells (madeCells #[.slice none 0 0] bn) 70) := ⟨_, rfl⟩
   rw [<- hw5] at AX hmw hrw ⊢
   clear hw5
   refine hK5 _ _ (fun _ => HS.out _ AX) ?_
   clear hK5
   try simp only [Act.put, zi, zz, zs]
   refine led_one (i := 3) rfl (by kernel_rfl) ?_
   intro K6 hK6
   rw [if_pos (by rfl)]
   go_simp
   refine (HPL.out _ AX).mono ?_
   rintro e w6 ⟨pg, rfl, hpl, hb6⟩
   replace hrw := hrw.next hb6
   replace hmw := (hb6.block _ (gl hmw)).trans hmw
   replace AX := AX.next hb6
   clear hb6
   refine hK6 _ _ (fun _ => HS.out _ AX) ?_
   clear hK6
   try simp only [Act.put, zi, zz, zs]
   have HAX : Hid _ := AX
   have HEND : Hid _ := see_end AX hrw hpl hmw hne hup HEB.out HEV.out
   have S9 := HS.out _ AX
   clear AX hrw hpl hmw
   refine led_nF 8 S9 ?_
   refine led_one (i := 9) rfl (by kernel_rfl) ?_
   intro K7 hK7
   rw [if_pos (by rfl)]
   go_simp
   refine hK7 _ _ (fun _ => HS.out _ (HAX.out.next (below_new _ _))) ?_
   clear hK7 S9
   try simp only [Act.put, zi, zz, zs]
   have S10 := HS.out _ (HAX.out.next (below_new w6 (.cells #[.slice (some ⟨gw, 0, none⟩) bn cw, .slice (some ⟨pg, 0, none⟩) vn vn, .slice (some ⟨wg, 0, none⟩) bn bn] 112)))
   refine led_nF 10 S10 ?_
   try simp only [Act.put, List.getElem_toArray, List.getElem_cons_succ, List.getElem_cons_zero, List.setIfInBounds_toArray, List.set_cons_zero, List.set_cons_succ]
   refine led_done (by kernel_rfl) ?_
   clear S10
   go_wp2_with fail
   go_ret
   exact ⟨w6.heap.size, wg, some ⟨gw, 0, none⟩, cw, pg, by first | rfl | kernel_rfl | simp, HEND.out⟩
 ·intro K8 hK8
  rw [if_pos (by rfl)]
  go_simp
  have hb8 := below_new WX (.cells (madeCells #[.slice none 0 0] bn) 70)
  obtain ⟨wg, hwg⟩ : ∃ g, g = WX.heap.size := ⟨_, rfl⟩
  have hmw := heap_alloc_new WX (.cells (madeCells #[.slice none 0 0] bn) 70)
  rw [<- hwg] at hmw ⊢
  have hup : w.heap.size <= wg := by have := AX.size; have : (WX).heap.size = wg := hwg.symm; omega
  replace AX := AX.next hb8
  clear hwg hb8
  obtain ⟨w8, hw8⟩ : ∃ u, u = WX.alloc (.cells (madeCells #[.slice none 0 0] bn) 70) := ⟨_, rfl⟩
  rw [<- hw8] at AX hmw ⊢
  clear hw8
  refine hK8 _ _ (fun _ => HS.out _ AX) ?_
  clear hK8
  try simp only [Act.put, zi, zz, zs]
  refine led_one (i := 1) rfl (by kernel_rfl) ?_
  intro K9 hK9
  rw [if_pos (by rfl)]
  go_simp
  refine (HWY.out _ AX).mono ?_
  rintro e w9 ⟨gw, cw, rfl, hgw, hrw, hb9⟩
  have hne : gw ≠ wg := by have := (gl hmw); omega
  replace hmw := (hb9.block _ (gl hmw)).trans hmw
  replace AX := AX.next hb9
  clear hb9
  refine hK9 _ _ (fun _ => HS.out _ AX) ?_
  clear hK9
  try simp only [Act.put, zi, zz, zs]
  refine led_one (i := 3) rfl (by kernel_rfl) ?_
  intro K10 hK10
  rw [if_pos (by rfl)]
  go_simp
  refine (HPL.out _ AX).mono ?_
  rintro e w10 ⟨pg, rfl, hpl, hb10⟩
  replace hrw := hrw.next hb10
  replace hmw := (hb10.block _ (gl hmw)).trans hmw
  replace AX := AX.next hb10
  clear hb10
  refine hK10 _ _ (fun _ => HS.out _ AX) ?_
  clear hK10
  try simp only [Act.put, zi, zz, zs]
  have HAX : Hid _ := AX
  have HEND : Hid _ := see_end AX hrw hpl hmw hne hup HEB.out HEV.out
  have S9 := HS.out _ AX
  clear AX hrw hpl hmw
  refine led_nF 8 S9 ?_
  refine led_one (i := 9) rfl (by kernel_rfl) ?_
  intro K11 hK11
  rw [if_pos (by rfl)]
  go_simp
  refine hK11 _ _ (fun _ => HS.out _ (HAX.out.next (below_new _ _))) ?_
  clear hK11 S9
  try simp only [Act.put, zi, zz, zs]
  have S10 := HS.out _ (HAX.out.next (below_new w10 (.cells #[.slice (some ⟨gw, 0, none⟩) bn cw, .slice (some ⟨pg, 0, none⟩) vn vn, .slice (some ⟨wg, 0, none⟩) bn bn] 112)))
  refine led_nF 10 S10 ?_
  try simp only [Act.put, List.getElem_toArray, List.getElem_cons_succ, List.getElem_cons_zero, List.setIfInBounds_toArray, List.set_cons_zero, List.set_cons_succ]
  refine led_done (by kernel_rfl) ?_
  clear S10
  go_wp2_with fail
  go_ret
  exact ⟨w10.heap.size, wg, some ⟨gw, 0, none⟩, cw, pg, by first | rfl | kernel_rfl | simp, HEND.out⟩
end Go.Proofs.YtdbkjjelaipcfaaGreatDoor
