import Derived.Test.YtegoemeefmjnoaaGreatDoorJaz
set_option linter.unusedVariables false
set_option linter.unusedSimpArgs false
namespace Go.Proofs.YtegoemeefmjnoaaGreatDoor
open Go.ChangeShapes Go.WideShapes Go.ChangeAt Go.RowKit Go.Maps
theorem two_waysB {A G : Nat -> Nat -> World -> Prop} {p : Prop} (h : (∀ P R X, A P R X -> G P R X) -> p) (g : ∀ P R X, A P R X -> G P R X) : p := h g
set_option maxRecDepth 100000 in
set_option maxHeartbeats 8000000 in
theorem numbered_any (w : World) {fa : Option Addr} {fn fc : Nat} {FS : List Af} (hF : Afs w fa fc FS) (hfn : fn = FS.length) (hlen : fn <= 100000000) (m : Int) (hsl : ∀ f ∈ FS, 0 <= f.slots /\ f.slots <= 262144) (hfew : ∀ f ∈ FS, f.params.length <= 100000000 /\ f.blks.length <= 100000000 /\ ∀ b ∈ f.blks, b.body.length <= 100000000 /\ ∀ x ∈ b.body, x.args.length <= 100000000) :
 Calls Tryz.prog 49 #[.agg #[.slice fa fn fc, .int .i64 m]] w fun e w' => ∃ ao c, e = .returned (.agg #[.slice ao fn c, .int .i64 m]) /\ Lfs w' ao c (FS.map nuF) /\ Below w.heap.size w w' := by
 have HF : Hid (Afs w fa fc FS) := hF
 have HN : Hid (fn = FS.length) := hfn
 have HSL : Hid (∀ f ∈ FS, 0 <= f.slots /\ f.slots <= 262144) := hsl
 have HFW : Hid (∀ f ∈ FS, f.params.length <= 100000000 /\ f.blks.length <= 100000000 /\ ∀ b ∈ f.blks, b.body.length <= 100000000 /\ ∀ x ∈ b.body, x.args.length <= 100000000) := hfew
 obtain ⟨W0, hW0⟩ : ∃ W, W = ((w.alloc (.cells #[.slice fa fn fc, .int .i64 m] 44)).alloc (.cells #[.slice none 0 0, .int .i64 0] 110)).alloc (.cells #[.slice none 0 0, .int .i64 m] 110) := ⟨_, rfl⟩
 obtain ⟨rb, hrb⟩ : ∃ r, r = w.heap.size + 1 := ⟨_, rfl⟩
 obtain ⟨lb, hlb⟩ : ∃ r, r = w.heap.size + 1 + 1 := ⟨_, rfl⟩
 have H0 : Hid (NfS FS m w rb lb (.slice none 0 0) 0 W0) := by
  have z1 := heap_alloc_new (w.alloc (.cells #[.slice fa fn fc, .int .i64 m] 44)) (.cells #[.slice none 0 0, .int .i64 0] 110)
  have z2 := heap_alloc_new ((w.alloc (.cells #[.slice fa fn fc, .int .i64 m] 44)).alloc (.cells #[.slice none 0 0, .int .i64 0] 110)) (.cells #[.slice none 0 0, .int .i64 m] 110)
  refine ⟨?_, ?_, ?_, by simpa using RowE.nil, by omega, by omega⟩
  ·rw [hW0]; exact ((below_newA w _).alloc (by simp) _).alloc (by simp; omega) _
  ·rw [hW0, hrb, heap_alloc_old _ _ (by simp)]; simpa using z1
  ·rw [hW0, hlb]; simpa using z2
 clear hF hfn hsl hfew
 go_enter Tryz.func49, Tryz.ntmps49
 go_wp2_with fail
 rw [<- hW0]
 rw [<- hlb, <- hrb]
 have HRB : Hid (w.heap.size <= rb) := by rw [hrb]; exact Nat.le_succ _
 clear hW0 hrb hlb
 go_loopw [15] (fun v wr => ∃ k : Nat, k <= fn /\ v = .int .i64 (k : Int) /\ ∃ u, Hid (NfS FS m w rb lb u k wr)) (fun v _ => fn - (intOf v).toNat)
 case atStart => exact ⟨0, by omega, rfl, _, H0⟩
 case round =>
  clear H0
  obtain ⟨k, hkn, rfl, u, HO⟩ := hrel
  obtain ⟨wq, rfl⟩ : ∃ wq, wq = wr := ⟨_, rfl⟩
  by_cases hlt : k < fn
  ·have hki : (k : Int) < (fn : Int) := by omega
   have hkF : k < FS.length := by rw [<- HN.out]; exact hlt
   obtain ⟨fb, fo, x1, y1, x2, y2, ea, hbw, g0, g1, g2, g3, g4, hLo0, hBl⟩ := afs_at HF.out hkF
   subst ea
   have cc := fun (q : Addr) (hq : q.block < w.heap.size) => HO.out.low.cell (p := q) hq
   have i0 := (cc ⟨fb, fo + k * 5, none⟩ hbw).trans g0
   have i1 := (cc ⟨fb, fo + k * 5 + 1, none⟩ hbw).trans g1
   have i2 := (cc ⟨fb, fo + k * 5 + 2, none⟩ hbw).trans g2
   have i3 := (cc ⟨fb, fo + k * 5 + 3, none⟩ hbw).trans g3
   have i4 := (cc ⟨fb, fo + k * 5 + 4, none⟩ hbw).trans g4
   have hLo := hLo0.below HO.out.low (Nat.le_refl _)
   have hbl : fb < wq.heap.size := Nat.lt_of_lt_of_le hbw HO.out.low.size
   clear cc g0 g1 g2 g3 g4 hLo0 hbw
   have hfs := HSL.out _ (List.getElem_mem hkF)
   have hfw := HFW.out _ (List.getElem_mem hkF)
   obtain ⟨f, hf⟩ : ∃ f, f = FS[k] := ⟨_, rfl⟩
   rw [<- hf] at i0 i1 i2 i3 i4 hLo hBl hfs hfw
   obtain ⟨fnm, enm⟩ : ∃ n, n = f.name := ⟨_, rfl⟩
   obtain ⟨frs, ers⟩ : ∃ n, n = f.result := ⟨_, rfl⟩
   obtain ⟨fsl, esl⟩ : ∃ n, n = f.slots := ⟨_, rfl⟩
   obtain ⟨np, enp⟩ : ∃ n, n = f.params.length := ⟨_, rfl⟩
   obtain ⟨nb, enb⟩ : ∃ n, n = f.blks.length := ⟨_, rfl⟩
   rw [<- enm] at i0
   rw [<- enp] at i1
   rw [<- ers] at i2
   rw [<- esl] at i3
   rw [<- enb] at i4
   have hsl : 0 <= fsl /\ fsl <= 262144 := by rw [esl]; exact hfs
   have hwr : IntKind.i64.wrap (8 + fsl) = 8 + fsl := by rw [IntKind.wrap_i64]; omega
   obtain ⟨PN, ePN⟩ : ∃ n, n = f.params.map (numP f.slots) := ⟨_, rfl⟩
   obtain ⟨W1, hW1⟩ : ∃ W1, W1 = wq.alloc (.cells #[.string fnm, .slice x1 np y1, .int .i64 frs, .int .i64 fsl, .slice x2 nb y2] 37) := ⟨_, rfl⟩
   obtain ⟨ab, hab⟩ : ∃ ab, ab = wq.heap.size := ⟨_, rfl⟩
   have b1 : Below wq.heap.size wq W1 := by rw [hW1]; exact below_newA wq _
   have hx1 : W1.heap[ab]? = some (.cells #[.string fnm, .slice x1 np y1, .int .i64 frs, .int .i64 fsl, .slice x2 nb y2] 37 (0, 0)) := by rw [hW1, hab]; exact heap_alloc_new wq _
   have HS5 : Hid (∀ W, Below W1.heap.size W1 W -> (fun w' : World => w'.cell? ⟨ab, 0, none⟩ = some (.string fnm) /\ w'.cell? ⟨ab, 1, none⟩ = some (.slice x1 np y1) /\ w'.cell? ⟨ab, 2, none⟩ = some (.int .i64 frs) /\ w'.cell? ⟨ab, 3, none⟩ = some (.int .i64 fsl) /\ ab < w'.heap.size) W) := fun W hW => by
    have q6 := (hW.block ab (gl hx1)).trans hx1
    exact ⟨cell_arr q6 rfl, cell_arr q6 rfl, cell_arr q6 rfl, cell_arr q6 rfl, (gl q6)⟩
   have HNQ : Hid (∀ wA, Below W1.heap.size W1 wA -> Calls Tryz.prog 64 #[.slice x1 np y1, .int .i64 fsl] wA fun e w' => ∃ g, e = .returned (.slice (some ⟨g, 0, none⟩) np np) /\ Num w' g PN /\ Below wA.heap.size wA w') := fun wA bA => by
    rw [ePN, <- esl]
    refine (numbers_any wA (hLo.below (b1.trans (bA.mono b1.size)) (Nat.le_refl _)) enp (by rw [enp]; exact hfw.1) fsl (by omega)).mono ?_
    rintro e w' ⟨rfl, q1, q2⟩
    exact ⟨_, rfl, q1, q2⟩
   have HNP : Hid (∀ wA, Below W1.heap.size W1 wA -> Calls Tryz.prog 64 #[.slice x1 np y1, .int .i64 fsl] wA fun e w' => ∃ g, e = .returned (.slice (some ⟨g, 0, none⟩) np np) /\ Num w' g PN /\ Below W1.heap.size W1 w') := fun wA bA => by
    refine (HNQ.out wA bA).mono ?_
    rintro e w' ⟨g, rfl, q1, q2⟩
    exact ⟨g, rfl, q1, bA.trans (q2.mono bA.size)⟩
   have HST : Hid (∀ cb ng X X2, X.heap[cb]? = some (.cells #[.string ⟨#[]⟩, .slice none 0 0, .int .i64 0, .int .i64 0, .slice none 0 0] 125 (0, 0)) -> Below W1.heap.size W1 X -> W1.heap.size <= cb -> Num X ng PN -> X2 = X.setRow cb #[.string fnm, .slice (some ⟨ng, 0, none⟩) np np, .int .i64 (8 + fsl), .int .i64 frs, .slice none 0 0] -> Hid (NgS w.heap.size f wq ab cb ng #[.string fnm, .slice x1 np y1, .int .i64 frs, .int .i64 fsl, .slice x2 nb y2] (.slice none 0 0) 0 X2)) := fun cb ng X X2 hz hbX hcbl hng hX2 => by
    have bX2 : Below W1.heap.size W1 X2 := by rw [hX2]; exact below_setRowA hbX hcbl _
    have hne : ng ≠ cb := by
     rintro rfl
     unfold Num at hng
     rw [hz] at hng
     simp at hng
    refine ⟨b1.trans (bX2.mono b1.size), (bX2.block ab (gl hx1)).trans hx1, ?_, ?_, by simpa using RowE.nil, Nat.le_trans b1.size hcbl⟩
    ·rw [hX2, <- enm, <- enp, <- esl, <- ers]
     exact setRow_heap X cb _ _ _ _ hz
    ·rw [<- ePN]
     unfold Num at hng ⊢
     rw [hX2, heap_setRow_otherA hne]
     exact hng
   have Sy : (fun w' : World => w'.cell? ⟨ab, 0, none⟩ = some (.string fnm) /\ w'.cell? ⟨ab, 1, none⟩ = some (.slice x1 np y1) /\ w'.cell? ⟨ab, 2, none⟩ = some (.int .i64 frs) /\ w'.cell? ⟨ab, 3, none⟩ = some (.int .i64 fsl) /\ ab < w'.heap.size) W1.drew := HS5.out W1.drew (Below.refl _ _).drew
   have HFK : Hid (∃ h : k < FS.length, f = FS[k]) := ⟨hkF, hf⟩
   have HBL : Hid (Lst EnB 5 w x2 y2 f.blks) := hBl
   have HFF : Hid (fnm = f.name /\ frs = f.result /\ fsl = f.slots /\ np = f.params.length /\ nb = f.blks.length) := ⟨enm, ers, esl, enp, enb⟩
   have HFX : Hid _ := hfw
   have hnbm : nb <= 100000000 := by rw [enb]; exact hfw.2.1
   clear hf hBl enm ers esl enp enb hfs hfw hLo ePN b1 hx1 hkF
   go_upto_region 5 with fail
   rw [<- hW1, <- hab]
   clear hW1 hab i0 i1 i2 i3 i4
   refine lec_start (S := fun w' : World => w'.cell? ⟨ab, 0, none⟩ = some (.string fnm) /\ w'.cell? ⟨ab, 1, none⟩ = some (.slice x1 np y1) /\ w'.cell? ⟨ab, 2, none⟩ = some (.int .i64 frs) /\ w'.cell? ⟨ab, 3, none⟩ = some (.int .i64 fsl) /\ ab < w'.heap.size) (z := 14) (by kernel_rfl) ?_
   show lec _ _ _ _ _ 15 _ _ _
   try simp only [List.size_toArray, List.length_cons, List.length_nil, Array.replicate]
   refine lec_takeP (i := 0) (v := ?v0y) rfl (by kernel_rfl) (by kernel_rfl) (by kernel_rfl) (by kernel_rfl) (fun _ _ _ h => h) (.inl ⟨by rfl, ?hy0y⟩) Sy ?rest0y
   case hy0y =>
    rintro w' _
    go_simp
    all_goals with_reducible rfl
   try simp only [Act.put, List.getElem_toArray, List.getElem_cons_succ, List.getElem_cons_zero, List.setIfInBounds_toArray, List.set_cons_zero, List.set_cons_succ]
   refine lec_takeT [12, 14] (i := 1) (v := ?v1y) rfl (by kernel_rfl) (by kernel_rfl) (by kernel_rfl) (by kernel_rfl) (fun _ _ _ h => h) (.inl ⟨by rfl, ?hy1y⟩) Sy ?rest1y
   case hy1y =>
    rintro w' ⟨h1, h2, h3, h4, h5⟩
    go_simp
    all_goals with_reducible rfl
   try simp only [Act.put, List.getElem_toArray, List.getElem_cons_succ, List.getElem_cons_zero, List.setIfInBounds_toArray, List.set_cons_zero, List.set_cons_succ]
   refine lec_takeP (i := 2) (v := ?v2y) rfl (by kernel_rfl) (by kernel_rfl) (by kernel_rfl) (by kernel_rfl) (fun _ _ _ h => h) (.inl ⟨by rfl, ?hy2y⟩) Sy ?rest2y
   case hy2y =>
    rintro w' _
    go_simp
    all_goals with_reducible rfl
   try simp only [Act.put, List.getElem_toArray, List.getElem_cons_succ, List.getElem_cons_zero, List.setIfInBounds_toArray, List.set_cons_zero, List.set_cons_succ]
   refine lec_takeT [6, 12, 14] (i := 3) (v := ?v3y) rfl (by kernel_rfl) (by kernel_rfl) (by kernel_rfl) (by kernel_rfl) (fun _ _ _ h => h) (.inl ⟨by rfl, ?hy3y⟩) Sy ?rest3y
   case hy3y =>
    rintro w' ⟨h1, h2, h3, h4, h5⟩
    go_simp
    all_goals with_reducible rfl
   try simp only [Act.put, List.getElem_toArray, List.getElem_cons_succ, List.getElem_cons_zero, List.setIfInBounds_toArray, List.set_cons_zero, List.set_cons_succ]
   refine lec_takeP (i := 4) (v := ?v4y) rfl (by kernel_rfl) (by kernel_rfl) (by kernel_rfl) (by kernel_rfl) (fun _ _ _ h => h) (.inl ⟨by rfl, ?hy4y⟩) Sy ?rest4y
   case hy4y =>
    rintro w' _
    go_simp
    all_goals with_reducible rfl
   try simp only [Act.put, List.getElem_toArray, List.getElem_cons_succ, List.getElem_cons_zero, List.setIfInBounds_toArray, List.set_cons_zero, List.set_cons_succ]
   refine lec_takeT [6, 12, 14] (i := 5) (v := ?v5y) rfl (by kernel_rfl) (by kernel_rfl) (by kernel_rfl) (by kernel_rfl) (fun _ _ _ h => h) (.inl ⟨by rfl, ?hy5y⟩) Sy ?rest5y
   case hy5y =>
    rintro w' ⟨h1, h2, h3, h4, h5⟩
    go_simp
    all_goals with_reducible rfl
   try simp only [Act.put, List.getElem_toArray, List.getElem_cons_succ, List.getElem_cons_zero, List.setIfInBounds_toArray, List.set_cons_zero, List.set_cons_succ]
   refine lec_takeP (i := 7) (v := ?v7y) rfl (by kernel_rfl) (by kernel_rfl) (by kernel_rfl) (by kernel_rfl) (fun _ _ _ h => h) (.inl ⟨by rfl, ?hy7y⟩) Sy ?rest7y
   case hy7y =>
    rintro w' _
    go_simp
    all_goals with_reducible rfl
   try simp only [Act.put, List.getElem_toArray, List.getElem_cons_succ, List.getElem_cons_zero, List.setIfInBounds_toArray, List.set_cons_zero, List.set_cons_succ]
   refine lec_takeT [9, 12, 14] (i := 8) (v := ?v8y) rfl (by kernel_rfl) (by kernel_rfl) (by kernel_rfl) (by kernel_rfl) (fun _ _ _ h => h) (.inl ⟨by rfl, ?hy8y⟩) Sy ?rest8y
   case hy8y =>
    rintro w' ⟨h1, h2, h3, h4, h5⟩
    go_simp
    all_goals with_reducible rfl
   try simp only [Act.put, List.getElem_toArray, List.getElem_cons_succ, List.getElem_cons_zero, List.setIfInBounds_toArray, List.set_cons_zero, List.set_cons_succ]
   refine lec_takeP (i := 9) (v := ?v9y) rfl (by kernel_rfl) (by kernel_rfl) (by kernel_rfl) (by kernel_rfl) (fun _ _ _ h => h) (.inl ⟨by rfl, ?hy9y⟩) Sy ?rest9y
   case hy9y =>
    rintro w' _
    go_simp
    all_goals with_reducible rfl
   try simp only [Act.put, List.getElem_toArray, List.getElem_cons_succ, List.getElem_cons_zero, List.setIfInBounds_toArray, List.set_cons_zero, List.set_cons_succ]
   refine lec_takeP (i := 10) (v := ?v10y) rfl (by kernel_rfl) (by kernel_rfl) (by kernel_rfl) (by kernel_rfl) (fun _ _ _ h => h) (.inl ⟨by rfl, ?hy10y⟩) Sy ?rest10y
   case hy10y =>
    rintro w' _
    go_simp
    all_goals with_reducible rfl
   try simp only [Act.put, List.getElem_toArray, List.getElem_cons_succ, List.getElem_cons_zero, List.setIfInBounds_toArray, List.set_cons_zero, List.set_cons_succ]
   refine lec_takeT [12, 14] (i := 11) (v := ?v11y) rfl (by kernel_rfl) (by kernel_rfl) (by kernel_rfl) (by kernel_rfl) (fun _ _ _ h => h) (.inl ⟨by rfl, ?hy11y⟩) Sy ?rest11y
   case hy11y =>
    rintro w' ⟨h1, h2, h3, h4, h5⟩
    go_simp
    all_goals with_reducible rfl
   try simp only [Act.put, List.getElem_toArray, List.getElem_cons_succ, List.getElem_cons_zero, List.setIfInBounds_toArray, List.set_cons_zero, List.set_cons_succ]
   apply two_waysB (A := fun cb ng X => X.heap[cb]? = some (.cells #[.string ⟨#[]⟩, .slice none 0 0, .int .i64 0, .int .i64 0, .slice none 0 0] 125 (0, 0)) /\ Below W1.heap.size W1 X /\ W1.heap.size <= cb /\ Num X ng PN)
   case h =>
    intro key
    refine lec_two (i := 6) (j := 13) rfl rfl (by kernel_rfl) ?_ ?_
    ·intro K9 hK9
     rw [if_pos (by rfl)]
     go_simp
     refine Calls.mono (HNP.out W1.drew (Below.refl _ _).drew) ?_
     rintro e w5 ⟨ng, rfl, hng, b5⟩
     have HB5 : Hid _ := b5
     have HNG : Hid _ := hng
     have Sq := HS5.out w5 b5
     clear b5 hng
     go_simp
     refine hK9 _ _ (fun _ => Sq) ?_
     clear hK9
     try simp only [Act.put, List.getElem_toArray, List.getElem_cons_succ, List.getElem_cons_zero, List.setIfInBounds_toArray, List.set_cons_zero, List.set_cons_succ]
     refine lec_takeP (i := 12) (v := ?v12a) rfl (by kernel_rfl) (by kernel_rfl) (by kernel_rfl) (by kernel_rfl) (fun _ _ _ h => h) (.inl ⟨by rfl, ?hy12a⟩) Sq ?rest12a
     case hy12a =>
      rintro w' _
      go_simp
      all_goals with_reducible rfl
     try simp only [Act.put, List.getElem_toArray, List.getElem_cons_succ, List.getElem_cons_zero, List.setIfInBounds_toArray, List.set_cons_zero, List.set_cons_succ]
     clear Sq
     refine lec_one (i := 13) rfl (by kernel_rfl) ?_
     intro K10 hK10
     rw [if_pos (by rfl)]
     go_simp
     obtain ⟨X, hX⟩ : ∃ X, X = w5.alloc (.cells #[.string ⟨#[]⟩, .slice none 0 0, .int .i64 0, .int .i64 0, .slice none 0 0] 125) := ⟨_, rfl⟩
     obtain ⟨cb, hcb⟩ : ∃ cb, cb = w5.heap.size := ⟨_, rfl⟩
     have HA : Hid (X.heap[cb]? = some (.cells #[.string ⟨#[]⟩, .slice none 0 0, .int .i64 0, .int .i64 0, .slice none 0 0] 125 (0, 0)) /\ Below W1.heap.size W1 X /\ W1.heap.size <= cb /\ Num X ng PN) := by
      rw [hX, hcb]
      exact ⟨heap_alloc_new _ _, HB5.out.alloc HB5.out.size _, HB5.out.size, Num.below HNG.out (below_newA w5 _)⟩
     have Sr := HS5.out X HA.out.2.1
     rw [<- hX]
     refine hK10 _ _ (fun _ => Sr) ?_
     rw [<- hcb]
     clear hK10 hX hcb
     try simp only [Act.put, List.getElem_toArray, List.getElem_cons_succ, List.getElem_cons_zero, List.setIfInBounds_toArray, List.set_cons_zero, List.set_cons_succ]
     refine lec_l (l' := #[true, true, true, true, true, true, true, true, true, true, true, true, true, true, false]) (by kernel_rfl) ?_
     exact key cb ng X HA.out
    ·intro K10 hK10
     rw [if_pos (by rfl)]
     go_simp
     obtain ⟨X1, hX1⟩ : ∃ X1, X1 = (W1.alloc (.cells #[.string ⟨#[]⟩, .slice none 0 0, .int .i64 0, .int .i64 0, .slice none 0 0] 125)).drew := ⟨_, rfl⟩
     have HB1 : Hid (Below W1.heap.size W1 X1) := by rw [hX1]; exact (below_newA W1 _).drew
     have HZ1 : Hid (X1.heap[W1.heap.size]? = some (.cells #[.string ⟨#[]⟩, .slice none 0 0, .int .i64 0, .int .i64 0, .slice none 0 0] 125 (0, 0)) /\ W1.heap.size < X1.heap.size) := by rw [hX1]; exact ⟨heap_alloc_new W1 _, by show W1.heap.size < (W1.alloc _).heap.size; simp⟩
     rw [<- hX1]
     have Sx := HS5.out X1 HB1.out
     refine hK10 _ _ (fun _ => Sx) ?_
     obtain ⟨cb, hcb⟩ : ∃ cb, cb = W1.heap.size := ⟨_, rfl⟩
     rw [<- hcb]
     have HCB : Hid (cb = W1.heap.size) := hcb
     clear hK10 hX1 hcb
     try simp only [Act.put, List.getElem_toArray, List.getElem_cons_succ, List.getElem_cons_zero, List.setIfInBounds_toArray, List.set_cons_zero, List.set_cons_succ]
     refine lec_one (i := 6) rfl (by kernel_rfl) ?_
     intro K9 hK9
     rw [if_pos (by rfl)]
     go_simp
     refine Calls.mono (HNQ.out X1 HB1.out) ?_
     rintro e w5 ⟨ng, rfl, hng, b5⟩
     have HA : Hid (w5.heap[cb]? = some (.cells #[.string ⟨#[]⟩, .slice none 0 0, .int .i64 0, .int .i64 0, .slice none 0 0] 125 (0, 0)) /\ Below W1.heap.size W1 w5 /\ W1.heap.size <= cb /\ Num w5 ng PN) := by
      rw [HCB.out]
      exact ⟨(b5.block _ HZ1.out.2).trans HZ1.out.1, HB1.out.trans (b5.mono HB1.out.size), Nat.le_refl _, hng⟩
     have Sq := HS5.out w5 HA.out.2.1
     clear b5 hng
     go_simp
     refine hK9 _ _ (fun _ => Sq) ?_
     clear hK9
     try simp only [Act.put, List.getElem_toArray, List.getElem_cons_succ, List.getElem_cons_zero, List.setIfInBounds_toArray, List.set_cons_zero, List.set_cons_succ]
     refine lec_one (i := 12) rfl (by kernel_rfl) ?_
     intro K12 hK12
     rw [if_pos (by rfl)]
     go_simp
     refine hK12 _ _ (fun _ => Sq) ?_
     clear hK12
     try simp only [Act.put, List.getElem_toArray, List.getElem_cons_succ, List.getElem_cons_zero, List.setIfInBounds_toArray, List.set_cons_zero, List.set_cons_succ]
     refine lec_l (l' := #[true, true, true, true, true, true, true, true, true, true, true, true, true, true, false]) (by kernel_rfl) ?_
     exact key cb ng w5 HA.out
   case g =>
   intro cb ng X hAX
   obtain ⟨hz, hbX, hcbl, hngX⟩ := hAX
   refine lec_one (i := 14) rfl (by kernel_rfl) ?_
   intro K11 hK11
   rw [if_pos (by rfl)]
   refine wp_store_row _ _ _ rfl cb #[.string fnm, .slice (some ⟨ng, 0, none⟩) np np, .int .i64 (8 + fsl), .int .i64 frs, .slice none 0 0] rfl rfl 125 _ hz (by kernel_rfl) rfl (by kernel_rfl) ?_
   obtain ⟨X2, hX2⟩ : ∃ X2, X2 = X.setRow cb #[.string fnm, .slice (some ⟨ng, 0, none⟩) np np, .int .i64 (8 + fsl), .int .i64 frs, .slice none 0 0] := ⟨_, rfl⟩
   rw [<- hX2]
   refine hK11 _ _ (fun h => by cases h) ?_
   have HCL := HST.out cb ng X X2 hz hbX hcbl hngX hX2
   clear hK11 hz hbX hX2 hngX
   refine lec_done (by kernel_rfl) ?_
   clear HNQ HNP HS5 HST Sy
   have a4 : X2.cell? ⟨ab, 4, none⟩ = some (.slice x2 nb y2) := cell_arr HCL.out.abx rfl
   have lab : ab < X2.heap.size := (gl HCL.out.abx)
   go_wp2_with fail
   go_loopw [35] (fun v wr => ∃ j : Nat, j <= nb /\ v = .int .i64 (j : Int) /\ ∃ u, Hid (NgS w.heap.size f wq ab cb ng #[.string fnm, .slice x1 np y1, .int .i64 frs, .int .i64 fsl, .slice x2 nb y2] u j wr)) (fun v _ => nb - (intOf v).toNat)
   case atStart => exact ⟨0, by omega, rfl, _, HCL⟩
   case round =>
    clear HCL a4 lab
    obtain ⟨j, hjn, rfl, u2, HG⟩ := hrel
    obtain ⟨wp, rfl⟩ : ∃ wp, wp = wr := ⟨_, rfl⟩
    have hwq : w.heap.size <= wq.heap.size := HO.out.low.size
    by_cases hjt : j < nb
    ·have hji : (j : Int) < (nb : Int) := by omega
     have hjB : j < f.blks.length := by rw [<- HFF.out.2.2.2.2]; exact hjt
     obtain ⟨b2, o2, d1, e1, d2, e2, ea2, hb2, g0, g1, g2, g3, g4, hBo, hWa⟩ := abs_at HBL.out hjB
     subst ea2
     have bwp : Below w.heap.size w wp := HO.out.low.trans (HG.out.low.mono hwq)
     have cc := fun (q : Addr) (hq : q.block < w.heap.size) => bwp.cell (p := q) hq
     have j0 := (cc ⟨b2, o2 + j * 5, none⟩ hb2).trans g0
     have j1 := (cc ⟨b2, o2 + j * 5 + 1, none⟩ hb2).trans g1
     have j2 := (cc ⟨b2, o2 + j * 5 + 2, none⟩ hb2).trans g2
     have j3 := (cc ⟨b2, o2 + j * 5 + 3, none⟩ hb2).trans g3
     have j4 := (cc ⟨b2, o2 + j * 5 + 4, none⟩ hb2).trans g4
     have hbl2 : b2 < wp.heap.size := Nat.lt_of_lt_of_le hb2 bwp.size
     obtain ⟨xs, hxr, hxl, hxe⟩ := HG.out.row.out
     obtain ⟨va, vc, ev, hvl, hvm⟩ := own_slice hxr.out
     have hxk : xs.length = j := by rw [hxl]; simp; omega
     rw [hxk] at ev
     obtain ⟨vn, hvn⟩ : ∃ n, n = j := ⟨_, rfl⟩
     rw [<- hvn] at ev
     subst ev
     have hlx : xs.length + 1 <= 1000000000 := by omega
     have hHG := HG.out
     have HPU0 : Hid (∀ wB WB w7 v7 cs, Below wp.heap.size wp wB -> LbE w.heap.size wB cs (nuB f.slots f.blks[j]) -> Below wB.heap.size wB WB -> Row w7 wq.heap.size 134 4 v7 (xs ++ [cs]) -> GI wq.heap.size WB w7 (.slice va vn vc) v7 -> w7.cell? ⟨cb, 4, none⟩ = some (.slice va vn vc) /\ w7.frozen? ⟨cb, 4, none⟩ = false /\ cb < w7.heap.size /\ Hid (NgS w.heap.size f wq ab cb ng #[.string fnm, .slice x1 np y1, .int .i64 frs, .int .i64 fsl, .slice (some ⟨b2, o2, none⟩) nb y2] v7 (j + 1) (w7.setCell ⟨cb, 4, none⟩ v7))) := fun wB WB w7 v7 cs bB hg bW hr hG => hHG.next hwq hjB hxk hxe bB hg bW (hxr.keep (bB.trans (bW.mono bB.size))) hr hG
     have HRW : Hid (∀ W, Below wp.heap.size wp W -> Hid (Row W wq.heap.size 134 4 (.slice va vn vc) xs /\ wq.heap.size <= W.heap.size)) := fun W hW => ⟨hxr.keep hW, Nat.le_trans hHG.low.size hW.size⟩
     have hfx := HFX.out.2.2 _ (List.getElem_mem hjB)
     obtain ⟨Y, hY⟩ : ∃ Y, Y = f.blks[j] := ⟨_, rfl⟩
     rw [<- hY] at j0 j1 j2 j3 j4 hBo hWa hfx HPU0
     obtain ⟨nbd, enbd⟩ : ∃ n, n = Y.body.length := ⟨_, rfl⟩
     obtain ⟨kd, ekd⟩ : ∃ n, n = Y.kind := ⟨_, rfl⟩
     obtain ⟨v1, ev1⟩ : ∃ n, n = Y.val.1 := ⟨_, rfl⟩
     obtain ⟨v2, ev2⟩ : ∃ n, n = Y.val.2 := ⟨_, rfl⟩
     obtain ⟨nw, enw⟩ : ∃ n, n = Y.ways.length := ⟨_, rfl⟩
     rw [<- enbd] at j0
     rw [<- ekd] at j1
     rw [<- ev1] at j2
     rw [<- ev2] at j3
     rw [<- enw] at j4
     obtain ⟨W2, hW2⟩ : ∃ W2, W2 = wp.alloc (.cells #[.slice d1 nbd e1, .int .i64 kd, .int .i64 v1, .int .i64 v2, .slice d2 nw e2] 34) := ⟨_, rfl⟩
     obtain ⟨bb, hbb⟩ : ∃ bb, bb = wp.heap.size := ⟨_, rfl⟩
     have b2' : Below wp.heap.size wp W2 := by rw [hW2]; exact below_newA wp _
     have hx2 : W2.heap[bb]? = some (.cells #[.slice d1 nbd e1, .int .i64 kd, .int .i64 v1, .int .i64 v2, .slice d2 nw e2] 34 (0, 0)) := by rw [hW2, hbb]; exact heap_alloc_new wp _
     have HB9 : Hid (∀ W, Below W2.heap.size W2 W -> Below wp.heap.size wp W) := fun W hW => b2'.trans (hW.mono b2'.size)
     have HS9 : Hid (∀ W, Below W2.heap.size W2 W -> (fun w' : World => w'.cell? ⟨cb, 4, none⟩ = some (.slice va vn vc) /\ w'.cell? ⟨bb, 0, none⟩ = some (.slice d1 nbd e1) /\ w'.cell? ⟨bb, 1, none⟩ = some (.int .i64 kd) /\ w'.cell? ⟨bb, 2, none⟩ = some (.int .i64 v1) /\ w'.cell? ⟨bb, 3, none⟩ = some (.int .i64 v2) /\ w'.cell? ⟨bb, 4, none⟩ = some (.slice d2 nw e2) /\ w'.cell? ⟨ab, 3, none⟩ = some (.int .i64 fsl) /\ bb < w'.heap.size /\ cb < w'.heap.size /\ ab < w'.heap.size) W) := fun W hW => by
      have q5 := (hHG.below hwq (HB9.out W hW)).fbx
      have q4 := (hHG.below hwq (HB9.out W hW)).abx
      have q6 := (hW.block bb (gl hx2)).trans hx2
      exact ⟨cell_arr q5 rfl, cell_arr q6 rfl, cell_arr q6 rfl, cell_arr q6 rfl, cell_arr q6 rfl, cell_arr q6 rfl, cell_arr q4 rfl, (gl q6), (gl q5), (gl q4)⟩
     have HNK : Hid (Calls Tryz.prog 65 #[.agg #[.slice d1 nbd e1, .int .i64 kd, .int .i64 v1, .int .i64 v2, .slice d2 nw e2], .int .i64 fsl] W2.drew fun e w' => ∃ ba9 bn9 bc9 bk9 bv9 bw9 bm9 bx9, e = .returned (.agg #[.slice ba9 bn9 bc9, .int .i64 bk9, .int .i64 bv9, .slice bw9 bm9 bx9]) /\ LbE w.heap.size w' [.slice ba9 bn9 bc9, .int .i64 bk9, .int .i64 bv9, .slice bw9 bm9 bx9] (nuB f.slots Y) /\ Below W2.heap.size W2 w') := by
      have bd : Below w.heap.size w W2.drew := bwp.trans ((b2'.drew).mono bwp.size)
      have := numberedBlock_any W2.drew w.heap.size bd.size Y (hBo.below bd (Nat.le_refl _) (enI_below bd (Nat.le_refl _))) (OldI.of hWa bd) hfx.1 hfx.2 f.slots (by have := HFF.out.2.2.1; omega)
      rw [<- enbd, <- ekd, <- ev1, <- ev2, <- enw, <- HFF.out.2.2.1] at this
      refine this.mono ?_
      rintro e w' ⟨cs, rfl, hc, q⟩
      rw [HFF.out.2.2.1] at hc
      have hc0 := hc
      obtain ⟨v, a2, c2, e, h1, h2⟩ := hc
      obtain ⟨ao, c, ev, -, -⟩ := h1.sl
      subst ev e
      exact ⟨_, _, _, _, _, _, _, _, rfl, hc0, (Below.refl _ _).drew.trans q⟩
     have HPU : Hid _ := HPU0.out
     have Sx : (fun w' : World => w'.cell? ⟨cb, 4, none⟩ = some (.slice va vn vc) /\ w'.cell? ⟨bb, 0, none⟩ = some (.slice d1 nbd e1) /\ w'.cell? ⟨bb, 1, none⟩ = some (.int .i64 kd) /\ w'.cell? ⟨bb, 2, none⟩ = some (.int .i64 v1) /\ w'.cell? ⟨bb, 3, none⟩ = some (.int .i64 v2) /\ w'.cell? ⟨bb, 4, none⟩ = some (.slice d2 nw e2) /\ w'.cell? ⟨ab, 3, none⟩ = some (.int .i64 fsl) /\ bb < w'.heap.size /\ cb < w'.heap.size /\ ab < w'.heap.size) W2.drew := HS9.out W2.drew (Below.refl _ _).drew
     clear HG hHG cc g0 g1 g2 g3 g4 hBo hWa hfx hxr hxl hxe hvl hvm hxk hvn HPU0 hY enbd ekd ev1 ev2 enw b2' hx2 bwp hb2 hjB
     go_upto_region 9 with fail
     rw [<- hW2, <- hbb]
     clear hW2 hbb j0 j1 j2 j3 j4
     refine lec_start (S := fun w' : World => w'.cell? ⟨cb, 4, none⟩ = some (.slice va vn vc) /\ w'.cell? ⟨bb, 0, none⟩ = some (.slice d1 nbd e1) /\ w'.cell? ⟨bb, 1, none⟩ = some (.int .i64 kd) /\ w'.cell? ⟨bb, 2, none⟩ = some (.int .i64 v1) /\ w'.cell? ⟨bb, 3, none⟩ = some (.int .i64 v2) /\ w'.cell? ⟨bb, 4, none⟩ = some (.slice d2 nw e2) /\ w'.cell? ⟨ab, 3, none⟩ = some (.int .i64 fsl) /\ bb < w'.heap.size /\ cb < w'.heap.size /\ ab < w'.heap.size) (z := 7) (by kernel_rfl) ?_
     show lec _ _ _ _ _ 10 _ _ _
     try simp only [List.size_toArray, List.length_cons, List.length_nil, Array.replicate]
     refine lec_takeP (i := 0) (v := ?v0x) rfl (by kernel_rfl) (by kernel_rfl) (by kernel_rfl) (by kernel_rfl) (fun _ _ _ h => h) (.inl ⟨by rfl, ?hy0x⟩) Sx ?rest0x
     case hy0x =>
      rintro w' _
      go_simp
      all_goals with_reducible rfl
     try simp only [Act.put, List.getElem_toArray, List.getElem_cons_succ, List.getElem_cons_zero, List.setIfInBounds_toArray, List.set_cons_zero, List.set_cons_succ]
     refine lec_takeT [7, 8, 9] (i := 1) (v := ?v1x) rfl (by kernel_rfl) (by kernel_rfl) (by kernel_rfl) (by kernel_rfl) (fun _ _ _ h => h) (.inl ⟨by rfl, ?hy1x⟩) Sx ?rest1x
     case hy1x =>
      rintro w' ⟨h1, h2, h3, h4, h5, h6, h7, h8, h9, h10⟩
      go_simp
      all_goals with_reducible rfl
     try simp only [Act.put, List.getElem_toArray, List.getElem_cons_succ, List.getElem_cons_zero, List.setIfInBounds_toArray, List.set_cons_zero, List.set_cons_succ]
     refine lec_takeT [5, 6, 7, 8, 9] (i := 2) (v := ?v2x) rfl (by kernel_rfl) (by kernel_rfl) (by kernel_rfl) (by kernel_rfl) (fun _ _ _ h => h) (.inl ⟨by rfl, ?hy2x⟩) Sx ?rest2x
     case hy2x =>
      rintro w' ⟨h1, h2, h3, h4, h5, h6, h7, h8, h9, h10⟩
      go_simp
      all_goals with_reducible rfl
     try simp only [Act.put, List.getElem_toArray, List.getElem_cons_succ, List.getElem_cons_zero, List.setIfInBounds_toArray, List.set_cons_zero, List.set_cons_succ]
     refine lec_takeP (i := 3) (v := ?v3x) rfl (by kernel_rfl) (by kernel_rfl) (by kernel_rfl) (by kernel_rfl) (fun _ _ _ h => h) (.inl ⟨by rfl, ?hy3x⟩) Sx ?rest3x
     case hy3x =>
      rintro w' _
      go_simp
      all_goals with_reducible rfl
     try simp only [Act.put, List.getElem_toArray, List.getElem_cons_succ, List.getElem_cons_zero, List.setIfInBounds_toArray, List.set_cons_zero, List.set_cons_succ]
     refine lec_takeT [5, 6, 7, 8, 9] (i := 4) (v := ?v4x) rfl (by kernel_rfl) (by kernel_rfl) (by kernel_rfl) (by kernel_rfl) (fun _ _ _ h => h) (.inl ⟨by rfl, ?hy4x⟩) Sx ?rest4x
     case hy4x =>
      rintro w' ⟨h1, h2, h3, h4, h5, h6, h7, h8, h9, h10⟩
      go_simp
      all_goals with_reducible rfl
     try simp only [Act.put, List.getElem_toArray, List.getElem_cons_succ, List.getElem_cons_zero, List.setIfInBounds_toArray, List.set_cons_zero, List.set_cons_succ]
     refine lec_one (i := 5) rfl (by kernel_rfl) ?_
     intro K5 hK5
     rw [if_pos (by rfl)]
     go_simp
     refine Calls.mono HNK.out ?_
     rintro e wB ⟨ba9, bn9, bc9, bk9, bv9, bw9, bm9, bx9, rfl, hlb, bB⟩
     have HBB : Hid _ := bB
     have HLB : Hid _ := hlb
     have Sb := HS9.out wB bB
     clear bB hlb
     go_simp
     refine hK5 _ _ (fun _ => Sb) ?_
     clear hK5
     try simp only [Act.put, List.getElem_toArray, List.getElem_cons_succ, List.getElem_cons_zero, List.setIfInBounds_toArray, List.set_cons_zero, List.set_cons_succ]
     refine lec_one (i := 6) rfl (by kernel_rfl) ?_
     intro K9 hK9
     rw [if_pos (by rfl)]
     go_simp
     obtain ⟨WB, hWB⟩ : ∃ WB, WB = wB.alloc (.cells #[.slice ba9 bn9 bc9, .int .i64 bk9, .int .i64 bv9, .slice bw9 bm9 bx9] 134) := ⟨_, rfl⟩
     obtain ⟨sb, hsb⟩ : ∃ sb, sb = wB.heap.size := ⟨_, rfl⟩
     have bWB : Below wB.heap.size wB WB := by rw [hWB]; exact below_newA wB _
     have hcW : WB.heap[sb]? = some (.cells #[.slice ba9 bn9 bc9, .int .i64 bk9, .int .i64 bv9, .slice bw9 bm9 bx9] 134 (0, 0)) := by rw [hWB, hsb]; exact heap_alloc_new wB _
     rw [<- hWB]
     have Sw := HS9.out WB (HBB.out.trans (bWB.mono HBB.out.size))
     refine hK9 _ _ (fun _ => Sw) ?_
     rw [<- hsb]
     have HBW : Hid _ := bWB
     have HR6 := HRW.out WB (HB9.out _ (HBB.out.trans (bWB.mono HBB.out.size)))
     have HCN : Hid (∀ j u, ([.slice ba9 bn9 bc9, .int .i64 bk9, .int .i64 bv9, .slice bw9 bm9 bx9] : List Value)[j]? = some u -> WB.cell? ((⟨sb, 0, none⟩ : Addr).add j) = some u) := fun j u hu => by
      rw [add_noneR, Nat.zero_add]
      exact cell_arr hcW (by simpa using hu)
     clear hK9 hWB hsb bWB hcW
     try simp only [Act.put, List.getElem_toArray, List.getElem_cons_succ, List.getElem_cons_zero, List.setIfInBounds_toArray, List.set_cons_zero, List.set_cons_succ]
     refine lec_one (i := 7) rfl (by kernel_rfl) ?_
     intro K10 hK10
     refine step_append_row rfl _ _ 123 134 4 _ 64 rfl Tryz.underlying123 info_lblock rfl (by decide) (by decide) wq.heap.size (.slice va vn vc) xs rfl HR6.out.1 sb rfl [.slice ba9 bn9 bc9, .int .i64 bk9, .int .i64 bv9, .slice bw9 bm9 bx9] rfl HCN.out (fun u hu => by simp at hu; rcases hu with rfl | rfl | rfl | rfl <;> rfl) hlx HR6.out.2 ?_
     intro v7 w7 h7 g7
     refine hK10 _ _ (fun h => by cases h) ?_
     have HP7 := HPU.out wB WB w7 v7 _ (HB9.out _ HBB.out) HLB.out HBW.out h7 g7
     obtain ⟨xa7, xc7, ev7, _, _⟩ := own_slice h7.out
     clear hK10 h7 g7
     obtain ⟨n7, hn7⟩ : ∃ n7, n7 = (xs ++ [([.slice ba9 bn9 bc9, .int .i64 bk9, .int .i64 bv9, .slice bw9 bm9 bx9] : List Value)]).length := ⟨_, rfl⟩
     rw [<- hn7] at ev7
     clear hn7
     subst ev7
     obtain ⟨q7, z7, t7, HP8⟩ := HP7
     try simp only [Act.put, List.getElem_toArray, List.getElem_cons_succ, List.getElem_cons_zero, List.setIfInBounds_toArray, List.set_cons_zero, List.set_cons_succ]
     refine lec_one (i := 8) rfl (by kernel_rfl) ?_
     intro K8 hK8
     rw [if_pos (by rfl)]
     go_simp
     refine hK8 _ _ (fun h => by cases h) ?_
     clear hK8
     try simp only [Act.put, List.getElem_toArray, List.getElem_cons_succ, List.getElem_cons_zero, List.setIfInBounds_toArray, List.set_cons_zero, List.set_cons_succ]
     refine lec_one (i := 9) rfl (by kernel_rfl) ?_
     intro K9 hK9
     rw [if_pos (by rfl)]
     go_simp
     refine hK9 _ _ (fun h => by cases h) ?_
     clear hK9
     try simp only [Act.put, List.getElem_toArray, List.getElem_cons_succ, List.getElem_cons_zero, List.setIfInBounds_toArray, List.set_cons_zero, List.set_cons_succ]
     refine lec_done (by kernel_rfl) ?_
     clear Sx HNK HPU HRW HS9 HB9 q7 z7 t7
     go_wp2_with fail
     go_roundw
     case rel => exact ⟨j + 1, by omega, by first | rfl | go_num, _, HP8.out⟩
     case measure => simp [intOf]; try omega
    ·obtain rfl : j = nb := by omega
     have hnlt : decide ((j : Int) < (j : Int)) = false := by simp
     obtain ⟨hkF, hfk⟩ := HFK.out
     obtain ⟨A9, hA9⟩ : ∃ A : Array Value, A = #[.string fnm, .slice x1 np y1, .int .i64 frs, .int .i64 fsl, .slice x2 j y2] := ⟨_, rfl⟩
     have hD := HG.out
     rw [<- hA9, HFF.out.2.2.2.2] at hD
     have hL := hD.done hwq HFX.out.1
     obtain ⟨ua, uc, eu, -, -⟩ := hD.row.sl
     obtain ⟨un, hun⟩ : ∃ n, n = ((f.blks.take f.blks.length).map (nuB f.slots)).length := ⟨_, rfl⟩
     rw [<- hun] at eu
     subst eu
     have hfb := hD.fbx
     rw [<- HFF.out.1, <- HFF.out.2.1, <- HFF.out.2.2.1, <- HFF.out.2.2.2.1] at hfb hL
     have hOp := HO.out.below hD.low
     obtain ⟨xs, hxr, hxl, hxe⟩ := hOp.row.out
     obtain ⟨va, vc, ev, hvl, hvm⟩ := own_slice hxr.out
     have hxk : xs.length = k := by rw [hxl]; simp; omega
     rw [hxk] at ev
     obtain ⟨vn, hvn⟩ : ∃ n, n = k := ⟨_, rfl⟩
     rw [<- hvn] at ev
     subst ev
     have hlx : xs.length + 1 <= 1000000000 := by omega
     have c0 : wp.cell? ⟨lb, 0, none⟩ = some (.slice va vn vc) := cell_arr hOp.lbx rfl
     have llb : lb < wp.heap.size := (gl hOp.lbx)
     have p0 : wp.cell? ⟨cb, 0, none⟩ = some (.string fnm) := cell_arr hfb rfl
     have p1 : wp.cell? ⟨cb, 1, none⟩ = some (.slice (some ⟨ng, 0, none⟩) np np) := cell_arr hfb rfl
     have p2 : wp.cell? ⟨cb, 2, none⟩ = some (.int .i64 (8 + fsl)) := cell_arr hfb rfl
     have p3 : wp.cell? ⟨cb, 3, none⟩ = some (.int .i64 frs) := cell_arr hfb rfl
     have p4 : wp.cell? ⟨cb, 4, none⟩ = some (.slice ua un uc) := cell_arr hfb rfl
     have lcb : cb < wp.heap.size := (gl hfb)
     obtain ⟨WB, hWB⟩ : ∃ WB, WB = wp.alloc (.cells #[.string fnm, .slice (some ⟨ng, 0, none⟩) np np, .int .i64 (8 + fsl), .int .i64 frs, .slice ua un uc] 125) := ⟨_, rfl⟩
     obtain ⟨sb, hsb⟩ : ∃ sb, sb = wp.heap.size := ⟨_, rfl⟩
     have bWB : Below wp.heap.size wp WB := by rw [hWB]; exact below_newA wp _
     have hcW : WB.heap[sb]? = some (.cells #[.string fnm, .slice (some ⟨ng, 0, none⟩) np np, .int .i64 (8 + fsl), .int .i64 frs, .slice ua un uc] 125 (0, 0)) := by rw [hWB, hsb]; exact heap_alloc_new wp _
     have HCN : Hid (∀ j u, ([.string fnm, .slice (some ⟨ng, 0, none⟩) np np, .int .i64 (8 + fsl), .int .i64 frs, .slice ua un uc] : List Value)[j]? = some u -> WB.cell? ((⟨sb, 0, none⟩ : Addr).add j) = some u) := fun j u hu => by
      rw [add_noneR, Nat.zero_add]
      exact cell_arr hcW (by simpa using hu)
     have HRR : Hid (Row WB w.heap.size 125 5 (.slice va vn vc) xs) := hxr.keep bWB
     have hsz : w.heap.size <= WB.heap.size := Nat.le_trans hOp.low.size bWB.size
     have HPU : Hid (∀ w7 v7, Row w7 w.heap.size 125 5 v7 (xs ++ [[.string fnm, .slice (some ⟨ng, 0, none⟩) np np, .int .i64 (8 + fsl), .int .i64 frs, .slice ua un uc]]) -> GI w.heap.size WB w7 (.slice va vn vc) v7 -> w7.cell? ⟨lb, 0, none⟩ = some (.slice va vn vc) /\ w7.frozen? ⟨lb, 0, none⟩ = false /\ lb < w7.heap.size /\ Hid (NfS FS m w rb lb v7 (k + 1) (w7.setCell ⟨lb, 0, none⟩ v7))) := fun w7 v7 hr hG => hOp.next hkF hxk hxe (Below.refl _ _) (by rw [<- hfk]; exact hL) bWB HRR.out hr hG
     have hon : ∀ u ∈ ([.string fnm, .slice (some ⟨ng, 0, none⟩) np np, .int .i64 (8 + fsl), .int .i64 frs, .slice ua un uc] : List Value), u.oneCell' = true := fun u hu => by simp at hu; rcases hu with rfl | rfl | rfl | rfl | rfl <;> rfl
     have HON : Hid _ := hon
     clear HG hD hL hfb hOp hxr hxl hxe hvl hvm hxk hvn hun hA9 bWB hcW hon hkF hfk
     go_wp2_with (at_builtin; rw [<- hWB, <- hsb]; refine wpList_step fun K hK => ?_; refine step_append_row rfl _ _ 108 125 5 _ 80 rfl Tryz.underlying108 info_lfunc rfl (by decide) (by decide) w.heap.size (.slice va vn vc) xs rfl HRR.out sb rfl [.string fnm, .slice (some ⟨ng, 0, none⟩) np np, .int .i64 (8 + fsl), .int .i64 frs, .slice ua un uc] rfl HCN.out HON.out hlx hsz ?_; intro v7 w7 h7 g7; refine hK _ _ ?_; clear hK; obtain ⟨q7, z7, t7, HP8⟩ := HPU.out w7 v7 h7 g7; obtain ⟨xa7, xc7, ev7, -, -⟩ := own_slice h7.out; clear h7 g7 hWB; obtain ⟨n7, hn7⟩ : ∃ n7, n7 = (xs ++ [([.string fnm, .slice (some ⟨ng, 0, none⟩) np np, .int .i64 (8 + fsl), .int .i64 frs, .slice ua un uc] : List Value)]).length := ⟨_, rfl⟩; rw [<- hn7] at ev7; clear hn7; subst ev7)
     go_roundw
     case rel => exact ⟨k + 1, by omega, by first | rfl | go_num, _, HP8.out⟩
     case measure => simp [intOf]; try omega
  ·obtain rfl : k = fn := by omega
   have hnlt : decide ((k : Int) < (k : Int)) = false := by simp
   have hO := HO.out
   have hrow := hO.row
   rw [HN.out, List.take_of_length_le (Nat.le_refl _)] at hrow
   obtain ⟨ua, uc, eu, -, -⟩ := hrow.sl
   rw [List.length_map, <- HN.out] at eu
   subst eu
   have c0 : wq.cell? ⟨lb, 0, none⟩ = some (.slice ua k uc) := cell_arr hO.lbx rfl
   have c1 : wq.cell? ⟨lb, 1, none⟩ = some (.int .i64 m) := cell_arr hO.lbx rfl
   have llb : lb < wq.heap.size := (gl hO.lbx)
   have hrx := hO.rbx
   have HZ2 : Hid _ := hrx
   obtain ⟨w3, hw3⟩ : ∃ w3, w3 = wq.setRow rb #[.slice ua k uc, .int .i64 m] := ⟨_, rfl⟩
   have HR3 : Hid (w3.heap[rb]? = some (.cells #[.slice ua k uc, .int .i64 m] 110 (0, 0))) := by rw [hw3]; exact setRow_heap wq rb _ _ _ _ hrx
   have HF3 : Hid (Lfs w3 ua uc (FS.map nuF) /\ Below w.heap.size w w3) := by
    have hrbl : w.heap.size <= rb := HRB.out
    have hk9 : Kp [110] w.heap.size wq w3 := by rw [hw3]; exact Kp.setRow hrx (by simp) hrbl _
    have := hrow.kp hk9 (by simp) (LfE.kp hk9 hO.low.size (by simp) (by simp) (by simp))
    obtain ⟨ao, c, e1, hl⟩ := lfs_of this
    cases e1
    exact ⟨hl, by rw [hw3]; exact below_setRowA hO.low hrbl _⟩
   have HW3 : Hid _ := hw3
   clear HO hO hrow hrx hw3
   go_wp2_with (refine wpList_store_row rfl _ _ _ rfl rb _ rfl rfl 110 _ HZ2.out (by kernel_rfl) rfl (by kernel_rfl) ?_; rw [<- HW3.out]; clear HW3)
   refine bodyPost_ret (v := .agg #[.slice ua k uc, .int .i64 m]) ?_ rfl ⟨ua, uc, rfl, HF3.out⟩
   exact results_cell_row Tryz.results49 _ _ rb 110 _ (0, 0) _ rfl HR3.out Tryz.underlying110 rfl (by kernel_rfl)
end Go.Proofs.YtegoemeefmjnoaaGreatDoor
