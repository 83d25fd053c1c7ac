import Derived.Test.YtegoemeefmjnoaaGreatDoorAtN
set_option linter.unusedVariables false
set_option linter.unusedSimpArgs false
namespace Go.Proofs.YtegoemeefmjnoaaGreatDoor
open Go.ChangeShapes Go.WideShapes Go.ChangeAt Go.RowKit Go.Maps

theorem pts_map {l : List Pt} {i : Nat} {p : Pt} (h : l[i]? = some p) : (l.take (i + 1)).map pI = (l.take i).map pI ++ [pI p] := by
  obtain ⟨hi, rfl⟩ := List.getElem?_eq_some_iff.1 h
  rw [List.take_succ_eq_append_getElem hi, List.map_append]
  rfl
theorem pts_fold {l : List Pt} {i : Nat} {p : Pt} (h : l[i]? = some p) {H : List Int} : (l.take (i + 1)).foldl hp H = hp ((l.take i).foldl hp H) p := by
  obtain ⟨hi, rfl⟩ := List.getElem?_eq_some_iff.1 h
  rw [List.take_succ_eq_append_getElem hi, List.foldl_append]
  rfl
set_option maxRecDepth 100000 in
set_option maxHeartbeats 8000000 in
theorem puts_any (w0 : World) {pa : Option Addr} {pn pc hb : Nat} {l : List Pt} {H : List Int} (hP : ∀ W, Only (fun k => k = hb) w0 W → Pts W pa pc l) (hn : pn = l.length) (hl : l.length ≤ 300) (hH : HbA w0 hb H) (h16 : H.length = 16) :
    Calls Tryz.prog 14 #[.slice pa pn pc, .pointer (some ⟨hb, 0, none⟩)] w0 fun e w' => ∃ v, e = .returned v ∧ PlS w0 w' hb v (l.map pI) (l.foldl hp H) := by
  have HP : Hid (∀ W, Only (fun k => k = hb) w0 W → Pts W pa pc l) := hP
  have HN : Hid (pn = l.length) := hn
  have hpn : pn ≤ 300 := by omega
  have H0 : Hid (PlS w0 w0 hb (.slice none 0 0) ((l.take 0).map pI) ((l.take 0).foldl hp H)) := ⟨Only.refl _ _, (Array.getElem?_eq_some_iff.1 hH).1, RowE.nil, hH⟩
  have H16 : Hid (∀ i, ((l.take i).foldl hp H).length = 16) := fun i => by
    have : ∀ (m : List Pt) (H : List Int), H.length = 16 → (m.foldl hp H).length = 16 := fun m => by
      induction m with
      | nil => intro H h; exact h
      | cons p m ih => intro H h; exact ih _ (by unfold hp; simpa using h)
    exact this _ _ h16
  have HWI : Hid (∀ W n, Calls Tryz.prog 28 #[.int .i64 n, .int .i64 16] W fun e w' => e = .returned (.int .i64 ((wn n : Nat) : Int)) ∧ W = w') := withinP_any
  have HWH : Hid (∀ W (k : Nat), k < 16 → Calls Tryz.prog 15 #[.int .i64 (k : Int)] W fun e w' => e = .returned (.agg #[.int .i64 (whP k).1, .int .i64 (whP k).2]) ∧ Below W.heap.size W w') := whereP_any
  clear hP hn hl hH h16
  go_enter Tryz.func14, Tryz.ntmps14
  go_upto_region 3 with fail
  go_loopw [5, 6] (fun ov iv wr => ∃ (i : Nat) (xa : Option Addr) (xc : Nat), i ≤ pn ∧ iv = .int .i64 (i : Int) ∧ ov = .slice xa i xc ∧ Hid (PlS w0 wr hb ov ((l.take i).map pI) ((l.take i).foldl hp H))) (fun _ iv _ => pn - (intOf iv).toNat)
  case atStart => exact ⟨0, none, 0, by omega, rfl, rfl, H0.out⟩
  case round =>
    clear H0
    obtain ⟨i, xa, xc, hi, rfl, rfl, HS⟩ := hrel
    by_cases hlt : i < pn
    · have hil : i < l.length := by have := HN.out; omega
      obtain ⟨pb, po, e1, hpl, c0, c1, c2, c3⟩ := (HP.out wr HS.out.low).at hil
      subst e1
      obtain ⟨p, hp'⟩ : ∃ p, p = l[i] := ⟨_, rfl⟩
      rw [← hp'] at c0 c1 c2 c3
      have HPI : Hid (l[i]? = some p) := by rw [hp']; exact List.getElem?_eq_getElem hil
      clear hp' hil
      obtain ⟨p0, p1, p2, p3⟩ := p
      have HS5 : Hid (((fun w' : World => w'.cell? ⟨pb, po + i * 4, none⟩ = some (.int .i64 p0) ∧ w'.cell? ⟨pb, po + i * 4 + 1, none⟩ = some (.int .i64 p1) ∧ pb < w'.heap.size) : World → Prop) wr.drew) := ⟨c0, c1, hpl⟩
      go_upto_region 5 with fail
      have Sz := HS5.out
      refine lec_start (S := fun w' : World => w'.cell? ⟨pb, po + i * 4, none⟩ = some (.int .i64 p0) ∧ w'.cell? ⟨pb, po + i * 4 + 1, none⟩ = some (.int .i64 p1) ∧ pb < w'.heap.size) (z := 11) (by kernel_rfl) ?_
      show lec _ _ _ _ _ 14 _ _ _
      try simp only [List.size_toArray, List.length_cons, List.length_nil, Array.replicate]
      refine lec_takeP (i := 0) (v := ?v0z) rfl (by kernel_rfl) (by kernel_rfl) (by kernel_rfl) (by kernel_rfl) (fun _ _ _ h => h) (.inl ⟨by rfl, ?hy0z⟩) Sz ?rest0z
      case hy0z =>
        rintro w' _
        go_simp
        all_goals with_reducible rfl
      try simp only [Act.put, List.getElem_toArray, List.getElem_cons_succ, List.getElem_cons_zero, List.setIfInBounds_toArray, List.set_cons_zero, List.set_cons_succ]
      refine lec_takeP (i := 1) (v := ?v1z) rfl (by kernel_rfl) (by kernel_rfl) (by kernel_rfl) (by kernel_rfl) (fun _ _ _ h => h) (.inl ⟨by rfl, ?hy1z⟩) Sz ?rest1z
      case hy1z =>
        rintro w' _
        go_simp
        all_goals with_reducible rfl
      try simp only [Act.put, List.getElem_toArray, List.getElem_cons_succ, List.getElem_cons_zero, List.setIfInBounds_toArray, List.set_cons_zero, List.set_cons_succ]
      refine lec_takeP (i := 2) (v := ?v2z) rfl (by kernel_rfl) (by kernel_rfl) (by kernel_rfl) (by kernel_rfl) (fun _ _ _ h => h) (.inl ⟨by rfl, ?hy2z⟩) Sz ?rest2z
      case hy2z =>
        rintro w' _
        go_simp
        all_goals with_reducible rfl
      try simp only [Act.put, List.getElem_toArray, List.getElem_cons_succ, List.getElem_cons_zero, List.setIfInBounds_toArray, List.set_cons_zero, List.set_cons_succ]
      refine lec_takeP (i := 3) (v := ?v3z) rfl (by kernel_rfl) (by kernel_rfl) (by kernel_rfl) (by kernel_rfl) (fun _ _ _ h => h) (.inl ⟨by rfl, ?hy3z⟩) Sz ?rest3z
      case hy3z =>
        rintro w' _
        go_simp
        all_goals with_reducible rfl
      try simp only [Act.put, List.getElem_toArray, List.getElem_cons_succ, List.getElem_cons_zero, List.setIfInBounds_toArray, List.set_cons_zero, List.set_cons_succ]
      refine lec_takeT [5, 11, 12, 13] (i := 4) (v := ?v4z) rfl (by kernel_rfl) (by kernel_rfl) (by kernel_rfl) (by kernel_rfl) (fun _ _ _ h => h) (.inl ⟨by rfl, ?hy4z⟩) Sz ?rest4z
      case hy4z =>
        rintro w' ⟨h1, h2, h3⟩
        go_simp
        all_goals with_reducible rfl
      try simp only [Act.put, List.getElem_toArray, List.getElem_cons_succ, List.getElem_cons_zero, List.setIfInBounds_toArray, List.set_cons_zero, List.set_cons_succ]
      refine lec_takeP (i := 6) (v := ?v6z) rfl (by kernel_rfl) (by kernel_rfl) (by kernel_rfl) (by kernel_rfl) (fun _ _ _ h => h) (.inl ⟨by rfl, ?hy6z⟩) Sz ?rest6z
      case hy6z =>
        rintro w' _
        go_simp
        all_goals with_reducible rfl
      try simp only [Act.put, List.getElem_toArray, List.getElem_cons_succ, List.getElem_cons_zero, List.setIfInBounds_toArray, List.set_cons_zero, List.set_cons_succ]
      refine lec_takeP (i := 7) (v := ?v7z) rfl (by kernel_rfl) (by kernel_rfl) (by kernel_rfl) (by kernel_rfl) (fun _ _ _ h => h) (.inl ⟨by rfl, ?hy7z⟩) Sz ?rest7z
      case hy7z =>
        rintro w' _
        go_simp
        all_goals with_reducible rfl
      try simp only [Act.put, List.getElem_toArray, List.getElem_cons_succ, List.getElem_cons_zero, List.setIfInBounds_toArray, List.set_cons_zero, List.set_cons_succ]
      refine lec_takeP (i := 8) (v := ?v8z) rfl (by kernel_rfl) (by kernel_rfl) (by kernel_rfl) (by kernel_rfl) (fun _ _ _ h => h) (.inl ⟨by rfl, ?hy8z⟩) Sz ?rest8z
      case hy8z =>
        rintro w' _
        go_simp
        all_goals with_reducible rfl
      try simp only [Act.put, List.getElem_toArray, List.getElem_cons_succ, List.getElem_cons_zero, List.setIfInBounds_toArray, List.set_cons_zero, List.set_cons_succ]
      refine lec_takeP (i := 9) (v := ?v9z) rfl (by kernel_rfl) (by kernel_rfl) (by kernel_rfl) (by kernel_rfl) (fun _ _ _ h => h) (.inl ⟨by rfl, ?hy9z⟩) Sz ?rest9z
      case hy9z =>
        rintro w' _
        go_simp
        all_goals with_reducible rfl
      try simp only [Act.put, List.getElem_toArray, List.getElem_cons_succ, List.getElem_cons_zero, List.setIfInBounds_toArray, List.set_cons_zero, List.set_cons_succ]
      refine lec_takeT [11, 12, 13] (i := 10) (v := ?v10z) rfl (by kernel_rfl) (by kernel_rfl) (by kernel_rfl) (by kernel_rfl) (fun _ _ _ h => h) (.inl ⟨by rfl, ?hy10z⟩) Sz ?rest10z
      case hy10z =>
        rintro w' ⟨h1, h2, h3⟩
        go_simp
        all_goals with_reducible rfl
      try simp only [Act.put, List.getElem_toArray, List.getElem_cons_succ, List.getElem_cons_zero, List.setIfInBounds_toArray, List.set_cons_zero, List.set_cons_succ]
      refine lec_one (i := 5) rfl (by kernel_rfl) ?_
      intro K5 hK5
      rw [if_pos (by rfl)]
      go_simp
      refine Calls.mono (HWI.out _ p0) ?_
      rintro e w' ⟨rfl, rfl⟩
      go_simp
      refine hK5 _ _ (fun _ => Sz) ?_
      clear hK5
      try simp only [Act.put, List.getElem_toArray, List.getElem_cons_succ, List.getElem_cons_zero, List.setIfInBounds_toArray, List.set_cons_zero, List.set_cons_succ]
      refine lec_one (i := 11) rfl (by kernel_rfl) ?_
      intro K11 hK11
      rw [if_pos (by rfl)]
      go_simp
      refine Calls.mono (HWI.out _ p1) ?_
      rintro e w' ⟨rfl, rfl⟩
      go_simp
      refine hK11 _ _ (fun h => by cases h) ?_
      clear hK11
      try simp only [Act.put, List.getElem_toArray, List.getElem_cons_succ, List.getElem_cons_zero, List.setIfInBounds_toArray, List.set_cons_zero, List.set_cons_succ]
      refine lec_one (i := 12) rfl (by kernel_rfl) ?_
      intro K12 hK12
      rw [if_pos (by rfl)]
      go_simp
      refine hK12 _ _ (fun h => by cases h) ?_
      clear hK12
      try simp only [Act.put, List.getElem_toArray, List.getElem_cons_succ, List.getElem_cons_zero, List.setIfInBounds_toArray, List.set_cons_zero, List.set_cons_succ]
      refine lec_one (i := 13) rfl (by kernel_rfl) ?_
      intro K13 hK13
      rw [if_pos (by rfl)]
      go_simp
      refine hK13 _ _ (fun h => by cases h) ?_
      clear hK13
      try simp only [Act.put, List.getElem_toArray, List.getElem_cons_succ, List.getElem_cons_zero, List.setIfInBounds_toArray, List.set_cons_zero, List.set_cons_succ]
      refine lec_done (by kernel_rfl) ?_
      clear Sz HS5 c0 c1 HWI
      obtain ⟨W1, hW1⟩ : ∃ W1, W1 = wr.drew := ⟨_, rfl⟩
      obtain ⟨t, ht⟩ : ∃ t, t = wn p0 := ⟨_, rfl⟩
      obtain ⟨f, hf⟩ : ∃ f, f = wn p1 := ⟨_, rfl⟩
      have htl : t < 16 := by rw [ht]; exact wn_lt _
      have hfl : f < 16 := by rw [hf]; exact wn_lt _
      have HS1 : Hid (PlS w0 W1 hb (.slice xa i xc) ((l.take i).map pI) ((l.take i).foldl hp H)) := by rw [hW1]; exact HS.out.below (Below.refl _ _).drew
      have d2 : W1.cell? ⟨pb, po + i * 4 + 2, none⟩ = some (.int .i64 p2) := by rw [hW1]; exact c2
      have d3 : W1.cell? ⟨pb, po + i * 4 + 3, none⟩ = some (.bool p3) := by rw [hW1]; exact c3
      have dl : pb < W1.heap.size := by rw [hW1]; exact hpl
      rw [← hW1, ← ht, ← hf]
      have HTF : Hid (t = wn p0 ∧ f = wn p1) := ⟨ht, hf⟩
      clear hW1 HS c2 c3 hpl ht hf
      obtain ⟨xs, hr1, hxl, hxs⟩ := HS1.out.row.out
      have hxi : xs.length = i := by rw [hxl]; have := HN.out; simp; omega
      have hlx : xs.length + 1 ≤ 1000000000 := by omega
      have HRW : Hid (∀ W, Below W1.heap.size W1 W → Row W w0.heap.size 29 6 (.slice xa i xc) xs ∧ w0.heap.size ≤ W.heap.size) := fun W hW => ⟨hr1.keep hW, Nat.le_trans HS1.out.low.size hW.size⟩
      have HXL : Hid (∀ cs : List Value, (xs ++ [cs]).length = i + 1) := fun cs => by simp [hxi]
      have HPX : Hid (∀ (x : Ai) (cs : List Value) (WB w7 : World) (v7 : Value), Below W1.heap.size W1 WB → PlE WB cs x → Row w7 w0.heap.size 29 6 v7 (xs ++ [cs]) → GI w0.heap.size WB w7 (.slice xa i xc) v7 → PlS w0 w7 hb v7 ((l.take i).map pI ++ [x]) ((l.take i).foldl hp H)) := fun x cs WB w7 v7 b hx h7 g7 => HS1.out.push b (hr1.keep b) hxl hxs hx h7 g7
      clear hr1 hxl hxs hxi
      cases p3 with
      | true =>
        have HPU : Hid (∀ (WB w7 : World) (v7 : Value), Below W1.heap.size W1 WB → Row w7 w0.heap.size 29 6 v7 (xs ++ [[.int .i64 1, .int .i64 p2, .int .i64 (whP t).1, .int .i64 (whP t).2, .slice none 0 0, .slice none 0 0]]) → GI w0.heap.size WB w7 (.slice xa i xc) v7 → PlS w0 w7 hb v7 ((l.take i).map pI ++ [⟨1, p2, whP t, [], []⟩]) ((l.take i).foldl hp H)) := fun WB w7 v7 b h7 g7 => HPX.out _ _ WB w7 v7 b ⟨none, 0, none, 0, rfl, .inl ⟨rfl, rfl, rfl⟩, .inl ⟨rfl, rfl, rfl⟩⟩ h7 g7
        have HSB : Hid (∀ W, Below W1.heap.size W1 W → ((fun w' : World => w'.cell? ⟨pb, po + i * 4 + 2, none⟩ = some (.int .i64 p2) ∧ pb < w'.heap.size) : World → Prop) W) := fun W hW => ⟨(hW.cell (p := ⟨pb, po + i * 4 + 2, none⟩) dl).trans d2, Nat.lt_of_lt_of_le dl hW.size⟩
        go_upto_region 7 with fail
        have Sy := HSB.out W1.drew (Below.refl _ _).drew
        clear d2 d3 dl HPX
        refine lec_start (S := fun w' : World => w'.cell? ⟨pb, po + i * 4 + 2, none⟩ = some (.int .i64 p2) ∧ pb < w'.heap.size) (z := 10) (by kernel_rfl) ?_
        show lec _ _ _ _ _ 12 _ _ _
        try simp only [List.size_toArray, List.length_cons, List.length_nil, Array.replicate]
        refine lec_takeP (i := 0) (v := ?v0y) rfl (by kernel_rfl) (by kernel_rfl) (by kernel_rfl) (by kernel_rfl) (fun _ _ _ h => h) (.inl ⟨by rfl, ?hy0y⟩) Sy ?rest0y
        case hy0y =>
          rintro w' _
          go_simp
          all_goals with_reducible rfl
        try simp only [Act.put, List.getElem_toArray, List.getElem_cons_succ, List.getElem_cons_zero, List.setIfInBounds_toArray, List.set_cons_zero, List.set_cons_succ]
        refine lec_takeP (i := 1) (v := ?v1y) rfl (by kernel_rfl) (by kernel_rfl) (by kernel_rfl) (by kernel_rfl) (fun _ _ _ h => h) (.inl ⟨by rfl, ?hy1y⟩) Sy ?rest1y
        case hy1y =>
          rintro w' _
          go_simp
          all_goals with_reducible rfl
        try simp only [Act.put, List.getElem_toArray, List.getElem_cons_succ, List.getElem_cons_zero, List.setIfInBounds_toArray, List.set_cons_zero, List.set_cons_succ]
        refine lec_takeP (i := 2) (v := ?v2y) rfl (by kernel_rfl) (by kernel_rfl) (by kernel_rfl) (by kernel_rfl) (fun _ _ _ h => h) (.inl ⟨by rfl, ?hy2y⟩) Sy ?rest2y
        case hy2y =>
          rintro w' _
          go_simp
          all_goals with_reducible rfl
        try simp only [Act.put, List.getElem_toArray, List.getElem_cons_succ, List.getElem_cons_zero, List.setIfInBounds_toArray, List.set_cons_zero, List.set_cons_succ]
        refine lec_takeP (i := 3) (v := ?v3y) rfl (by kernel_rfl) (by kernel_rfl) (by kernel_rfl) (by kernel_rfl) (fun _ _ _ h => h) (.inl ⟨by rfl, ?hy3y⟩) Sy ?rest3y
        case hy3y =>
          rintro w' _
          go_simp
          all_goals with_reducible rfl
        try simp only [Act.put, List.getElem_toArray, List.getElem_cons_succ, List.getElem_cons_zero, List.setIfInBounds_toArray, List.set_cons_zero, List.set_cons_succ]
        refine lec_takeP (i := 4) (v := ?v4y) rfl (by kernel_rfl) (by kernel_rfl) (by kernel_rfl) (by kernel_rfl) (fun _ _ _ h => h) (.inl ⟨by rfl, ?hy4y⟩) Sy ?rest4y
        case hy4y =>
          rintro w' _
          go_simp
          all_goals with_reducible rfl
        try simp only [Act.put, List.getElem_toArray, List.getElem_cons_succ, List.getElem_cons_zero, List.setIfInBounds_toArray, List.set_cons_zero, List.set_cons_succ]
        refine lec_takeT [8, 9, 10, 11] (i := 5) (v := ?v5y) rfl (by kernel_rfl) (by kernel_rfl) (by kernel_rfl) (by kernel_rfl) (fun _ _ _ h => h) (.inl ⟨by rfl, ?hy5y⟩) Sy ?rest5y
        case hy5y =>
          rintro w' ⟨h1, h2⟩
          go_simp
          all_goals with_reducible rfl
        try simp only [Act.put, List.getElem_toArray, List.getElem_cons_succ, List.getElem_cons_zero, List.setIfInBounds_toArray, List.set_cons_zero, List.set_cons_succ]
        refine lec_takeP (i := 6) (v := ?v6y) rfl (by kernel_rfl) (by kernel_rfl) (by kernel_rfl) (by kernel_rfl) (fun _ _ _ h => h) (.inl ⟨by rfl, ?hy6y⟩) Sy ?rest6y
        case hy6y =>
          rintro w' _
          go_simp
          all_goals with_reducible rfl
        try simp only [Act.put, List.getElem_toArray, List.getElem_cons_succ, List.getElem_cons_zero, List.setIfInBounds_toArray, List.set_cons_zero, List.set_cons_succ]
        refine lec_one (i := 7) rfl (by kernel_rfl) ?_
        intro K7 hK7
        rw [if_pos (by rfl)]
        go_simp
        refine Calls.mono (HWH.out _ t htl) ?_
        rintro e wA ⟨rfl, bA⟩
        have HBA : Hid (Below W1.heap.size W1 wA) := (Below.refl _ _).drew.trans bA
        have Sa := HSB.out wA HBA.out
        clear bA
        go_simp
        refine hK7 _ _ (fun _ => Sa) ?_
        clear hK7
        try simp only [Act.put, List.getElem_toArray, List.getElem_cons_succ, List.getElem_cons_zero, List.setIfInBounds_toArray, List.set_cons_zero, List.set_cons_succ]
        refine lec_one (i := 8) rfl (by kernel_rfl) ?_
        intro K8 hK8
        rw [if_pos (by rfl)]
        go_simp
        refine hK8 _ _ (fun _ => Sa) ?_
        clear hK8
        try simp only [Act.put, List.getElem_toArray, List.getElem_cons_succ, List.getElem_cons_zero, List.setIfInBounds_toArray, List.set_cons_zero, List.set_cons_succ]
        refine lec_one (i := 9) rfl (by kernel_rfl) ?_
        intro K9 hK9
        rw [if_pos (by rfl)]
        go_simp
        obtain ⟨WB, hWB⟩ : ∃ WB, WB = wA.alloc (.cells #[.int .i64 1, .int .i64 p2, .int .i64 (whP t).1, .int .i64 (whP t).2, .slice none 0 0, .slice none 0 0] 29) := ⟨_, rfl⟩
        obtain ⟨sb, hsb⟩ : ∃ sb, sb = wA.heap.size := ⟨_, rfl⟩
        have bWB : Below wA.heap.size wA WB := by rw [hWB]; exact below_newA wA _
        have hcW : WB.heap[sb]? = some (.cells #[.int .i64 1, .int .i64 p2, .int .i64 (whP t).1, .int .i64 (whP t).2, .slice none 0 0, .slice none 0 0] 29 (0, 0)) := by rw [hWB, hsb]; exact heap_alloc_new wA _
        rw [← hWB]
        have b1B : Below W1.heap.size W1 WB := HBA.out.trans (bWB.mono HBA.out.size)
        have Sw := HSB.out WB b1B
        refine hK9 _ _ (fun _ => Sw) ?_
        rw [← hsb]
        have HBW : Hid _ := b1B
        have HR6 : Hid _ := HRW.out WB b1B
        have HCN : Hid (∀ j u, ([.int .i64 1, .int .i64 p2, .int .i64 (whP t).1, .int .i64 (whP t).2, .slice none 0 0, .slice none 0 0] : List Value)[j]? = some u → WB.cell? ((⟨sb, 0, none⟩ : Addr).add j) = some u) := fun j u hu => by
          rw [add_noneR, Nat.zero_add]
          exact cell_arr hcW (by simpa using hu)
        clear hK9 hWB hsb bWB hcW b1B
        try simp only [Act.put, List.getElem_toArray, List.getElem_cons_succ, List.getElem_cons_zero, List.setIfInBounds_toArray, List.set_cons_zero, List.set_cons_succ]
        refine lec_one (i := 10) rfl (by kernel_rfl) ?_
        intro K10 hK10
        refine step_append_row rfl _ _ 30 29 6 _ 80 rfl Tryz.underlying30 info_ai rfl (by decide) (by decide) w0.heap.size (.slice xa i xc) xs rfl HR6.out.1 sb rfl [.int .i64 1, .int .i64 p2, .int .i64 (whP t).1, .int .i64 (whP t).2, .slice none 0 0, .slice none 0 0] rfl HCN.out (fun u hu => by simp at hu; rcases hu with rfl | rfl | rfl | rfl | rfl | rfl <;> rfl) hlx HR6.out.2 ?_
        intro v7 w7 h7 g7
        refine hK10 _ _ (fun h => by cases h) ?_
        have HP7 := HPU.out WB w7 v7 HBW.out h7 g7
        obtain ⟨xa7, xc7, ev7, _, _⟩ := own_slice h7.out
        rw [HXL.out] at ev7
        clear hK10 h7 g7
        subst ev7
        try simp only [Act.put, List.getElem_toArray, List.getElem_cons_succ, List.getElem_cons_zero, List.setIfInBounds_toArray, List.set_cons_zero, List.set_cons_succ]
        
        refine lec_one (i := 11) rfl (by kernel_rfl) ?_
        intro K11 hK11
        rw [if_pos (by rfl)]
        go_simp
        refine hK11 _ _ (fun h => by cases h) ?_
        clear hK11
        try simp only [Act.put, List.getElem_toArray, List.getElem_cons_succ, List.getElem_cons_zero, List.setIfInBounds_toArray, List.set_cons_zero, List.set_cons_succ]
        refine lec_done (by kernel_rfl) ?_
        clear Sy HSB HRW HPU HXL HWH
        have HS7 : Hid _ := HP7
        obtain ⟨H1, hH1⟩ : ∃ H1, H1 = (l.take i).foldl hp H := ⟨_, rfl⟩
        have hcb := HP7.hd.cell (k := t) (by rw [H16.out]; exact htl)
        have hfz : w7.frozen? ⟨hb, t, none⟩ = false := fz_of HP7.hd
        have hbl := (Array.getElem?_eq_some_iff.1 HP7.hd).1
        obtain ⟨pb', po', e1, hpl, -, -, c2, -⟩ := (HP.out w7 HP7.low).at (j := i) (by have := HN.out; omega)
        cases e1
        have c2' : w7.cell? ⟨pb, po + i * 4 + 2, none⟩ = some (.int .i64 p2) := by
          have e := HPI.out
          rw [List.getElem?_eq_getElem (by have := HN.out; omega)] at e
          have e' := Option.some.inj e
          rw [e'] at c2
          exact c2
        generalize ((l.take i).foldl hp H).getD t 0 = x0 at hcb
        have q16 : decide ((t : Int) < 16) = true := by simp; omega
        clear c2 hH1 H1 HP7
        go_upto_region 8 with fail
        go_region
        obtain ⟨W8, hW8⟩ : ∃ W8, W8 = (w7.setCell ⟨hb, t, none⟩ (.int .i64 p2)).drew := ⟨_, rfl⟩
        have HS8 : Hid (PlS w0 W8 hb (.slice xa7 (i + 1) xc7) ((l.take (i + 1)).map pI) ((l.take (i + 1)).foldl hp H)) := by
          have z := (HS7.out.setH t p2).below (Below.refl _ _).drew
          rw [← hW8] at z
          rw [pts_map HPI.out, pts_fold HPI.out]
          have e1 : pI ⟨p0, p1, p2, true⟩ = ⟨1, p2, whP t, [], []⟩ := by rw [HTF.out.1]; rfl
          have e2 : hp ((l.take i).foldl hp H) ⟨p0, p1, p2, true⟩ = ((l.take i).foldl hp H).set t p2 := by rw [HTF.out.1]; rfl
          rw [e1, e2]
          exact z
        rw [← hW8]
        clear hW8 HS7 hcb hfz hbl c2' q16 HPI HTF H16 HP HN hlx htl hfl hpl HBW HBA HR6 HCN Sa Sw HS1
        go_wp2_with fail
        go_roundw
        case rel => exact ⟨i + 1, xa7, xc7, by omega, by first | go_num | rfl, rfl, HS8.out⟩
        case measure => (simp [intOf]; try omega)
      | false =>
        have HPU : Hid (∀ (wB WB w7 : World) (v7 : Value) (gl : Nat), Below W1.heap.size W1 wB → gl = wB.heap.size → WB = (wB.alloc (.cells #[.int .i64 (whP f).1, .int .i64 (whP f).2] 24)).alloc (.cells #[.int .i64 31, .int .i64 0, .int .i64 (whP t).1, .int .i64 (whP t).2, .slice (some ⟨gl, 0, none⟩) 1 1, .slice none 0 0] 29) → Row w7 w0.heap.size 29 6 v7 (xs ++ [[.int .i64 31, .int .i64 0, .int .i64 (whP t).1, .int .i64 (whP t).2, .slice (some ⟨gl, 0, none⟩) 1 1, .slice none 0 0]]) → GI w0.heap.size WB w7 (.slice xa i xc) v7 → PlS w0 w7 hb v7 ((l.take i).map pI ++ [⟨31, 0, whP t, [whP f], []⟩]) ((l.take i).foldl hp H)) := fun wB WB w7 v7 gl b hg hW h7 g7 => by
          have b1 := below_newA wB (.cells #[.int .i64 (whP f).1, .int .i64 (whP f).2] 24)
          have b2 := below_newA (wB.alloc (.cells #[.int .i64 (whP f).1, .int .i64 (whP f).2] 24)) (.cells #[.int .i64 31, .int .i64 0, .int .i64 (whP t).1, .int .i64 (whP t).2, .slice (some ⟨gl, 0, none⟩) 1 1, .slice none 0 0] 29)
          rw [← hW] at b2
          have b12 := b1.trans (b2.mono b1.size)
          have k1 := heap_alloc_new wB (.cells #[.int .i64 (whP f).1, .int .i64 (whP f).2] 24)
          have k2 := (b2.block _ (Array.getElem?_eq_some_iff.1 k1).1).trans k1
          rw [← hg] at k2
          exact HPX.out _ _ WB w7 v7 (b.trans (b12.mono b.size)) ⟨some ⟨gl, 0, none⟩, 1, none, 0, rfl, .inr ⟨gl, rfl, rfl, k2⟩, .inl ⟨rfl, rfl, rfl⟩⟩ h7 g7
        clear d2 HPX
        go_upto_region 9 with fail
        have st0 : True := trivial
        go_upto_region 10 with (first
          | (go_at_call 15; first
             | (clear st0; refine (HWH.out _ t htl).mono ?_; rintro e wA ⟨rfl, bA⟩; have HBA : Hid (Below W1.heap.size W1 wA) := bA; clear bA)
             | (refine (HWH.out _ f hfl).mono ?_; rintro e wB ⟨rfl, bB⟩; have HBB : Hid (Below W1.heap.size W1 wB) := HBA.out.trans (bB.mono HBA.out.size); clear bB))
          | (at_builtin
             obtain ⟨gl, hgl⟩ : ∃ gl, gl = wB.heap.size := ⟨_, rfl⟩
             obtain ⟨WB, hWB⟩ : ∃ WB, WB = (wB.alloc (.cells #[.int .i64 (whP f).1, .int .i64 (whP f).2] 24)).alloc (.cells #[.int .i64 31, .int .i64 0, .int .i64 (whP t).1, .int .i64 (whP t).2, .slice (some ⟨gl, 0, none⟩) 1 1, .slice none 0 0] 29) := ⟨_, rfl⟩
             obtain ⟨sb, hsb⟩ : ∃ sb, sb = wB.heap.size + 1 := ⟨_, rfl⟩
             rw [← hsb, ← hgl, ← hWB]
             have b1 := below_newA wB (.cells #[.int .i64 (whP f).1, .int .i64 (whP f).2] 24)
             have b2 := below_newA (wB.alloc (.cells #[.int .i64 (whP f).1, .int .i64 (whP f).2] 24)) (.cells #[.int .i64 31, .int .i64 0, .int .i64 (whP t).1, .int .i64 (whP t).2, .slice (some ⟨gl, 0, none⟩) 1 1, .slice none 0 0] 29)
             have hcW := heap_alloc_new (wB.alloc (.cells #[.int .i64 (whP f).1, .int .i64 (whP f).2] 24)) (.cells #[.int .i64 31, .int .i64 0, .int .i64 (whP t).1, .int .i64 (whP t).2, .slice (some ⟨gl, 0, none⟩) 1 1, .slice none 0 0] 29)
             rw [← hWB] at b2 hcW
             rw [show (wB.alloc (.cells #[.int .i64 (whP f).1, .int .i64 (whP f).2] 24)).heap.size = sb by rw [hsb]; simp] at hcW
             have HRX : Hid _ := HRW.out WB (HBB.out.trans ((b1.trans (b2.mono b1.size)).mono HBB.out.size))
             have HCN : Hid (∀ j u, ([.int .i64 31, .int .i64 0, .int .i64 (whP t).1, .int .i64 (whP t).2, .slice (some ⟨gl, 0, none⟩) 1 1, .slice none 0 0] : List Value)[j]? = some u → WB.cell? ((⟨sb, 0, none⟩ : Addr).add j) = some u) := fun j u hu => by
               rw [add_noneR, Nat.zero_add]
               exact cell_arr hcW (by simpa using hu)
             have HPV : Hid _ := fun w7 v7 => HPU.out wB WB w7 v7 gl HBB.out hgl hWB
             clear hcW b1 b2 hWB hsb hgl
             refine wpList_step fun K hK => ?_
             refine step_append_row rfl _ _ 30 29 6 _ 80 rfl Tryz.underlying30 info_ai rfl (by decide) (by decide) w0.heap.size (.slice xa i xc) xs rfl HRX.out.1 sb rfl [.int .i64 31, .int .i64 0, .int .i64 (whP t).1, .int .i64 (whP t).2, .slice (some ⟨gl, 0, none⟩) 1 1, .slice none 0 0] rfl HCN.out (fun u hu => by simp at hu; rcases hu with rfl | rfl | rfl | rfl | rfl | rfl <;> rfl) hlx HRX.out.2 ?_
             intro v7 w7 h7 g7
             refine hK _ _ ?_
             have HP7 := HPV.out w7 v7 h7 g7
             obtain ⟨xa7, xc7, ev7, _, _⟩ := own_slice h7.out
             rw [HXL.out] at ev7
             clear hK h7 g7
             subst ev7))
        have HS7 : Hid _ := HP7
        have hcb := HP7.hd.cell (k := t) (by rw [H16.out]; exact htl)
        have hcf := HP7.hd.cell (k := f) (by rw [H16.out]; exact hfl)
        have hfz : w7.frozen? ⟨hb, t, none⟩ = false := fz_of HP7.hd
        have hbl := (Array.getElem?_eq_some_iff.1 HP7.hd).1
        generalize ((l.take i).foldl hp H).getD t 0 = x0 at hcb
        obtain ⟨y, hy⟩ : ∃ y, y = ((l.take i).foldl hp H).getD f 0 := ⟨_, rfl⟩
        rw [← hy] at hcf
        have HY : Hid (y = ((l.take i).foldl hp H).getD f 0) := hy
        have q16 : decide ((t : Int) < 16) = true := by simp; omega
        have q17 : decide ((f : Int) < 16) = true := by simp; omega
        clear HP7 hy
        go_region
        obtain ⟨W8, hW8⟩ : ∃ W8, W8 = (w7.setCell ⟨hb, t, none⟩ (.int .i64 y)).drew := ⟨_, rfl⟩
        have HS8 : Hid (PlS w0 W8 hb (.slice xa7 (i + 1) xc7) ((l.take (i + 1)).map pI) ((l.take (i + 1)).foldl hp H)) := by
          have z := (HS7.out.setH t y).below (Below.refl _ _).drew
          rw [← hW8] at z
          rw [pts_map HPI.out, pts_fold HPI.out]
          have e1 : pI ⟨p0, p1, p2, false⟩ = ⟨31, 0, whP t, [whP f], []⟩ := by rw [HTF.out.1, HTF.out.2]; rfl
          have e2 : hp ((l.take i).foldl hp H) ⟨p0, p1, p2, false⟩ = ((l.take i).foldl hp H).set t y := by rw [HY.out, HTF.out.1, HTF.out.2]; rfl
          rw [e1, e2]
          exact z
        rw [← hW8]
        clear hW8 HS7 hcb hcf hfz hbl q16 q17 HPI HTF H16 HP HN hlx htl hfl HY
        go_wp2_with fail
        go_roundw
        case rel => exact ⟨i + 1, xa7, xc7, by omega, by first | go_num | rfl, rfl, HS8.out⟩
        case measure => (simp [intOf]; try omega)
    · obtain rfl : i = pn := by omega
      have HF : Hid (PlS w0 wr hb (.slice xa i xc) (l.map pI) (l.foldl hp H)) := by
        have z := HS.out
        rw [HN.out, List.take_length] at z
        rw [HN.out]
        exact z
      clear HS
      go_wp2_with fail
      go_ret
      exact ⟨_, rfl, HF.out⟩
end Go.Proofs.YtegoemeefmjnoaaGreatDoor
