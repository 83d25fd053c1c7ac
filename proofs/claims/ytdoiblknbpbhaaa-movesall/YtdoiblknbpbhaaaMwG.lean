import Derived.Test.YtdoiblknbpbhaaaMwF
set_option linter.unusedVariables false
set_option linter.unusedSimpArgs false
namespace Go.Proofs.Ytdoiblknbpbhaaa
open Go.ChangeShapes Go.WideShapes Go.ChangeAt Go.RowKit Go.Maps

/-- What each list is once the first i were filled. -/
def filled (Ts : List (List Mv)) (i : Nat) : List (List Mv) := (List.range Ts.length).map fun j => if j < i then List.replicate (Ts.getD j []).length (mkM (j : Int)) else Ts.getD j []
theorem filled_len (Ts : List (List Mv)) (i : Nat) : (filled Ts i).length = Ts.length := by simp [filled]
theorem filled_at {Ts : List (List Mv)} {i j : Nat} (hj : j < Ts.length) : (filled Ts i).getD j [] = if j < i then List.replicate (Ts.getD j []).length (mkM (j : Int)) else Ts.getD j [] := by
  simp [filled, hj]
theorem filled_ln {Ts : List (List Mv)} {i j : Nat} (hj : j < Ts.length) : ((filled Ts i).getD j []).length = (Ts.getD j []).length := by
  rw [filled_at hj]; split <;> simp
/-- The lists that are still to be held, beside what is held. -/
structure PW (w : World) (B kb : Nat) (lv wv : Value) (vs : List Value) (Ts : List (List Mv)) (i : Nat) : Prop where
  box : w.heap[kb]? = some (.cells #[.bool true, lv, wv, .slice none 0 0] 48 (0, 0))
  l : OwnV w B lv vs
  p : PL w B vs (filled Ts i)
  wl : ∃ us, us.length = vs.length ∧ OwnV w B wv us
  lw : ∀ g, lv.ownBlock = some g → wv.ownBlock ≠ some g
theorem PW.ty {w B kb lv wv vs Ts i} (h : PW w B kb lv wv vs Ts i) {j : Nat} (hj : j < vs.length) {g : Nat} (hg : (vs.getD j vn0).ownBlock = some g) : g ≠ kb ∧ lv.ownBlock ≠ some g ∧ g < w.heap.size ∧ wv.ownBlock ≠ some g := by
  rcases (h.p.own j hj).out.2 with ⟨p, _⟩ | ⟨g2, cap, cur, p, _, p3, _⟩
  · rw [p] at hg; cases hg
  · rw [p] at hg; cases hg
    refine ⟨?_, own_not h.l.out p3 (by decide), (Array.getElem?_eq_some_iff.1 p3).1, by obtain ⟨us, _, hw⟩ := h.wl; exact own_not hw.out p3 (by decide)⟩
    rintro rfl
    rw [h.box] at p3
    simp only [Option.some.injEq, Obj.cells.injEq] at p3
    exact absurd p3.2.1 (by decide)
theorem PW.keep {w w' : World} {B kb lv wv vs Ts i} (h : PW w B kb lv wv vs Ts i) (hb : Below w.heap.size w w') : PW w' B kb lv wv vs Ts i :=
  ⟨(hb.block kb (Array.getElem?_eq_some_iff.1 h.box).1).trans h.box, h.l.move fun g hg => hb.block g (own_block h.l.out hg).2, h.p.move fun j hj g hg => hb.block g (own_block (h.p.own j hj).out hg).2, by obtain ⟨us, e, hw⟩ := h.wl; exact ⟨us, e, hw.move fun g hg => hb.block g (own_block hw.out hg).2⟩, h.lw⟩
theorem PW.fill {w w' : World} {B kb lv wv vs Ts i} (h : PW w B kb lv wv vs Ts i) (hi : i < vs.length) (ho : OwnM w' B (vs.getD i vn0) (Ts.getD i []).length (List.replicate (Ts.getD i []).length (mkM (i : Int)))) (on : Only (fun k => (vs.getD i vn0).ownBlock = some k) w w') : PW w' B kb lv wv vs Ts (i + 1) := by
  have hlen : vs.length = Ts.length := by rw [h.p.len, filled_len]
  refine ⟨(on.block kb (Array.getElem?_eq_some_iff.1 h.box).1 fun e => (h.ty hi e).1 rfl).trans h.box, h.l.move fun g hg => on.block g (own_block h.l.out hg).2 fun e => (h.ty hi e).2.1 hg, ⟨by rw [filled_len]; exact hlen, fun j hj => ?_, h.p.ne⟩, by obtain ⟨us, e, hw⟩ := h.wl; exact ⟨us, e, hw.move fun g hg => on.block g (own_block hw.out hg).2 fun e => (h.ty hi e).2.2.2 hg⟩, h.lw⟩
  by_cases e : j = i
  · subst e
    rw [filled_at (by omega), if_pos (by omega)]
    simpa using ho
  · have h1 := h.p.own j hj
    have e2 : (filled Ts (i + 1)).getD j [] = (filled Ts i).getD j [] := by
      rw [filled_at (by omega), filled_at (by omega)]
      by_cases q : j < i
      · rw [if_pos q, if_pos (by omega)]
      · rw [if_neg q, if_neg (by omega)]
    rw [e2]
    exact h1.move (fun g hg => on.block g (own_block h1.out hg).2 fun q => h.p.ne j i hj hi e g hg q)
theorem PW.cells {w B kb lv wv vs Ts i} (h : PW w B kb lv wv vs Ts i) : w.cell? ⟨kb, 0, none⟩ = some (.bool true) ∧ w.cell? ⟨kb, 1, none⟩ = some lv ∧ w.cell? ⟨kb, 2, none⟩ = some wv :=
  ⟨cell_arr h.box rfl, cell_arr h.box rfl, cell_arr h.box rfl⟩
theorem KL.still {w w' : World} {B tb} (h : KL w B tb (.slice none 0 0) (.slice none 0 0) [] [] fun _ => none) (hk : w'.heap[tb]? = w.heap[tb]?) : KL w' B tb (.slice none 0 0) (.slice none 0 0) [] [] fun _ => none :=
  ⟨hk.trans h.box, h.lo, OwnV.nil _ _, OwnI.nil _ _, ⟨fun g x M e => by cases e⟩, fun g e => by cases e⟩
/-- The lists from i on wait, filled; what is held lies elsewhere. -/
structure PX (w : World) (B kb : Nat) (lv wv : Value) (vs : List Value) (Ts : List (List Mv)) (i tb : Nat) (lt mt : Value) (col : Nat → Option (Int × Nat)) : Prop where
  box : w.heap[kb]? = some (.cells #[.bool true, lv, wv, .slice none 0 0] 48 (0, 0))
  l : OwnV w B lv vs
  own : ∀ j, i ≤ j → j < vs.length → OwnM w B (vs.getD j vn0) (Ts.getD j []).length (List.replicate (Ts.getD j []).length (mkM (j : Int)))
  ap : ∀ k, (k = kb ∨ lv.ownBlock = some k ∨ ∃ j, i ≤ j ∧ j < vs.length ∧ (vs.getD j vn0).ownBlock = some k) → ¬ KF tb lt mt col k
theorem PX.next {w w' : World} {B kb lv wv vs Ts i tb lt mt col lt' mt' col'} (h : PX w B kb lv wv vs Ts i tb lt mt col) (hi : i < vs.length)
    (hne : ∀ a b, a < vs.length → b < vs.length → a ≠ b → ∀ g, (vs.getD a vn0).ownBlock = some g → (vs.getD b vn0).ownBlock ≠ some g)
    (on : Only (fun k => KF tb lt mt col k ∨ (vs.getD i vn0).ownBlock = some k) w w') (sub : ∀ k, k < w.heap.size → KF tb lt' mt' col' k → KF tb lt mt col k ∨ (vs.getD i vn0).ownBlock = some k) : PX w' B kb lv wv vs Ts (i + 1) tb lt' mt' col' := by
  have tyk : ∀ g, (vs.getD i vn0).ownBlock = some g → g ≠ kb ∧ lv.ownBlock ≠ some g := fun g hg => by
    rcases (h.own i (Nat.le_refl _) hi).out.2 with ⟨p, _⟩ | ⟨g2, cap, cur, p, _, p3, _⟩
    · rw [p] at hg; cases hg
    · rw [p] at hg; cases hg
      refine ⟨?_, own_not h.l.out p3 (by decide)⟩
      rintro rfl
      rw [h.box] at p3
      simp only [Option.some.injEq, Obj.cells.injEq] at p3
      exact absurd p3.2.1 (by decide)
  have hkb := (Array.getElem?_eq_some_iff.1 h.box).1
  have out : ∀ k, (k = kb ∨ lv.ownBlock = some k ∨ ∃ j, i + 1 ≤ j ∧ j < vs.length ∧ (vs.getD j vn0).ownBlock = some k) → k < w.heap.size ∧ ¬ (KF tb lt mt col k ∨ (vs.getD i vn0).ownBlock = some k) := fun k hk => by
    refine ⟨?_, fun q => ?_⟩
    · rcases hk with rfl | q | ⟨j, j1, j2, q⟩
      · exact hkb
      · exact (own_block h.l.out q).2
      · exact (own_block (h.own j (by omega) j2).out q).2
    · rcases q with q | q
      · refine h.ap k ?_ q
        rcases hk with e | e | ⟨j, j1, j2, e⟩
        · exact .inl e
        · exact .inr (.inl e)
        · exact .inr (.inr ⟨j, by omega, j2, e⟩)
      · rcases hk with e | e | ⟨j, j1, j2, e⟩
        · exact (tyk k q).1 e
        · exact (tyk k q).2 e
        · exact hne j i j2 hi (by omega) k e q
  refine ⟨(on.block kb hkb (out kb (.inl rfl)).2).trans h.box, h.l.move fun g hg => on.block g (out g (.inr (.inl hg))).1 (out g (.inr (.inl hg))).2, fun j j1 j2 => ?_, fun k hk hf => ?_⟩
  · have h1 := h.own j (by omega) j2
    exact h1.move (fun g hg => on.block g (out g (.inr (.inr ⟨j, j1, j2, hg⟩))).1 (out g (.inr (.inr ⟨j, j1, j2, hg⟩))).2)
  · exact (out k hk).2 (sub k (out k hk).1 hf)

/-- A copy of a list is laid beside it. -/
theorem PW.copy {w w5 : World} {B kb lv wa wn wc vs Ts i g} {u : Value} (h : PW w B kb lv (.slice wa wn wc) vs Ts i) (hg : wa = some ⟨g, 0, none⟩) {j : Nat} (hj : j < wn) (hwn : wn = vs.length) (hb : Below w.heap.size w w5) : PW (w5.setCell ⟨g, j, none⟩ u) B kb lv (.slice wa wn wc) vs Ts i := by
  subst hg
  have h5 := h.keep hb
  have hgb : (Value.slice (some ⟨g, 0, none⟩) wn wc).ownBlock = some g := rfl
  obtain ⟨us, eu, hw⟩ := h5.wl
  have hn : us.length = wn := by omega
  refine ⟨?_, h5.l.move fun k hk => heap_set_other fun e => h5.lw k hk (by rw [e]; rfl), h5.p.move fun a ha k hk => heap_set_other fun e => (h5.ty ha hk).2.2.2 (by rw [e]; rfl), ⟨us.set j u, by simpa using eu, ?_⟩, h5.lw⟩
  · rw [heap_set_other]
    · exact h5.box
    · rintro rfl
      exact own_not hw.out h5.box (by decide) hgb
  · have h1 := hw.out
    rw [hn] at h1
    have := own_set h1 j (by omega) u
    refine ⟨?_⟩
    rw [List.length_set, hn]
    exact this

set_option maxRecDepth 100000 in
set_option maxHeartbeats 8000000 in
theorem asWas_any (w : World) {B kb lv wv vs us Ts} (hk : KW w B kb lv wv vs us Ts) (hl : Ts.length ≤ 1000) :
    Calls Try.prog 36 #[.pointer (some ⟨kb, 0, none⟩)] w fun e w' => e = .returned (.bool true) ∧ ∃ m, w' = w.drewN m := by
  obtain ⟨la, lc, rfl, hlc, hlc2⟩ := own_slice hk.l.out
  obtain ⟨ua, uc, rfl, huc, huc2⟩ := own_slice hk.wl.out
  obtain ⟨lb, hlb⟩ : ∃ lb, lb = Ts.length := ⟨_, rfl⟩
  have hvl : vs.length = lb := by rw [hlb]; exact hk.p.len
  have hul : us.length = lb := by rw [hlb]; exact hk.lu
  have hlb9 : lb ≤ 1000 := by omega
  have HK : Hid (KW w B kb (.slice la lb lc) (.slice ua lb uc) vs us Ts) := by rw [hvl, hul] at hk; exact hk
  have HVL : Hid (vs.length = lb) := hvl
  have HUL : Hid (us.length = lb) := hul
  rw [hvl] at hlc
  rw [hul] at huc
  clear hk hvl hul hlb hl
  go_enter Try.func36, Try.ntmps36
  go_wp2_with fail
  go_loopg [3] lb (fun q iv wr => ∃ i : Nat, i ≤ lb ∧ q = lb - i ∧ iv = .int .i64 i ∧ Hid (∃ m, wr = w.drewN m))
  case atStart => exact ⟨0, by omega, by omega, rfl, 0, rfl⟩
  case round =>
    obtain ⟨i, hi, rfl, rfl, HB⟩ := hrel
    have hkr := HK.out.keep (w' := wr) (by obtain ⟨m, e⟩ := HB.out; rw [e]; exact below_drewN (Below.refl _ _) m)
    have k1 : wr.cell? ⟨kb, 1, none⟩ = some (.slice la lb lc) := cell_arr hkr.box rfl
    have k2 : wr.cell? ⟨kb, 2, none⟩ = some (.slice ua lb uc) := cell_arr hkr.box rfl
    by_cases hlt : i < lb
    · obtain ⟨lg, _, e, _, _, _, _⟩ := own_some hkr.l.out (by have := HVL.out; omega)
      have e2 : la = some ⟨lg, 0, none⟩ := by cases e; rfl
      clear e
      subst e2
      obtain ⟨ug, _, e, _, _, _, _⟩ := own_some hkr.wl.out (by have := HUL.out; omega)
      have e2 : ua = some ⟨ug, 0, none⟩ := by cases e; rfl
      clear e
      subst e2
      obtain ⟨av, cv, ev, hIv⟩ := (hkr.p.own i (by have := HVL.out; omega)).mvs
      obtain ⟨au, cu, eu, hIu⟩ := (hkr.u i (by have := HUL.out; omega)).mvs
      obtain ⟨ln, hln⟩ : ∃ ln, ln = (Ts.getD i []).length := ⟨_, rfl⟩
      have kv : wr.cell? ⟨lg, i, none⟩ = some (.slice av ln cv) := by
        have := own_cellV (w := wr) (B := B) (e := 22) (g := lg) (c := lc) (n := lb) (vs := vs) (by have := hkr.l.out; rw [HVL.out] at this; exact this) hlt
        rw [this, ev, hln]
      have ku : wr.cell? ⟨ug, i, none⟩ = some (.slice au ln cu) := by
        have := own_cellV (w := wr) (B := B) (e := 22) (g := ug) (c := uc) (n := lb) (vs := us) (by have := hkr.wl.out; rw [HUL.out] at this; exact this) hlt
        rw [this, eu, hln]
      have HSM : Hid (∀ q, Calls Try.prog 13 #[.slice av ln cv, .slice au ln cu] (wr.drewN q) fun e w'' => e = .returned (.bool true) ∧ ∃ m, w'' = wr.drewN m) := fun q =>
        (sameM_self (wr.drewN q) av au cv cu ln (Ts.getD i []) hln (hIv.below (below_drewN (Below.refl wr.heap.size wr) q) (Nat.le_refl _)) (hIu.below (below_drewN (Below.refl wr.heap.size wr) q) (Nat.le_refl _))).mono fun e w'' ⟨e1, m, e2⟩ => ⟨e1, q + m, by rw [e2]; simp⟩
      have HNX : Hid (∀ q, ∃ m, wr.drewN q = w.drewN m) := fun q => by
        obtain ⟨m, e⟩ := HB.out
        exact ⟨m + q, by rw [e]; simp⟩
      clear hkr ev eu hIv hIu hln
      go_wp2_with fail
      go_quiet (first | (go_at_call 13; exact HSM.out _))
      go_wp2_with fail
      go_roundg (lb - (i + 1))
      case rel => exact ⟨i + 1, by omega, rfl, by go_num, HNX.out _⟩
      case measure => omega
    · go_wp2_with fail
      go_ret
      exact ⟨rfl, HB.out⟩

set_option maxRecDepth 100000 in
set_option maxHeartbeats 8000000 in
theorem lately_any (w : World) {B kb lv wv vs us Ts} (hk : KW w B kb lv wv vs us Ts) (hl : Ts.length ≤ 1000) (hT : ∀ l ∈ Ts, l.length ≤ 1000000) :
    Calls Try.prog 31 #[.pointer (some ⟨kb, 0, none⟩)] w fun e w' => e = .returned (.bool true) ∧ Below B w w' := by
  obtain ⟨la, lc, rfl, hlc, hlc2⟩ := own_slice hk.l.out
  obtain ⟨ua, uc, rfl, huc, huc2⟩ := own_slice hk.wl.out
  obtain ⟨lb, hlb⟩ : ∃ lb, lb = Ts.length := ⟨_, rfl⟩
  have hvl : vs.length = lb := by rw [hlb]; exact hk.p.len
  have hul : us.length = lb := by rw [hlb]; exact hk.lu
  have hkb : kb < w.heap.size := (Array.getElem?_eq_some_iff.1 hk.box).1
  have hlb9 : lb ≤ 1000 := by omega
  have HK : Hid (KW w B kb (.slice la lb lc) (.slice ua lb uc) vs us Ts) := by rw [hvl, hul] at hk; exact hk
  have HVL : Hid (vs.length = lb) := hvl
  have HUL : Hid (us.length = lb) := hul
  have HLB : Hid (lb = Ts.length) := hlb
  have HT : Hid _ := hT
  have HAW : Hid _ := asWas_any w HK.out (by omega)
  have hBw : B ≤ w.heap.size := by have := hk.lo; omega
  rw [hvl] at hlc
  rw [hul] at huc
  clear hk hvl hul hlb hT hl
  go_enter Try.func31, Try.ntmps31
  go_wp2_with fail
  refine Calls.mono HAW.out ?_
  rintro e w0 ⟨rfl, m0, rfl⟩
  obtain ⟨wd, hwd⟩ : ∃ wd, wd = w.drewN m0 := ⟨_, rfl⟩
  rw [← hwd]
  have b0 : Below w.heap.size w wd := by rw [hwd]; exact below_drewN (Below.refl _ _) m0
  obtain ⟨w1, hw1⟩ : ∃ w1, w1 = wd.alloc (.cells #[.bool false, .slice none 0 0, .slice none 0 0, .slice none 0 0] 48) := ⟨_, rfl⟩
  have b1 : Below wd.heap.size wd w1 := by rw [hw1]; exact (Below.refl _ _).alloc (Nat.le_refl _) _
  have hBd : B ≤ wd.heap.size := by have := b0.size; omega
  have HKT2 : Hid (KL w1 B wd.heap.size (.slice none 0 0) (.slice none 0 0) [] [] fun _ => none) := by
    refine ⟨by rw [hw1]; exact heap_alloc_new _ _, hBd, OwnV.nil _ _, OwnI.nil _ _, ⟨fun g x M h => by cases h⟩, fun g h => by cases h⟩
  have HW1 : Hid (w1 = wd.alloc (.cells #[.bool false, .slice none 0 0, .slice none 0 0, .slice none 0 0] 48)) := hw1
  have HBB : Hid (Below B w w1) := (b0.trans (b1.mono b0.size)).mono hBw
  have hkr := (HK.out.keep b0).keep b1
  have k1 : w1.cell? ⟨kb, 1, none⟩ = some (.slice la lb lc) := cell_arr hkr.box rfl
  have HP0 : Hid (PW w1 B kb (.slice la lb lc) (.slice ua lb uc) vs Ts 0) := ⟨hkr.box, hkr.l, ⟨by rw [filled_len]; exact hkr.p.len, fun j hj => by
        have h1 := hkr.p.own j hj
        have e : (filled Ts 0).getD j [] = Ts.getD j [] := by rw [filled_at (by have := hkr.p.len; omega), if_neg (by omega)]
        rw [e]; exact h1, hkr.p.ne⟩, ⟨us, by have := HUL.out; have := HVL.out; omega, by have := hkr.wl; exact this⟩, hkr.lw⟩
  have HNE : Hid (∀ a b, a < vs.length → b < vs.length → a ≠ b → ∀ g, (vs.getD a vn0).ownBlock = some g → (vs.getD b vn0).ownBlock ≠ some g) := hkr.p.ne
  have hkbd : kb < wd.heap.size := by have := b0.size; omega
  clear hkr b0 b1 hw1 hwd HAW
  go_wp2_with fail
  rw [← HW1.out]
  clear k1
  go_loopg [4] lb (fun q iv wq => ∃ i : Nat, i ≤ lb ∧ q = lb - i ∧ iv = .int .i64 i ∧ Hid (PW wq B kb (.slice la lb lc) (.slice ua lb uc) vs Ts i) ∧ Hid (KL wq B wd.heap.size (.slice none 0 0) (.slice none 0 0) [] [] fun _ => none) ∧ Hid (Below B w wq))
  case atStart => exact ⟨0, by omega, by omega, rfl, HP0.out, HKT2.out, HBB.out⟩
  case round =>
    clear HP0 HKT2 HBB
    obtain ⟨i, hi, rfl, rfl, HP, HKT2, HBB⟩ := hrel
    have k1 := HP.out.cells.2.1
    by_cases hlt2 : i < lb
    · obtain ⟨lg, _, e, _, _, _, _⟩ := own_some HP.out.l.out (by have := HVL.out; omega)
      have e2 : la = some ⟨lg, 0, none⟩ := by cases e; rfl
      clear e
      subst e2
      have hvi : i < vs.length := by have := HVL.out; omega
      have ho := HP.out.p.own i hvi
      rw [filled_at (by have := HLB.out; omega), if_neg (by omega)] at ho
      obtain ⟨av, cv, ev, _⟩ := ho.mvs
      obtain ⟨ln, hln⟩ : ∃ ln, ln = (Ts.getD i []).length := ⟨_, rfl⟩
      have hlnm : ln ≤ 1000000 := by
        rw [hln]
        have hit : i < Ts.length := by have := HLB.out; omega
        have e : Ts.getD i [] = Ts[i] := by simp [hit]
        rw [e]; exact HT.out _ (List.getElem_mem hit)
      have kv : wr.cell? ⟨lg, i, none⟩ = some (.slice av ln cv) := by
        have := own_cellV (w := wr) (B := B) (e := 22) (g := lg) (c := lc) (n := lb) (vs := vs) (by have := HP.out.l.out; rw [HVL.out] at this; exact this) hlt2
        rw [this, ev, hln]
      have HO : Hid (OwnM wr B (.slice av ln cv) ln (Ts.getD i [])) := by have := ho; rw [ev, ← hln] at this; exact this
      have HEV : Hid (vs.getD i vn0 = .slice av ln cv) := by rw [hln]; exact ev
      have HLN : Hid (ln = (Ts.getD i []).length) := hln
      clear ho ev hln
      go_wp2_with fail
      refine (fill_any wr HO.out (by omega) i (by omega)).mono ?_
      rintro e w3 ⟨rfl, O3, on3⟩
      have HPN : Hid (PW w3 B kb (.slice (some ⟨lg, 0, none⟩) lb lc) (.slice ua lb uc) vs Ts (i + 1)) := HP.out.fill hvi (by rw [HEV.out, ← HLN.out]; exact O3) (by rw [HEV.out]; exact on3)
      have HKN : Hid _ := HKT2.out.still (on3.block _ HKT2.out.nes.1 fun q => by
        have h1 := own_not HO.out.out HKT2.out.box (by decide)
        exact h1 q)
      have HBN : Hid (Below B w w3) := HBB.out.trans (on3.below (by have := HKT2.out.lo; have := HKT2.out.nes.1; omega) fun k q => (own_block HO.out.out q).1)
      have hkt3 := HKN.out.nes.1
      have hk3 := (Array.getElem?_eq_some_iff.1 HPN.out.box).1
      obtain ⟨us3, hus3, hw3⟩ := HPN.out.wl
      have hus4 : us3.length = lb := by have := HVL.out; omega
      have hw3' : w3.ownsRow B 22 1 (.slice ua lb uc) lb us3 := by have := hw3.out; rw [hus4] at this; exact this
      obtain ⟨ug, _, e, _, _, _, _⟩ := own_some hw3' (by omega)
      have e2 : ua = some ⟨ug, 0, none⟩ := by cases e; rfl
      clear e
      subst e2
      have kv3 := own_cellV (w := w3) (B := B) (e := 22) (g := lg) (c := lc) (n := lb) (vs := vs) (by have := HPN.out.l.out; rw [HVL.out] at this; exact this) hlt2
      rw [HEV.out] at kv3
      have HSS : Hid (∀ w', Below w3.heap.size w3 w' → (fun w' : World => w'.cell? ⟨kb, 1, none⟩ = some (.slice (some ⟨lg, 0, none⟩) lb lc) ∧ w'.cell? ⟨kb, 2, none⟩ = some (.slice (some ⟨ug, 0, none⟩) lb uc) ∧ w'.cell? ⟨lg, i, none⟩ = some (.slice av ln cv)) w') := fun w' hb => by
        have hb1 := hb.block kb hk3
        have hlg := (own_block HPN.out.l.out (g := lg) rfl).2
        exact ⟨cell_arr (hb1.trans HPN.out.box) rfl, cell_arr (hb1.trans HPN.out.box) rfl, (World.cell?_of_block (hb.block lg hlg)).trans kv3⟩
      have hug := (own_block hw3' (g := ug) rfl).2
      obtain ⟨zo, hzo⟩ : ∃ z, w3.cell? ⟨ug, i, none⟩ = some z := ⟨_, own_cellV hw3' hlt2⟩
      have hfz := own_fz hw3' i
      have HOB : Hid (w3.heap.size ≤ w3.drew.heap.size) := by show _ ≤ _; simp
      have HM3 : Hid (Mvs w3 av cv (List.replicate ln (mkM (i : Int)))) := by obtain ⟨_, _, e, hM⟩ := O3.mvs; cases e; exact hM
      have HST : Hid (∀ (w5 : World) (u : Value), Below w3.heap.size w3 w5 → PW (w5.setCell ⟨ug, i, none⟩ u) B kb (.slice (some ⟨lg, 0, none⟩) lb lc) (.slice (some ⟨ug, 0, none⟩) lb uc) vs Ts (i + 1) ∧ KL (w5.setCell ⟨ug, i, none⟩ u) B wd.heap.size (.slice none 0 0) (.slice none 0 0) [] [] (fun _ => none) ∧ Below B w (w5.setCell ⟨ug, i, none⟩ u) ∧ (fun w' : World => w'.cell? ⟨kb, 1, none⟩ = some (.slice (some ⟨lg, 0, none⟩) lb lc) ∧ w'.cell? ⟨kb, 2, none⟩ = some (.slice (some ⟨ug, 0, none⟩) lb uc) ∧ w'.cell? ⟨lg, i, none⟩ = some (.slice av ln cv)) (w5.setCell ⟨ug, i, none⟩ u)) := fun w5 u hb => by
        have hne : wd.heap.size ≠ ug := fun e => own_not hw3' HKN.out.box (by decide) (by rw [e]; rfl)
        have hnk : kb ≠ ug := fun e => own_not hw3' HPN.out.box (by decide) (by rw [e]; rfl)
        have hnl : lg ≠ ug := fun e => HPN.out.lw lg rfl (by rw [e]; rfl)
        have hS := HSS.out w5 hb
        refine ⟨HPN.out.copy rfl hlt2 (by have := HVL.out; omega) hb, (HKN.out.keep hb).still (heap_set_other hne), (HBN.out.trans (hb.mono (by have := HKN.out.lo; omega))).setCell (own_block hw3' (g := ug) rfl).1 _, ?_⟩
        refine ⟨(World.cell?_of_block (heap_set_other hnk)).trans hS.1, (World.cell?_of_block (heap_set_other hnk)).trans hS.2.1, (World.cell?_of_block (heap_set_other hnl)).trans hS.2.2⟩
      have S0 : (fun w' : World => w'.cell? ⟨kb, 1, none⟩ = some (.slice (some ⟨lg, 0, none⟩) lb lc) ∧ w'.cell? ⟨kb, 2, none⟩ = some (.slice (some ⟨ug, 0, none⟩) lb uc) ∧ w'.cell? ⟨lg, i, none⟩ = some (.slice av ln cv)) w3.drew := HSS.out _ (Below.refl _ _).drew
      clear O3 on3 HP HKT2 HBB k1 kv kv3 hw3 hw3' hus3 hus4 HPN HKN HBN hkt3 HO HLN
      go_wp2_with fail
      refine led_start (S := fun w' : World => w'.cell? ⟨kb, 1, none⟩ = some (.slice (some ⟨lg, 0, none⟩) lb lc) ∧ w'.cell? ⟨kb, 2, none⟩ = some (.slice (some ⟨ug, 0, none⟩) lb uc) ∧ w'.cell? ⟨lg, i, none⟩ = some (.slice av ln cv)) (z := 100) (by kernel_rfl) ?_
      show led _ _ _ _ _ 15 _ _ _
      refine led_takeF (i := 0) (v := ?v0) rfl (by kernel_rfl) (by kernel_rfl) (by kernel_rfl) (by kernel_rfl) (fun _ _ _ h => h) (.inl ⟨by rfl, ?hy0⟩) S0 ?rest0
      case hy0 =>
        rintro w' ⟨h1, h2, h3⟩
        go_simp
        all_goals with_reducible rfl
      try simp only [Act.put, List.setIfInBounds_toArray, List.set_cons_zero, List.set_cons_succ]
      refine led_takeF (i := 1) (v := ?v1) rfl (by kernel_rfl) (by kernel_rfl) (by kernel_rfl) (by kernel_rfl) (fun _ _ _ h => h) (.inl ⟨by rfl, ?hy1⟩) S0 ?rest1
      case hy1 =>
        rintro w' ⟨h1, h2, h3⟩
        go_simp
        all_goals with_reducible rfl
      try simp only [Act.put, List.setIfInBounds_toArray, List.set_cons_zero, List.set_cons_succ]
      refine led_takeF (i := 2) (v := ?v2) rfl (by kernel_rfl) (by kernel_rfl) (by kernel_rfl) (by kernel_rfl) (fun _ _ _ h => h) (.inl ⟨by rfl, ?hy2⟩) S0 ?rest2
      case hy2 =>
        rintro w' ⟨h1, h2, h3⟩
        go_simp
        all_goals with_reducible rfl
      try simp only [Act.put, List.setIfInBounds_toArray, List.set_cons_zero, List.set_cons_succ]
      refine led_takeF (i := 3) (v := ?v3) rfl (by kernel_rfl) (by kernel_rfl) (by kernel_rfl) (by kernel_rfl) (fun _ _ _ h => h) (.inl ⟨by rfl, ?hy3⟩) S0 ?rest3
      case hy3 =>
        rintro w' ⟨h1, h2, h3⟩
        go_simp
        all_goals with_reducible rfl
      try simp only [Act.put, List.setIfInBounds_toArray, List.set_cons_zero, List.set_cons_succ]
      refine led_takeF (i := 4) (v := ?v4) rfl (by kernel_rfl) (by kernel_rfl) (by kernel_rfl) (by kernel_rfl) (fun _ _ _ h => h) (.inl ⟨by rfl, ?hy4⟩) S0 ?rest4
      case hy4 =>
        rintro w' ⟨h1, h2, h3⟩
        go_simp
        all_goals with_reducible rfl
      try simp only [Act.put, List.setIfInBounds_toArray, List.set_cons_zero, List.set_cons_succ]
      refine led_takeF (i := 5) (v := ?v5) rfl (by kernel_rfl) (by kernel_rfl) (by kernel_rfl) (by kernel_rfl) (fun _ _ _ h => h) (.inl ⟨by rfl, ?hy5⟩) S0 ?rest5
      case hy5 =>
        rintro w' ⟨h1, h2, h3⟩
        go_simp
        all_goals with_reducible rfl
      try simp only [Act.put, List.setIfInBounds_toArray, List.set_cons_zero, List.set_cons_succ]
      refine led_takeF (i := 6) (v := ?v6) rfl (by kernel_rfl) (by kernel_rfl) (by kernel_rfl) (by kernel_rfl) (fun _ _ _ h => h) (.inl ⟨by rfl, ?hy6⟩) S0 ?rest6
      case hy6 =>
        rintro w' ⟨h1, h2, h3⟩
        go_simp
        all_goals with_reducible rfl
      try simp only [Act.put, List.setIfInBounds_toArray, List.set_cons_zero, List.set_cons_succ]
      refine led_takeF (i := 7) (v := ?v7) rfl (by kernel_rfl) (by kernel_rfl) (by kernel_rfl) (by kernel_rfl) (fun _ _ _ h => h) (.inl ⟨by rfl, ?hy7⟩) S0 ?rest7
      case hy7 =>
        rintro w' ⟨h1, h2, h3⟩
        go_simp
        all_goals with_reducible rfl
      try simp only [Act.put, List.setIfInBounds_toArray, List.set_cons_zero, List.set_cons_succ]
      refine led_takeF (i := 8) (v := ?v8) rfl (by kernel_rfl) (by kernel_rfl) (by kernel_rfl) (by kernel_rfl) (fun _ _ _ h => h) (.inl ⟨by rfl, ?hy8⟩) S0 ?rest8
      case hy8 =>
        rintro w' ⟨h1, h2, h3⟩
        go_simp
        all_goals with_reducible rfl
      try simp only [Act.put, List.setIfInBounds_toArray, List.set_cons_zero, List.set_cons_succ]
      refine led_takeF (i := 9) (v := ?v9) rfl (by kernel_rfl) (by kernel_rfl) (by kernel_rfl) (by kernel_rfl) (fun _ _ _ h => h) (.inl ⟨by rfl, ?hy9⟩) S0 ?rest9
      case hy9 =>
        rintro w' ⟨h1, h2, h3⟩
        go_simp
        all_goals with_reducible rfl
      try simp only [Act.put, List.setIfInBounds_toArray, List.set_cons_zero, List.set_cons_succ]
      refine led_takeF (i := 10) (v := ?v10) rfl (by kernel_rfl) (by kernel_rfl) (by kernel_rfl) (by kernel_rfl) (fun _ _ _ h => h) (.inl ⟨by rfl, ?hy10⟩) S0 ?rest10
      case hy10 =>
        rintro w' ⟨h1, h2, h3⟩
        go_simp
        all_goals with_reducible rfl
      try simp only [Act.put, List.setIfInBounds_toArray, List.set_cons_zero, List.set_cons_succ]
      refine led_takeF (i := 11) (v := ?v11) rfl (by kernel_rfl) (by kernel_rfl) (by kernel_rfl) (by kernel_rfl) (fun _ _ _ h => h) (.inl ⟨by rfl, ?hy11⟩) S0 ?rest11
      case hy11 =>
        rintro w' ⟨h1, h2, h3⟩
        go_simp
        all_goals with_reducible rfl
      try simp only [Act.put, List.setIfInBounds_toArray, List.set_cons_zero, List.set_cons_succ]
      refine led_one (i := 12) rfl (by kernel_rfl) ?_
      intro K12 hK12
      refine step_append_mvs rfl _ _ rfl w3.heap.size (.slice none 0 0) 0 [] (by simp [Act.eval]) (OwnM.nil _ _) av ln cv (List.replicate ln (mkM (i : Int))) (by simp [Act.eval]) (by simp) (HM3.out.below (w' := w3.drew) (Below.refl _ _).drew (Nat.le_refl _)) (by omega) HOB.out ?_
      intro v5 w5 h5 g5
      have hb5 : Below w3.heap.size w3 w5 := ((Below.refl w3.heap.size w3).drew).trans g5.nil
      have SA := HSS.out w5 hb5
      refine hK12 _ _ (fun _ => SA) ?_
      clear hK12
      obtain ⟨a5, c5, e5, _, _⟩ := own_slice h5.out
      subst e5
      have k5 : w5.cell? ⟨ug, i, none⟩ = some zo := (hb5.cell (p := ⟨ug, i, none⟩) hug).trans hzo
      have f5 : w5.frozen? ⟨ug, i, none⟩ = false := (hb5.frozen (p := ⟨ug, i, none⟩) hug).trans hfz
      have NN := HST.out w5 (.slice a5 ln c5) hb5
      have N4 := NN.2.2.2
      have HN1 : Hid _ := NN.1
      have HN2 : Hid _ := NN.2.1
      have HN3 : Hid _ := NN.2.2.1
      clear NN
      try simp only [Act.put, List.setIfInBounds_toArray, List.set_cons_zero, List.set_cons_succ]
      refine led_one (i := 13) rfl (by kernel_rfl) ?_
      intro K13 hK13
      rw [if_pos (by rfl)]
      go_simp
      refine hK13 _ _ (fun _ => SA) ?_
      clear hK13
      try simp only [Act.put, List.setIfInBounds_toArray, List.set_cons_zero, List.set_cons_succ]
      refine led_one (i := 14) rfl (by kernel_rfl) ?_
      intro K14 hK14
      rw [if_pos (by rfl)]
      go_simp
      refine hK14 _ _ (fun _ => N4) ?_
      clear hK14 S0 N4 SA h5 g5 hb5 k5 f5
      refine led_done (by kernel_rfl) ?_
      go_wp2_with fail
      go_roundg (lb - (i + 1))
      case rel => exact ⟨i + 1, by omega, rfl, by go_num, HN1.out, HN2.out, HN3.out⟩
      case measure => omega
    · have HX0 : Hid (PX wr B kb (.slice la lb lc) (.slice ua lb uc) vs Ts 0 wd.heap.size (.slice none 0 0) (.slice none 0 0) fun _ => none) := by
        refine ⟨HP.out.box, HP.out.l, fun j _ hj => ?_, fun k hk hf => ?_⟩
        · have h1 := HP.out.p.own j hj
          rw [filled_at (by have := HLB.out; have := HVL.out; omega), if_pos (by have := HVL.out; omega)] at h1
          simpa using h1
        · have hkt : k = wd.heap.size := by
            rcases hf with q | q | q | q
            · exact q
            · cases q
            · cases q
            · cases q
          subst hkt
          have hty := HKT2.out.box
          rcases hk with q | q | ⟨j, _, hj, q⟩
          · omega
          · exact own_not HP.out.l.out hty (by decide) q
          · exact own_not (HP.out.p.own j hj).out hty (by decide) q
      clear HP
      go_wp2_with fail
      clear k1
      go_loopg [5] lb (fun q iv wq => ∃ (i : Nat) (lt mt : Value) (vt : List Value) (mst : List Int) (col : Nat → Option (Int × Nat)), i ≤ lb ∧ q = lb - i ∧ iv = .int .i64 i ∧ Hid (PX wq B kb (.slice la lb lc) (.slice ua lb uc) vs Ts i wd.heap.size lt mt col) ∧ Hid (KL wq B wd.heap.size lt mt vt mst col) ∧ Hid (KE vt mst col) ∧ Hid (mst.length ≤ i * 41) ∧ Hid (Below B w wq))
      case atStart => exact ⟨0, _, _, [], [], _, by omega, by omega, rfl, HX0.out, HKT2.out, ⟨rfl, fun i hi => by simp at hi, fun x hx => by simp at hx⟩, by show _ ≤ _; simp, HBB.out⟩
      case round =>
        clear HX0 HKT2 HBB
        obtain ⟨i, lt, mt, vt, mst, col, hi, rfl, rfl, HX, HKT2, HKE, HML, HBB⟩ := hrel
        have k1 : wr.cell? ⟨kb, 1, none⟩ = some (.slice la lb lc) := cell_arr HX.out.box rfl
        by_cases hlt3 : i < lb
        · obtain ⟨lg, _, e, _, _, _, _⟩ := own_some HX.out.l.out (by have := HVL.out; omega)
          have e2 : la = some ⟨lg, 0, none⟩ := by cases e; rfl
          clear e
          subst e2
          have hvi : i < vs.length := by have := HVL.out; omega
          have ho := HX.out.own i (Nat.le_refl _) hvi
          obtain ⟨av, cv, ev, _⟩ := ho.mvs
          obtain ⟨ln, hln⟩ : ∃ ln, ln = (Ts.getD i []).length := ⟨_, rfl⟩
          have hlnm : ln ≤ 1000000 := by
            rw [hln]
            have hit : i < Ts.length := by have := HLB.out; omega
            have e : Ts.getD i [] = Ts[i] := by simp [hit]
            rw [e]; exact HT.out _ (List.getElem_mem hit)
          have kv : wr.cell? ⟨lg, i, none⟩ = some (.slice av ln cv) := by
            have := own_cellV (w := wr) (B := B) (e := 22) (g := lg) (c := lc) (n := lb) (vs := vs) (by have := HX.out.l.out; rw [HVL.out] at this; exact this) hlt3
            rw [this, ev, hln]
          have HO : Hid (OwnM wr B (.slice av ln cv) ln (List.replicate ln (mkM (i : Int)))) := by have := ho; rw [ev, ← hln] at this; exact this
          have HEV : Hid (vs.getD i vn0 = .slice av ln cv) := by rw [hln]; exact ev
          clear ho ev hln
          have hap : ∀ g, (Value.slice av ln cv).ownBlock = some g → ¬ KF wd.heap.size lt mt col g := fun g hg => HX.out.ap g (.inr (.inr ⟨i, Nat.le_refl _, hvi, by rw [HEV.out]; exact hg⟩))
          have hfr : ∀ g, (Value.slice av ln cv).ownBlock = some g → col g = none ∧ mt.ownBlock ≠ some g ∧ lt.ownBlock ≠ some g ∧ g ≠ wd.heap.size := fun g hg => by
            have hn := hap g hg
            refine ⟨?_, fun q => hn (.inr (.inr (.inl q))), fun q => hn (.inr (.inl q)), fun q => hn (.inl q)⟩
            cases hc : col g with
            | none => rfl
            | some p => exact absurd (.inr (.inr (.inr (by rw [hc]; rfl)))) hn
          obtain ⟨col1, c1, K1, F1, S1⟩ := HKT2.out.fresh HO.out (Only.refl _ _) hfr
          have HOLD : Hid _ := hold_any wr (m := i) K1 (HKE.out.mono c1) F1 (by omega) (by omega) (by have := HML.out; omega)
          have HS1 : Hid _ := S1
          clear hap hfr c1 K1 F1 S1
          go_wp2_with fail
          refine Calls.mono HOLD.out ?_
          rintro e w3 ⟨rfl, lt', mt', vt', mst', col', far', n', l1, l2, H3⟩
          have ON : Only (fun k => KF wd.heap.size lt mt col k ∨ (vs.getD i vn0).ownBlock = some k) wr w3 := H3.on.mono fun k _ q => by rw [HEV.out]; exact HS1.out k q
          have HXN : Hid _ := HX.out.next hvi HNE.out ON (fun k hk q => by rw [HEV.out]; exact HS1.out k (H3.sub k hk q))
          have HBN : Hid (Below B w w3) := HBB.out.trans (ON.below (by have := HKT2.out.lo; have := HKT2.out.nes.1; omega) fun k q => by
            rcases q with (q | q | q | q) | q
            · have := HKT2.out.lo; omega
            · exact (own_block HKT2.out.l.out q).1
            · exact (own_block HKT2.out.m.out q).1
            · exact (HKT2.out.c.lt q).1
            · rw [HEV.out] at q; exact (own_block HO.out.out q).1)
          have HKN : Hid _ := H3.k
          have HEN : Hid _ := H3.e
          have HMN : Hid (mst'.length ≤ (i + 1) * 41) := by have := HML.out; show _ ≤ _; omega
          clear ON H3 HX HKT2 HKE HML HBB k1 kv HOLD
          go_wp2_with fail
          go_roundg (lb - (i + 1))
          case rel => exact ⟨i + 1, _, _, _, _, _, by omega, rfl, by go_num, HXN.out, HKN.out, HEN.out, HMN.out, HBN.out⟩
          case measure => omega
        · have HWH : Hid _ := whole_now wr HKT2.out HKE.out (by have := HML.out; omega)
          go_wp2_with fail
          refine Calls.mono HWH.out ?_
          rintro e w4 ⟨rfl, b4⟩
          have HF : Hid (Below B w w4) := HBB.out.trans (b4.mono (by have := HKT2.out.lo; have := HKT2.out.nes.1; omega))
          clear b4
          go_wp2_with fail
          go_ret
          exact ⟨rfl, HF.out⟩

set_option maxRecDepth 100000 in
theorem whole_late (w : World) {B kb lv wv vs us Ts} (hk : KW w B kb lv wv vs us Ts) (hl : Ts.length ≤ 1000) (hT : ∀ l ∈ Ts, l.length ≤ 1000000) :
    Calls Try.prog 20 #[.pointer (some ⟨kb, 0, none⟩)] w fun e w' => e = .returned (.bool true) ∧ Below B w w' := by
  have k0 : w.cell? ⟨kb, 0, none⟩ = some (.bool true) := cell_arr hk.box rfl
  have HL : Hid _ := lately_any w hk hl hT
  clear hk hl hT
  go_enter Try.func20, Try.ntmps20
  go_wp2_with fail
  refine Calls.mono HL.out ?_
  rintro e w1 ⟨rfl, b1⟩
  have HB : Hid _ := b1
  clear b1
  go_wp2_with fail
  go_ret
  exact ⟨rfl, HB.out⟩
end Go.Proofs.Ytdoiblknbpbhaaa
