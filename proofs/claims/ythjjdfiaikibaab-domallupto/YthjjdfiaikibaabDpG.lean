import Derived.Test.YthjjdfiaikibaabDpF
set_option linter.unusedVariables false
set_option linter.unusedSimpArgs false
namespace Go.Proofs.Ythjjdfiaikibaab
open Go.ChangeShapes Go.WideShapes Go.ChangeAt Go.RowKit Go.Maps

/-- What each list is once the first i were filled. -/
def filled (Ts : List (List Int)) (i : Nat) : List (List Int) := (List.range Ts.length).map fun j => if j < i then List.replicate (Ts.getD j []).length (-9 - (j : Int)) else Ts.getD j []
theorem filled_len (Ts : List (List Int)) (i : Nat) : (filled Ts i).length = Ts.length := by simp [filled]
theorem filled_at {Ts : List (List Int)} {i j : Nat} (hj : j < Ts.length) : (filled Ts i).getD j [] = if j < i then List.replicate (Ts.getD j []).length (-9 - (j : Int)) else Ts.getD j [] := by
  simp [filled, hj]
theorem filled_ln {Ts : List (List Int)} {i j : Nat} (hj : j < Ts.length) : ((filled Ts i).getD j []).length = (Ts.getD j []).length := by
  rw [filled_at hj]; split <;> simp
/-- The lists that are still to be held, beside what is held. -/
structure PW (w : World) (B kb : Nat) (lv wv : Value) (vs : List Value) (Ts : List (List Int)) (i : Nat) : Prop where
  box : w.heap[kb]? = some (.cells #[.bool true, lv, wv, .slice none 0 0, .slice none 0 0, .slice none 0 0] 30 (0, 0))
  l : OwnV w B lv vs
  p : PL w B vs (filled Ts i)
theorem PW.ty {w B kb lv wv vs Ts i} (h : PW w B kb lv wv vs Ts i) {j : Nat} (hj : j < vs.length) {g : Nat} (hg : (vs.getD j vn0).ownBlock = some g) : g ≠ kb ∧ lv.ownBlock ≠ some g ∧ g < w.heap.size := by
  rcases (h.p.own j hj).out.2 with ⟨p, _⟩ | ⟨g2, cap, cur, p, _, p3, _⟩
  · rw [p] at hg; cases hg
  · rw [p] at hg; cases hg
    refine ⟨?_, own_not h.l.out p3 (by decide), (Array.getElem?_eq_some_iff.1 p3).1⟩
    rintro rfl
    rw [h.box] at p3
    simp only [Option.some.injEq, Obj.cells.injEq] at p3
    exact absurd p3.2.1 (by decide)
theorem PW.keep {w w' : World} {B kb lv wv vs Ts i} (h : PW w B kb lv wv vs Ts i) (hb : Below w.heap.size w w') : PW w' B kb lv wv vs Ts i :=
  ⟨(hb.block kb (Array.getElem?_eq_some_iff.1 h.box).1).trans h.box, h.l.move fun g hg => hb.block g (own_block h.l.out hg).2, h.p.move fun j hj g hg => hb.block g (own_block (h.p.own j hj).out hg).2⟩
theorem PW.fill {w w' : World} {B kb lv wv vs Ts i} (h : PW w B kb lv wv vs Ts i) (hi : i < vs.length) (ho : OwnI w' B (vs.getD i vn0) (Ts.getD i []).length (List.replicate (Ts.getD i []).length (-9 - (i : Int)))) (on : Only (fun k => (vs.getD i vn0).ownBlock = some k) w w') : PW w' B kb lv wv vs Ts (i + 1) := by
  have hlen : vs.length = Ts.length := by rw [h.p.len, filled_len]
  refine ⟨(on.block kb (Array.getElem?_eq_some_iff.1 h.box).1 fun e => (h.ty hi e).1 rfl).trans h.box, h.l.move fun g hg => on.block g (own_block h.l.out hg).2 fun e => (h.ty hi e).2.1 hg, ⟨by rw [filled_len]; exact hlen, fun j hj => ?_, h.p.ne⟩⟩
  by_cases e : j = i
  · subst e
    rw [filled_at (by omega), if_pos (by omega)]
    simpa using ho
  · have h1 := h.p.own j hj
    have e2 : (filled Ts (i + 1)).getD j [] = (filled Ts i).getD j [] := by
      rw [filled_at (by omega), filled_at (by omega)]
      by_cases q : j < i
      · rw [if_pos q, if_pos (by omega)]
      · rw [if_neg q, if_neg (by omega)]
    rw [e2]
    exact ⟨h1.len, own_move h1.out fun g hg => on.block g (own_block h1.out hg).2 fun q => h.p.ne j i hj hi e g hg q⟩
theorem PW.cells {w B kb lv wv vs Ts i} (h : PW w B kb lv wv vs Ts i) : w.cell? ⟨kb, 0, none⟩ = some (.bool true) ∧ w.cell? ⟨kb, 1, none⟩ = some lv ∧ w.cell? ⟨kb, 2, none⟩ = some wv :=
  ⟨cell_arr h.box rfl, cell_arr h.box rfl, cell_arr h.box rfl⟩
theorem KL.still {w w' : World} {B tb} (h : KL w B tb (.slice none 0 0) (.slice none 0 0) [] [] fun _ => none) (hk : w'.heap[tb]? = w.heap[tb]?) : KL w' B tb (.slice none 0 0) (.slice none 0 0) [] [] fun _ => none :=
  ⟨hk.trans h.box, h.lo, OwnV.nil _ _, OwnI.nil _ _, ⟨fun g x M e => by cases e⟩, fun g e => by cases e⟩
/-- The lists from i on wait, filled; what is held lies elsewhere. -/
structure PX (w : World) (B kb : Nat) (lv wv : Value) (vs : List Value) (Ts : List (List Int)) (i tb : Nat) (lt mt : Value) (col : Nat → Option (Value × Nat)) : Prop where
  box : w.heap[kb]? = some (.cells #[.bool true, lv, wv, .slice none 0 0, .slice none 0 0, .slice none 0 0] 30 (0, 0))
  l : OwnV w B lv vs
  own : ∀ j, i ≤ j → j < vs.length → OwnI w B (vs.getD j vn0) (Ts.getD j []).length (List.replicate (Ts.getD j []).length (-9 - (j : Int)))
  ap : ∀ k, (k = kb ∨ lv.ownBlock = some k ∨ ∃ j, i ≤ j ∧ j < vs.length ∧ (vs.getD j vn0).ownBlock = some k) → ¬ KF tb lt mt col k
theorem PX.next {w w' : World} {B kb lv wv vs Ts i tb lt mt col lt' mt' col'} (h : PX w B kb lv wv vs Ts i tb lt mt col) (hi : i < vs.length)
    (hne : ∀ a b, a < vs.length → b < vs.length → a ≠ b → ∀ g, (vs.getD a vn0).ownBlock = some g → (vs.getD b vn0).ownBlock ≠ some g)
    (on : Only (fun k => KF tb lt mt col k ∨ (vs.getD i vn0).ownBlock = some k) w w') (sub : ∀ k, k < w.heap.size → KF tb lt' mt' col' k → KF tb lt mt col k ∨ (vs.getD i vn0).ownBlock = some k) : PX w' B kb lv wv vs Ts (i + 1) tb lt' mt' col' := by
  have tyk : ∀ g, (vs.getD i vn0).ownBlock = some g → g ≠ kb ∧ lv.ownBlock ≠ some g := fun g hg => by
    rcases (h.own i (Nat.le_refl _) hi).out.2 with ⟨p, _⟩ | ⟨g2, cap, cur, p, _, p3, _⟩
    · rw [p] at hg; cases hg
    · rw [p] at hg; cases hg
      refine ⟨?_, own_not h.l.out p3 (by decide)⟩
      rintro rfl
      rw [h.box] at p3
      simp only [Option.some.injEq, Obj.cells.injEq] at p3
      exact absurd p3.2.1 (by decide)
  have hkb := (Array.getElem?_eq_some_iff.1 h.box).1
  have out : ∀ k, (k = kb ∨ lv.ownBlock = some k ∨ ∃ j, i + 1 ≤ j ∧ j < vs.length ∧ (vs.getD j vn0).ownBlock = some k) → k < w.heap.size ∧ ¬ (KF tb lt mt col k ∨ (vs.getD i vn0).ownBlock = some k) := fun k hk => by
    refine ⟨?_, fun q => ?_⟩
    · rcases hk with rfl | q | ⟨j, j1, j2, q⟩
      · exact hkb
      · exact (own_block h.l.out q).2
      · exact (own_block (h.own j (by omega) j2).out q).2
    · rcases q with q | q
      · refine h.ap k ?_ q
        rcases hk with e | e | ⟨j, j1, j2, e⟩
        · exact .inl e
        · exact .inr (.inl e)
        · exact .inr (.inr ⟨j, by omega, j2, e⟩)
      · rcases hk with e | e | ⟨j, j1, j2, e⟩
        · exact (tyk k q).1 e
        · exact (tyk k q).2 e
        · exact hne j i j2 hi (by omega) k e q
  refine ⟨(on.block kb hkb (out kb (.inl rfl)).2).trans h.box, h.l.move fun g hg => on.block g (out g (.inr (.inl hg))).1 (out g (.inr (.inl hg))).2, fun j j1 j2 => ?_, fun k hk hf => ?_⟩
  · have h1 := h.own j (by omega) j2
    exact ⟨h1.len, own_move h1.out fun g hg => on.block g (out g (.inr (.inr ⟨j, j1, j2, hg⟩))).1 (out g (.inr (.inr ⟨j, j1, j2, hg⟩))).2⟩
  · exact (out k hk).2 (sub k (out k hk).1 hf)
set_option maxRecDepth 100000 in
set_option maxHeartbeats 8000000 in
theorem whole_late (w : World) {B kb lv wv vs us Ts} (hk : KW w B kb lv wv vs us Ts) (hl : Ts.length ≤ 1000) (hT : ∀ l ∈ Ts, l.length ≤ 1000000) :
    Calls Try.prog 17 #[.pointer (some ⟨kb, 0, none⟩)] w fun e w' => e = .returned (.bool true) ∧ Below B w w' := by
  have k0 : w.cell? ⟨kb, 0, none⟩ = some (.bool true) := cell_arr hk.box rfl
  obtain ⟨la, lc, rfl, hlc, hlc2⟩ := own_slice hk.l.out
  obtain ⟨ua, uc, rfl, huc, huc2⟩ := own_slice hk.wl.out
  obtain ⟨lb, hlb⟩ : ∃ lb, lb = Ts.length := ⟨_, rfl⟩
  have hvl : vs.length = lb := by rw [hlb]; exact hk.p.len
  have hul : us.length = lb := by rw [hlb]; exact hk.lu
  have hkb : kb < w.heap.size := (Array.getElem?_eq_some_iff.1 hk.box).1
  have hlb9 : lb ≤ 1000 := by omega
  have HK : Hid (KW w B kb (.slice la lb lc) (.slice ua lb uc) vs us Ts) := by rw [hvl, hul] at hk; exact hk
  have HVL : Hid (vs.length = lb) := hvl
  have HUL : Hid (us.length = lb) := hul
  have HLB : Hid (lb = Ts.length) := hlb
  have HT : Hid _ := hT
  rw [hvl] at hlc
  rw [hul] at huc
  obtain ⟨w1, hw1⟩ : ∃ w1, w1 = w.alloc (.cells #[.bool false, .slice none 0 0, .slice none 0 0, .slice none 0 0, .slice none 0 0, .slice none 0 0] 30) := ⟨_, rfl⟩
  have b1 : Below w.heap.size w w1 := by rw [hw1]; exact (Below.refl _ _).alloc (Nat.le_refl _) _
  have hBw : B ≤ w.heap.size := by have := hk.lo; omega
  have HKT : Hid (KL w1 B w.heap.size (.slice none 0 0) (.slice none 0 0) [] [] fun _ => none) := by
    refine ⟨by rw [hw1]; exact heap_alloc_new _ _, hBw, OwnV.nil _ _, OwnI.nil _ _, ⟨fun g x M h => by cases h⟩, fun g h => by cases h⟩
  obtain ⟨tb, htb⟩ : ∃ tb, tb = w.heap.size := ⟨_, rfl⟩
  have HB1 : Hid (Below w.heap.size w w1) := b1
  have HW1 : Hid (w1 = w.alloc (.cells #[.bool false, .slice none 0 0, .slice none 0 0, .slice none 0 0, .slice none 0 0, .slice none 0 0] 30)) := hw1
  have HTB : Hid (tb = w.heap.size) := htb
  clear hk hvl hul hlb hT hl b1 hw1 htb
  go_enter Try.func17, Try.ntmps17
  go_wp2_with fail
  rw [← HW1.out]
  go_loopg [4] lb (fun q iv wr => ∃ i : Nat, i ≤ lb ∧ q = lb - i ∧ iv = .int .i64 i ∧ Hid (Below w1.heap.size w1 wr))
  case atStart => exact ⟨0, by omega, by omega, rfl, Below.refl _ _⟩
  case round =>
    clear k0
    obtain ⟨i, hi, rfl, rfl, HB⟩ := hrel
    have hkr := (HK.out.keep HB1.out).keep HB.out
    have k1 : wr.cell? ⟨kb, 1, none⟩ = some (.slice la lb lc) := cell_arr hkr.box rfl
    have k2 : wr.cell? ⟨kb, 2, none⟩ = some (.slice ua lb uc) := cell_arr hkr.box rfl
    by_cases hlt : i < lb
    · obtain ⟨lg, _, e, _, _, _, _⟩ := own_some hkr.l.out (by have := HVL.out; omega)
      have e2 : la = some ⟨lg, 0, none⟩ := by cases e; rfl
      clear e
      subst e2
      obtain ⟨ug, _, e, _, _, _, _⟩ := own_some hkr.wl.out (by have := HUL.out; omega)
      have e2 : ua = some ⟨ug, 0, none⟩ := by cases e; rfl
      clear e
      subst e2
      obtain ⟨av, cv, ev, hIv⟩ := (hkr.p.own i (by have := HVL.out; omega)).ints
      obtain ⟨au, cu, eu, hIu⟩ := (hkr.u i (by have := HUL.out; omega)).ints
      obtain ⟨ln, hln⟩ : ∃ ln, ln = (Ts.getD i []).length := ⟨_, rfl⟩
      have kv : wr.cell? ⟨lg, i, none⟩ = some (.slice av ln cv) := by
        have := own_cellV (w := wr) (B := B) (e := 27) (g := lg) (c := lc) (n := lb) (vs := vs) (by have := hkr.l.out; rw [HVL.out] at this; exact this) hlt
        rw [this, ev, hln]
      have ku : wr.cell? ⟨ug, i, none⟩ = some (.slice au ln cu) := by
        have := own_cellV (w := wr) (B := B) (e := 27) (g := ug) (c := uc) (n := lb) (vs := us) (by have := hkr.wl.out; rw [HUL.out] at this; exact this) hlt
        rw [this, eu, hln]
      have HSM : Hid (∀ q, Calls Try.prog 7 #[.slice av ln cv, .slice au ln cu] (wr.drewN q) fun e w'' => e = .returned (.bool true) ∧ ∃ m, w'' = wr.drewN m) := fun q =>
        (same_self (wr.drewN q) av au cv cu ln (Ts.getD i []) hln (hIv.below (below_drewN (Below.refl wr.heap.size wr) q) (Nat.le_refl _)) (hIu.below (below_drewN (Below.refl wr.heap.size wr) q) (Nat.le_refl _))).mono fun e w'' ⟨e1, m, e2⟩ => ⟨e1, q + m, by rw [e2]; simp⟩
      have HNX : Hid (∀ q, Below w1.heap.size w1 (wr.drewN q)) := fun q => below_drewN HB.out q
      clear hkr ev eu hIv hIu hln
      go_wp2_with fail
      go_quiet (first | (go_at_call 7; exact HSM.out _))
      go_wp2_with fail
      go_roundg (lb - (i + 1))
      case rel => exact ⟨i + 1, by omega, rfl, by go_num, HNX.out _⟩
      case measure => omega
    · have HP0 : Hid (PW wr B kb (.slice la lb lc) (.slice ua lb uc) vs Ts 0) := ⟨hkr.box, hkr.l, ⟨by rw [filled_len]; exact hkr.p.len, fun j hj => by
        have h1 := hkr.p.own j hj
        have e : (filled Ts 0).getD j [] = Ts.getD j [] := by rw [filled_at (by have := hkr.p.len; omega), if_neg (by omega)]
        rw [e]; exact h1, hkr.p.ne⟩⟩
      have HKT2 : Hid (KL wr B w.heap.size (.slice none 0 0) (.slice none 0 0) [] [] fun _ => none) := HKT.out.keep HB.out
      have HBB : Hid (Below B w wr) := (HB1.out.trans (HB.out.mono HB1.out.size)).mono hBw
      have HNE : Hid (∀ a b, a < vs.length → b < vs.length → a ≠ b → ∀ g, (vs.getD a vn0).ownBlock = some g → (vs.getD b vn0).ownBlock ≠ some g) := hkr.p.ne
      clear hkr k2
      go_wp2_with fail
      clear k1
      go_loopg [5] lb (fun q iv wq => ∃ i : Nat, i ≤ lb ∧ q = lb - i ∧ iv = .int .i64 i ∧ Hid (PW wq B kb (.slice la lb lc) (.slice ua lb uc) vs Ts i) ∧ Hid (KL wq B w.heap.size (.slice none 0 0) (.slice none 0 0) [] [] fun _ => none) ∧ Hid (Below B w wq))
      case atStart => exact ⟨0, by omega, by omega, rfl, HP0.out, HKT2.out, HBB.out⟩
      case round =>
        clear HP0 HKT2 HBB HB
        rename_i i0 _ _ _ _
        obtain ⟨i, hi, rfl, rfl, HP, HKT2, HBB⟩ := hrel
        have k1 := HP.out.cells.2.1
        by_cases hlt2 : i < lb
        · obtain ⟨lg, _, e, _, _, _, _⟩ := own_some HP.out.l.out (by have := HVL.out; omega)
          have e2 : la = some ⟨lg, 0, none⟩ := by cases e; rfl
          clear e
          subst e2
          have hvi : i < vs.length := by have := HVL.out; omega
          have ho := HP.out.p.own i hvi
          rw [filled_at (by have := HLB.out; omega), if_neg (by omega)] at ho
          obtain ⟨av, cv, ev, _⟩ := ho.ints
          obtain ⟨ln, hln⟩ : ∃ ln, ln = (Ts.getD i []).length := ⟨_, rfl⟩
          have hlnm : ln ≤ 1000000 := by
            rw [hln]
            have hit : i < Ts.length := by have := HLB.out; omega
            have e : Ts.getD i [] = Ts[i] := by simp [hit]
            rw [e]; exact HT.out _ (List.getElem_mem hit)
          have kv : wr.cell? ⟨lg, i, none⟩ = some (.slice av ln cv) := by
            have := own_cellV (w := wr) (B := B) (e := 27) (g := lg) (c := lc) (n := lb) (vs := vs) (by have := HP.out.l.out; rw [HVL.out] at this; exact this) hlt2
            rw [this, ev, hln]
          have HO : Hid (OwnI wr B (.slice av ln cv) ln (Ts.getD i [])) := by have := ho; rw [ev, ← hln] at this; exact this
          have HEV : Hid (vs.getD i vn0 = .slice av ln cv) := by rw [hln]; exact ev
          have HLN : Hid (ln = (Ts.getD i []).length) := hln
          clear ho ev hln
          go_wp2_with fail
          refine (fill_any wr HO.out (by omega) i (by omega)).mono ?_
          rintro e w3 ⟨rfl, O3, on3⟩
          have HPN : Hid (PW w3 B kb (.slice (some ⟨lg, 0, none⟩) lb lc) (.slice ua lb uc) vs Ts (i + 1)) := HP.out.fill hvi (by rw [HEV.out, ← HLN.out]; exact O3) (by rw [HEV.out]; exact on3)
          have HKN : Hid _ := HKT2.out.still (on3.block _ HKT2.out.nes.1 fun q => by
            have h1 := own_not HO.out.out HKT2.out.box (by decide)
            exact h1 q)
          have HBN : Hid (Below B w w3) := HBB.out.trans (on3.below (by have := HKT2.out.lo; have := HKT2.out.nes.1; omega) fun k q => (own_block HO.out.out q).1)
          clear O3 on3 HP HKT2 HBB k1 kv
          go_wp2_with fail
          go_roundg (lb - (i + 1))
          case rel => exact ⟨i + 1, by omega, rfl, by go_num, HPN.out, HKN.out, HBN.out⟩
          case measure => omega
        · have HX0 : Hid (PX wr B kb (.slice la lb lc) (.slice ua lb uc) vs Ts 0 w.heap.size (.slice none 0 0) (.slice none 0 0) fun _ => none) := by
            refine ⟨HP.out.box, HP.out.l, fun j _ hj => ?_, fun k hk hf => ?_⟩
            · have h1 := HP.out.p.own j hj
              rw [filled_at (by have := HLB.out; have := HVL.out; omega), if_pos (by have := HVL.out; omega)] at h1
              simpa using h1
            · have hkt : k = w.heap.size := by
                rcases hf with q | q | q | q
                · exact q
                · cases q
                · cases q
                · cases q
              subst hkt
              have hty := HKT2.out.box
              rcases hk with q | q | ⟨j, _, hj, q⟩
              · omega
              · exact own_not HP.out.l.out hty (by decide) q
              · exact own_not (HP.out.p.own j hj).out hty (by decide) q
          clear HP
          go_wp2_with fail
          clear k1
          go_loopg [6] lb (fun q iv wq => ∃ (i : Nat) (lt mt : Value) (vt : List Value) (mst : List Int) (col : Nat → Option (Value × Nat)), i ≤ lb ∧ q = lb - i ∧ iv = .int .i64 i ∧ Hid (PX wq B kb (.slice la lb lc) (.slice ua lb uc) vs Ts i w.heap.size lt mt col) ∧ Hid (KL wq B w.heap.size lt mt vt mst col) ∧ Hid (KE vt mst col) ∧ Hid (mst.length ≤ i * 41) ∧ Hid (Below B w wq))
          case atStart => exact ⟨0, _, _, [], [], _, by omega, by omega, rfl, HX0.out, HKT2.out, ⟨rfl, fun i hi => by simp at hi, fun x hx => by simp at hx⟩, by show _ ≤ _; simp, HBB.out⟩
          case round =>
            clear HX0 HKT2 HBB
            obtain ⟨i, lt, mt, vt, mst, col, hi, rfl, rfl, HX, HKT2, HKE, HML, HBB⟩ := hrel
            have k1 : wr.cell? ⟨kb, 1, none⟩ = some (.slice la lb lc) := cell_arr HX.out.box rfl
            by_cases hlt3 : i < lb
            · obtain ⟨lg, _, e, _, _, _, _⟩ := own_some HX.out.l.out (by have := HVL.out; omega)
              have e2 : la = some ⟨lg, 0, none⟩ := by cases e; rfl
              clear e
              subst e2
              have hvi : i < vs.length := by have := HVL.out; omega
              have ho := HX.out.own i (Nat.le_refl _) hvi
              obtain ⟨av, cv, ev, _⟩ := ho.ints
              obtain ⟨ln, hln⟩ : ∃ ln, ln = (Ts.getD i []).length := ⟨_, rfl⟩
              have hlnm : ln ≤ 1000000 := by
                rw [hln]
                have hit : i < Ts.length := by have := HLB.out; omega
                have e : Ts.getD i [] = Ts[i] := by simp [hit]
                rw [e]; exact HT.out _ (List.getElem_mem hit)
              have kv : wr.cell? ⟨lg, i, none⟩ = some (.slice av ln cv) := by
                have := own_cellV (w := wr) (B := B) (e := 27) (g := lg) (c := lc) (n := lb) (vs := vs) (by have := HX.out.l.out; rw [HVL.out] at this; exact this) hlt3
                rw [this, ev, hln]
              have HO : Hid (OwnI wr B (.slice av ln cv) ln (List.replicate ln (-9 - (i : Int)))) := by have := ho; rw [ev, ← hln] at this; exact this
              have HEV : Hid (vs.getD i vn0 = .slice av ln cv) := by rw [hln]; exact ev
              clear ho ev hln
              have hap : ∀ g, (Value.slice av ln cv).ownBlock = some g → ¬ KF w.heap.size lt mt col g := fun g hg => HX.out.ap g (.inr (.inr ⟨i, Nat.le_refl _, hvi, by rw [HEV.out]; exact hg⟩))
              have hfr : ∀ g, (Value.slice av ln cv).ownBlock = some g → col g = none ∧ mt.ownBlock ≠ some g ∧ lt.ownBlock ≠ some g ∧ g ≠ w.heap.size := fun g hg => by
                have hn := hap g hg
                refine ⟨?_, fun q => hn (.inr (.inr (.inl q))), fun q => hn (.inr (.inl q)), fun q => hn (.inl q)⟩
                cases hc : col g with
                | none => rfl
                | some p => exact absurd (.inr (.inr (.inr (by rw [hc]; rfl)))) hn
              obtain ⟨col1, c1, K1, F1, S1⟩ := HKT2.out.fresh HO.out (Only.refl _ _) hfr
              have HOLD : Hid _ := hold_any wr (m := i) K1 (HKE.out.mono c1) F1 (by omega) (by omega) (by have := HML.out; omega)
              have HS1 : Hid _ := S1
              clear hap hfr c1 K1 F1 S1
              go_wp2_with fail
              refine Calls.mono HOLD.out ?_
              rintro e w3 ⟨rfl, lt', mt', vt', mst', col', far', n', l1, l2, H3⟩
              have ON : Only (fun k => KF w.heap.size lt mt col k ∨ (vs.getD i vn0).ownBlock = some k) wr w3 := H3.on.mono fun k _ q => by rw [HEV.out]; exact HS1.out k q
              have HXN : Hid _ := HX.out.next hvi HNE.out ON (fun k hk q => by rw [HEV.out]; exact HS1.out k (H3.sub k hk q))
              have HBN : Hid (Below B w w3) := HBB.out.trans (ON.below (by have := HKT2.out.lo; have := HKT2.out.nes.1; omega) fun k q => by
                rcases q with (q | q | q | q) | q
                · have := HKT2.out.lo; omega
                · exact (own_block HKT2.out.l.out q).1
                · exact (own_block HKT2.out.m.out q).1
                · exact (HKT2.out.c.lt q).1
                · rw [HEV.out] at q; exact (own_block HO.out.out q).1)
              have HKN : Hid _ := H3.k
              have HEN : Hid _ := H3.e
              have HMN : Hid (mst'.length ≤ (i + 1) * 41) := by have := HML.out; show _ ≤ _; omega
              clear ON H3 HX HKT2 HKE HML HBB k1 kv HOLD
              go_wp2_with fail
              go_roundg (lb - (i + 1))
              case rel => exact ⟨i + 1, _, _, _, _, _, by omega, rfl, by go_num, HXN.out, HKN.out, HEN.out, HMN.out, HBN.out⟩
              case measure => omega
            · have HWH : Hid _ := whole_now wr HKT2.out HKE.out (by have := HML.out; omega)
              go_wp2_with fail
              refine Calls.mono HWH.out ?_
              rintro e w4 ⟨rfl, b4⟩
              have HF : Hid (Below B w w4) := HBB.out.trans (b4.mono (by have := HKT2.out.lo; have := HKT2.out.nes.1; omega))
              clear b4
              go_wp2_with fail
              go_ret
              exact ⟨rfl, HF.out⟩
end Go.Proofs.Ythjjdfiaikibaab
