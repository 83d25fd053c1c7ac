import Derived.Test.YthjjdfiaikibaabDpM
set_option linter.unusedVariables false
set_option linter.unusedSimpArgs false
namespace Go.Proofs.Ythjjdfiaikibaab
open Go.ChangeShapes Go.WideShapes Go.ChangeAt Go.RowKit Go.Maps

def xv (t i : Nat) : Bool := decide (i % 2 = t)
/-- How far the lists are filled in a turn. -/
structure FK (Cs : List (List Bool)) (L t i j : Nat) (ns : Nat → Nat) : Prop where
  len : Cs.length = L
  ln : ∀ a, a < L → (Cs.getD a []).length = ns a
  done : ∀ a, a < i → a < L → ∀ b, b < ns a → (Cs.getD a []).getD b false = xv t a
  part : ∀ b, b < j → b < ns i → (Cs.getD i []).getD b false = xv t i
theorem FK.set {Cs L t i j ns} (h : FK Cs L t i j ns) (hi : i < L) (hj : j < ns i) : FK (Cs.set i ((Cs.getD i []).set j (xv t i))) L t i (j + 1) ns := by
  have own : (Cs.set i ((Cs.getD i []).set j (xv t i))).getD i [] = (Cs.getD i []).set j (xv t i) := by simp [h.len, hi]
  have oth : ∀ a, a ≠ i → (Cs.set i ((Cs.getD i []).set j (xv t i))).getD a [] = Cs.getD a [] := fun a ha => by rw [List.getD, List.getElem?_set_ne (fun q => ha q.symm)]; rfl
  refine ⟨by simpa using h.len, fun a ha => ?_, fun a ha hal b hb => ?_, fun b hb hbn => ?_⟩
  · by_cases e : a = i
    · subst e; rw [own, List.length_set]; exact h.ln a ha
    · rw [oth a e]; exact h.ln a ha
  · rw [oth a (by omega)]; exact h.done a ha hal b hb
  · rw [own]
    by_cases e : b = j
    · subst e
      have : b < (Cs.getD i []).length := by rw [h.ln i hi]; exact hj
      rw [List.getD, List.getElem?_set_self this]; rfl
    · rw [List.getD, List.getElem?_set_ne (fun q => e q.symm)]
      exact h.part b (by omega) hbn
theorem FK.next {Cs L t i ns} (h : FK Cs L t i (ns i) ns) : FK Cs L t (i + 1) 0 ns :=
  ⟨h.len, h.ln, fun a ha hal b hb => by
    by_cases e : a = i
    · subst e; exact h.part b hb hb
    · exact h.done a (by omega) hal b hb, fun b hb => by omega⟩
theorem FK.full {Cs L t ns} (h : FK Cs L t L 0 ns) {a : Nat} (ha : a < L) : Cs.getD a [] = List.replicate (ns a) (xv t a) := by
  refine List.ext_getElem (by rw [h.ln a ha]; simp) fun b h1 h2 => ?_
  have := h.done a ha ha b (by simpa using h2)
  rw [List.getD, List.getElem?_eq_getElem h1] at this
  simpa using this
theorem FK.again {Cs L t t' i j ns} (h : FK Cs L t i j ns) : FK Cs L t' 0 0 ns := ⟨h.len, h.ln, fun a ha => by omega, fun b hb => by omega⟩
/-- The grown lists so far. -/
structure GS (fs : List Value) (col : Nat → Option (Value × Nat)) (t n : Nat) : Prop where
  len : fs.length = n
  el : ∀ e, e < n → El col (fs.getD e vn0) (.bool (xv t (e / 16)))
theorem GS.mono {fs col col' t n} (h : GS fs col t n) (g : ColLe col col') : GS fs col' t n := ⟨h.len, fun e he => (h.el e he).mono g⟩
theorem GS.add {fs col t n v} (h : GS fs col t n) (e : El col v (.bool (xv t (n / 16)))) : GS (fs ++ [v]) col t (n + 1) := by
  refine ⟨by simp [h.len], fun k hk => ?_⟩
  by_cases hl : k < n
  · rw [getD_app (by rw [h.len]; exact hl)]; exact h.el k hl
  · have : k = n := by omega
    subst this
    have e2 : (fs ++ [v]).getD k vn0 = v := by rw [← h.len]; exact getD_new
    rw [e2]; exact e
theorem tmod_two (i : Nat) : (i : Int).tmod 2 = ((i % 2 : Nat) : Int) := by
  rw [Int.tmod_eq_emod_of_nonneg (by omega)]; omega
theorem tdiv_16 (i : Nat) : (i : Int).tdiv 16 = ((i / 16 : Nat) : Int) := by
  rw [Int.tdiv_eq_ediv_of_nonneg (by omega)]; omega
theorem QW.one {w B kb la lb lc wv vs Cs} (h : QW w B kb (.slice la lb lc) wv vs Cs) (hl : vs.length = lb) {i : Nat} (hi : i < lb) : ∃ lg, la = some ⟨lg, 0, none⟩ ∧ w.cell? ⟨lg, i, none⟩ = some (vs.getD i vn0) := by
  obtain ⟨lg, _, e, _, _, _, _⟩ := own_some h.l.out (by omega)
  have e2 : la = some ⟨lg, 0, none⟩ := by cases e; rfl
  subst e2
  refine ⟨lg, rfl, own_cellV (B := B) (e := 36) (c := lc) (n := lb) (by have := h.l.out; rw [hl] at this; exact this) hi⟩
set_option maxRecDepth 100000 in
set_option maxHeartbeats 16000000 in
theorem truths_any (w : World) {B kb lv wv vs us Ts} (hk : KV w B kb lv wv vs us Ts) (hl : Ts.length ≤ 1000) (hT : ∀ l ∈ Ts, l.length ≤ 1000000) :
    Calls Try.prog 16 #[.pointer (some ⟨kb, 0, none⟩)] w fun e w' => e = .returned (.bool true) ∧ Only (fun k => ∃ a, a < vs.length ∧ (vs.getD a vn0).ownBlock = some k) w w' := by
  obtain ⟨F, hF⟩ : ∃ F : Nat → Prop, F = fun k => ∃ a, a < vs.length ∧ (vs.getD a vn0).ownBlock = some k := ⟨_, rfl⟩
  rw [← hF]
  obtain ⟨la, lc, rfl, hlc, hlc2⟩ := own_slice hk.l.out
  obtain ⟨ua, uc, rfl, huc, huc2⟩ := own_slice hk.wl.out
  obtain ⟨lb, hlb⟩ : ∃ lb, lb = Ts.length := ⟨_, rfl⟩
  have hvl : vs.length = lb := by rw [hlb]; exact hk.p.len
  have hul : us.length = lb := by rw [hlb]; exact hk.lu
  have hkb : kb < w.heap.size := (Array.getElem?_eq_some_iff.1 hk.box).1
  have hBw : B ≤ w.heap.size := by have := hk.lo; omega
  have hlb9 : lb ≤ 1000 := by omega
  obtain ⟨ns, hns⟩ : ∃ ns : Nat → Nat, ns = fun a => (Ts.getD a []).length := ⟨_, rfl⟩
  have HNS : Hid (∀ a, a < lb → ns a ≤ 1000000) := fun a ha => by
    rw [hns]
    have hit : a < Ts.length := by omega
    have e : Ts.getD a [] = Ts[a] := by simp [hit]
    show (Ts.getD a []).length ≤ _
    rw [e]; exact hT _ (List.getElem_mem hit)
  have HK : Hid (KV w B kb (.slice la lb lc) (.slice ua lb uc) vs us Ts) := by rw [hvl, hul] at hk; exact hk
  have HFK : Hid (FK Ts lb 0 0 0 ns) := ⟨hlb.symm, fun a ha => by rw [hns], fun a ha => by omega, fun b hb => by omega⟩
  have HVL : Hid (vs.length = lb) := hvl
  have HUL : Hid (us.length = lb) := hul
  have HFF : Hid (∀ a, a < lb → ∀ g, (vs.getD a vn0).ownBlock = some g → F g) := fun a ha g hg => by rw [hF]; exact ⟨a, by omega, hg⟩
  rw [hvl] at hlc
  rw [hul] at huc
  clear hk hvl hul hlb hT hl hns hF
  go_enter Try.func16, Try.ntmps16
  go_wp2_with fail
  go_loopg [3] lb (fun q iv wr => ∃ i : Nat, i ≤ lb ∧ q = lb - i ∧ iv = .int .i64 i ∧ Hid (Below w.heap.size w wr))
  case atStart => exact ⟨0, by omega, by omega, rfl, Below.refl _ _⟩
  case round =>
    obtain ⟨i, hi, rfl, rfl, HB⟩ := hrel
    have hkr := HK.out.keep HB.out
    have k1 : wr.cell? ⟨kb, 4, none⟩ = some (.slice la lb lc) := cell_arr hkr.box rfl
    have k2 : wr.cell? ⟨kb, 5, none⟩ = some (.slice ua lb uc) := cell_arr hkr.box rfl
    by_cases hlt : i < lb
    · obtain ⟨lg, _, e, _, _, _, _⟩ := own_some hkr.l.out (by have := HVL.out; omega)
      have e2 : la = some ⟨lg, 0, none⟩ := by cases e; rfl
      clear e
      subst e2
      obtain ⟨ug, _, e, _, _, _, _⟩ := own_some hkr.wl.out (by have := HUL.out; omega)
      have e2 : ua = some ⟨ug, 0, none⟩ := by cases e; rfl
      clear e
      subst e2
      obtain ⟨av, cv, ev, hIv⟩ := (hkr.p.own i (by have := HVL.out; omega)).bls
      obtain ⟨au, cu, eu, hIu⟩ := (hkr.u i (by have := HUL.out; omega)).bls
      obtain ⟨ln, hln⟩ : ∃ ln, ln = (Ts.getD i []).length := ⟨_, rfl⟩
      have kv : wr.cell? ⟨lg, i, none⟩ = some (.slice av ln cv) := by
        have := own_cellV (w := wr) (B := B) (e := 36) (g := lg) (c := lc) (n := lb) (vs := vs) (by have := hkr.l.out; rw [HVL.out] at this; exact this) hlt
        rw [this, ev, hln]
      have ku : wr.cell? ⟨ug, i, none⟩ = some (.slice au ln cu) := by
        have := own_cellV (w := wr) (B := B) (e := 36) (g := ug) (c := uc) (n := lb) (vs := us) (by have := hkr.wl.out; rw [HUL.out] at this; exact this) hlt
        rw [this, eu, hln]
      have HSM : Hid (∀ q, Calls Try.prog 9 #[.slice av ln cv, .slice au ln cu] (wr.drewN q) fun e w'' => e = .returned (.bool true) ∧ ∃ m, w'' = wr.drewN m) := fun q =>
        (alike_self (wr.drewN q) av au cv cu ln (Ts.getD i []) hln (hIv.below (below_drewN (Below.refl wr.heap.size wr) q) (Nat.le_refl _)) (hIu.below (below_drewN (Below.refl wr.heap.size wr) q) (Nat.le_refl _))).mono fun e w'' ⟨e1, m, e2⟩ => ⟨e1, q + m, by rw [e2]; simp⟩
      have HNX : Hid (∀ q, Below w.heap.size w (wr.drewN q)) := fun q => below_drewN HB.out q
      clear hkr ev eu hIv hIu hln
      go_wp2_with fail
      go_quiet (first | (go_at_call 9; exact HSM.out _))
      go_wp2_with fail
      go_roundg (lb - (i + 1))
      case rel => exact ⟨i + 1, by omega, rfl, by go_num, HNX.out _⟩
      case measure => omega
    · have HQ0 : Hid (QW wr B kb (.slice la lb lc) (.slice ua lb uc) vs Ts) := ⟨hkr.box, hkr.l, hkr.p⟩
      have HON0 : Hid (Only F w wr) := Only.of_below HB.out F
      clear hkr k2
      go_wp2_with fail
      clear k1
      go_loopg [4] 2 (fun q tv wt => ∃ (t : Nat) (Cs : List (List Bool)), t ≤ 2 ∧ q = 2 - t ∧ tv = .int .i64 t ∧ Hid (QW wt B kb (.slice la lb lc) (.slice ua lb uc) vs Cs) ∧ Hid (FK Cs lb t 0 0 ns) ∧ Hid (Only F w wt))
      case atStart => exact ⟨0, Ts, by omega, by omega, rfl, HQ0.out, HFK.out, HON0.out⟩
      case round =>
        clear HQ0 HON0 HB HFK
        obtain ⟨t, Cs, ht, rfl, rfl, HQ, HF, HON⟩ := hrel
        by_cases htl : t < 2
        · have ht2 : decide ((t : Int) < 2) = true := decide_eq_true (by omega)
          go_wp2_with fail
          go_loopg [5] lb (fun q iv wt => ∃ (i : Nat) (Cs : List (List Bool)), i ≤ lb ∧ q = lb - i ∧ iv = .int .i64 i ∧ Hid (QW wt B kb (.slice la lb lc) (.slice ua lb uc) vs Cs) ∧ Hid (FK Cs lb t i 0 ns) ∧ Hid (Only F w wt))
          case atStart => exact ⟨0, Cs, by omega, by omega, rfl, HQ.out, HF.out, HON.out⟩
          case round =>
            clear HQ HF HON
            obtain ⟨i, Cs, hi, rfl, rfl, HQ, HF, HON⟩ := hrel
            have k1 : wr.cell? ⟨kb, 4, none⟩ = some (.slice la lb lc) := cell_arr HQ.out.box rfl
            by_cases hil : i < lb
            · have hnsi := HNS.out i hil
              go_wp2_with fail
              clear k1
              go_loopg [6] (ns i) (fun q jv wt => ∃ (j : Nat) (Cs : List (List Bool)), j ≤ ns i ∧ q = ns i - j ∧ jv = .int .i64 j ∧ Hid (QW wt B kb (.slice la lb lc) (.slice ua lb uc) vs Cs) ∧ Hid (FK Cs lb t i j ns) ∧ Hid (Only F w wt))
              case atStart => exact ⟨0, Cs, by omega, by omega, rfl, HQ.out, HF.out, HON.out⟩
              case round =>
                clear HQ HF HON
                obtain ⟨j, Cs, hj, rfl, rfl, HQ, HF, HON⟩ := hrel
                have k1 : wr.cell? ⟨kb, 4, none⟩ = some (.slice la lb lc) := cell_arr HQ.out.box rfl
                obtain ⟨lg, rfl, ki⟩ := HQ.out.one HVL.out hil
                obtain ⟨av, cv, ev, hcv1, hcv2⟩ := own_slice (HQ.out.p.own i (by have := HVL.out; omega)).out
                rw [HF.out.ln i hil] at ev hcv1
                rw [ev] at ki
                by_cases hjl : j < ns i
                · obtain ⟨g, _, e, _, _, _, _⟩ := own_some (HQ.out.p.own i (by have := HVL.out; omega)).out (by rw [HF.out.ln i hil]; omega)
                  rw [ev] at e
                  have e2 : av = some ⟨g, 0, none⟩ := by simp only [Value.slice.injEq] at e; exact e.1
                  clear e
                  subst e2
                  obtain ⟨_, _, _, A, hA⟩ := HQ.out.ty (j := i) (by have := HVL.out; omega) (g := g) (by rw [ev]; rfl)
                  have hown := HQ.out.p.own i (by have := HVL.out; omega)
                  rw [ev, HF.out.ln i hil] at hown
                  obtain ⟨z, kz⟩ : ∃ z, wr.cell? ⟨g, j, none⟩ = some z := ⟨_, hown.cell hjl⟩
                  have fz : wr.frozen? ⟨g, j, none⟩ = false := fz_of hA
                  have hm2 := tmod_two i
                  obtain ⟨r, hr⟩ : ∃ r, r = i % 2 := ⟨_, rfl⟩
                  rw [← hr] at hm2
                  obtain ⟨x, hx⟩ : ∃ x, x = xv t i := ⟨_, rfl⟩
                  have hxe : ((r : Int) == (t : Int)) = x := by
                    rw [hx, xv, hr]
                    by_cases q : i % 2 = t
                    · rw [decide_eq_true q, q]; simp
                    · rw [decide_eq_false q]; simp; omega
                  have HQN : Hid (QW (wr.setCell ⟨g, j, none⟩ (.bool x)) B kb (.slice (some ⟨lg, 0, none⟩) lb lc) (.slice ua lb uc) vs (Cs.set i ((Cs.getD i []).set j x))) := HQ.out.setc (n := ns i) (c := cv) (by have := HVL.out; omega) ev (HF.out.ln i hil).symm hjl x
                  have HFN : Hid (FK (Cs.set i ((Cs.getD i []).set j x)) lb t i (j + 1) ns) := by rw [hx]; exact HF.out.set hil hjl
                  have HONN : Hid (Only F w (wr.setCell ⟨g, j, none⟩ (.bool x))) := only_set HON.out g j _ (HFF.out i hil g (by rw [ev]; rfl))
                  clear ev hA hown hr hx HQ HF HON
                  go_wp2_with fail
                  go_roundg (ns i - (j + 1))
                  case rel => exact ⟨j + 1, _, by omega, rfl, by go_num, HQN.out, HFN.out, HONN.out⟩
                  case measure => omega
                · have HFN : Hid (FK Cs lb t (i + 1) 0 ns) := by
                    have := HF.out
                    rw [show j = ns i by omega] at this
                    exact this.next
                  clear ev
                  go_wp2_with fail
                  go_roundg (lb - (i + 1))
                  case rel => exact ⟨i + 1, Cs, by omega, rfl, by go_num, HQ.out, HFN.out, HON.out⟩
                  case measure => omega
            · have HFU : Hid (∀ a, a < lb → Cs.getD a [] = List.replicate (ns a) (xv t a)) := fun a ha => by
                have := HF.out
                rw [show i = lb by omega] at this
                exact this.full ha
              have HFN : Hid (FK Cs lb (t + 1) 0 0 ns) := HF.out.again
              have HP0 : Hid (P2 F w wr B kb (.slice la lb lc) (.slice ua lb uc) vs Cs (.slice none 0 0) [] (fun _ => none) 0) := ⟨HQ.out, OwnU.nil _ _, ⟨fun g x M h => (by cases h)⟩, fun g _ h => (by cases h), fun _ _ _ _ _ => rfl, HON.out, fun g h => (by cases h), fun g h => (by cases h)⟩
              clear HF HQ HON
              go_wp2_with fail
              clear k1
              go_loopg [7, 8] lb (fun q fv iv wt => ∃ (i : Nat) (fa : Option Addr) (fc : Nat) (fs : List Value) (col : Nat → Option (Value × Nat)), i ≤ lb ∧ q = lb - i ∧ fv = .slice fa (16 * i) fc ∧ iv = .int .i64 i ∧ Hid (P2 F w wt B kb (.slice la lb lc) (.slice ua lb uc) vs Cs (.slice fa (16 * i) fc) fs col i) ∧ Hid (GS fs col t (16 * i)))
              case atStart => exact ⟨0, none, 0, [], _, by omega, by omega, rfl, rfl, HP0.out, ⟨rfl, fun e he => by omega⟩⟩
              case round =>
                clear HP0
                obtain ⟨i, fa, fc, fs, col, hi2, rfl, rfl, rfl, HP, HG⟩ := hrel
                have k1 : wr.cell? ⟨kb, 4, none⟩ = some (.slice la lb lc) := cell_arr HP.out.q.box rfl
                by_cases hil2 : i < lb
                · have hnsi := HNS.out i hil2
                  obtain ⟨lg, rfl, ki⟩ := HP.out.q.one HVL.out hil2
                  have hvi : i < vs.length := by have := HVL.out; omega
                  obtain ⟨av, cv, ev, hcv1, hcv2⟩ := own_slice (HP.out.q.p.own i hvi).out
                  rw [HFU.out i hil2, List.length_replicate] at ev hcv1
                  rw [ev] at ki
                  obtain ⟨col1, c1, P1, F1, J1⟩ := HP.out.begin hvi (HFF.out i hil2) (HFU.out i hil2)
                  rw [ev] at F1 J1
                  have HP1 : Hid _ := P1
                  have HF1 : Hid _ := F1
                  have HJ1 : Hid _ := J1
                  have HG1 : Hid _ := HG.out.mono c1
                  clear P1 F1 J1 c1 HP HG
                  have hm2 := tmod_two i
                  obtain ⟨r, hr⟩ : ∃ r, r = i % 2 := ⟨_, rfl⟩
                  rw [← hr] at hm2
                  obtain ⟨x, hx⟩ : ∃ x, x = xv t i := ⟨_, rfl⟩
                  have hxe : ((r : Int) == (t : Int)) = x := by
                    rw [hx, xv, hr]
                    by_cases q : i % 2 = t
                    · rw [decide_eq_true q, q]; simp
                    · rw [decide_eq_false q]; simp; omega
                  have HX : Hid (x = xv t i) := hx
                  rw [← hx] at HF1
                  have HC : Hid (Cs.getD i [] = List.replicate (ns i) x) := by rw [hx]; exact HFU.out i hil2
                  clear ev hr hx
                  go_wp2_with fail
                  clear k1 ki
                  go_loopg [7, 9, 10] 16 (fun q fv lv' jv wt => ∃ (j : Nat) (fa : Option Addr) (fc : Nat) (va : Option Addr) (vc : Nat) (fs : List Value) (col : Nat → Option (Value × Nat)), j ≤ 16 ∧ q = 16 - j ∧ fv = .slice fa (16 * i + j) fc ∧ lv' = .slice va (ns i + j) vc ∧ jv = .int .i64 j ∧ Hid (P2 F w wt B kb (.slice (some ⟨lg, 0, none⟩) lb lc) (.slice ua lb uc) vs Cs (.slice fa (16 * i + j) fc) fs col (i + 1)) ∧ Hid (GS fs col t (16 * i + j)) ∧ Hid (FarB wt B col (.slice va (ns i + j) vc) (ns i + j) x) ∧ Hid (Jn vs i (.slice va (ns i + j) vc) (ns i) (ns i + j)))
                  case atStart => exact ⟨0, fa, fc, av, cv, fs, col1, by omega, by omega, rfl, rfl, rfl, HP1.out, HG1.out, HF1.out, HJ1.out⟩
                  case round =>
                    clear HP1 HG1 HF1 HJ1
                    obtain ⟨j, fa, fc, va, vc, fs, col, hj, rfl, rfl, rfl, rfl, HP, HG, HFB, HJ⟩ := hrel
                    by_cases hj16 : j < 16
                    · have hB1 : B ≤ wr.heap.size := by have := HP.out.on.size; omega
                      have hfl : fs.length + 1 ≤ 1759218604441 := by have := HG.out.len; omega
                      go_wp2_with (first
                        | (at_builtin; refine wpList_append_boolK (w0 := wr) rfl _ _ rfl B (.slice va (ns i + j) vc) (ns i + j) (List.replicate (ns i + j) x) x rfl HFB.out.own rfl (by omega) hB1 ?_; intro v5 w5 h5 g5
                           obtain ⟨col5, c5, P5, F5, J5⟩ := HP.out.grow hvi HFB.out HC.out (by omega) HJ.out h5 g5
                           obtain ⟨a5, d5, e5, _, _⟩ := own_slice F5.own.out
                           subst e5
                           have hB5 : B ≤ w5.heap.size := by have := P5.on.size; omega
                           have HP5 : Hid _ := P5
                           have HF5 : Hid _ := F5
                           have HJ5 : Hid _ := J5
                           have HG5 : Hid _ := HG.out.mono c5
                           clear h5 g5 c5 P5 F5 J5)
                        | (at_builtin; refine wpList_append_slB (w0 := w5) rfl _ _ rfl B (.slice fa (16 * i + j) fc) fs a5 (ns i + j + 1) d5 rfl HP5.out.f rfl hfl hB5 ?_; intro v6 w6 h6 g6
                           obtain ⟨a6, c6, e6, _, _⟩ := own_slice h6.out
                           have q6 : (fs ++ [Value.slice a5 (ns i + j + 1) d5]).length = 16 * i + j + 1 := by rw [List.length_append, HG.out.len]; simp
                           rw [q6] at e6
                           subst e6
                           obtain ⟨P6, K6⟩ := HP5.out.addF hB5 h6 g6
                           have HP6 : Hid _ := P6
                           have HF6 : Hid _ := HF5.out.move K6
                           have HG6 : Hid (GS (fs ++ [Value.slice a5 (ns i + j + 1) d5]) col5 t (16 * i + j + 1)) := HG5.out.add (by rw [show (16 * i + j) / 16 = i by omega, ← HX.out]; exact HF5.out.el)
                           clear h6 g6 P6 K6)
                        | go_in)
                      go_roundg (16 - (j + 1))
                      case rel => exact ⟨j + 1, a6, c6, a5, d5, _, col5, by omega, rfl, rfl, rfl, by go_num, HP6.out, HG6.out, HF6.out, HJ5.out⟩
                      case measure => omega
                    · have HPN : Hid (P2 F w wr B kb (.slice (some ⟨lg, 0, none⟩) lb lc) (.slice ua lb uc) vs Cs (.slice fa (16 * (i + 1)) fc) fs col (i + 1)) := by have := HP.out; rw [show 16 * i + j = 16 * (i + 1) by omega] at this; exact this
                      have HGN : Hid (GS fs col t (16 * (i + 1))) := by have := HG.out; rw [show 16 * i + j = 16 * (i + 1) by omega] at this; exact this
                      have hej : 16 * i + j = 16 * (i + 1) := by omega
                      rw [hej]
                      clear hej
                      go_wp2_with fail
                      go_roundg (lb - (i + 1))
                      case rel => exact ⟨i + 1, fa, fc, fs, col, by omega, rfl, rfl, by go_num, HPN.out, HGN.out⟩
                      case measure => omega
                · have hei : 16 * i = 16 * lb := by omega
                  have HG2 : Hid (GS fs col t (16 * lb)) := by have := HG.out; rw [hei] at this; exact this
                  have HFS : Hid (OwnU wr B (.slice fa (16 * lb) fc) fs) := by have := HP.out.f; rw [hei] at this; exact this
                  have HQE : Hid _ := HP.out.q
                  have HONE : Hid _ := HP.out.on
                  have HCE : Hid _ := HP.out.c
                  have hfc : 16 * lb ≤ fc ∧ fc ≤ 9223372036854775807 := by
                    obtain ⟨_, _, e, h1, h2⟩ := own_slice HFS.out.out
                    rw [HG2.out.len] at e h1
                    simp only [Value.slice.injEq] at e
                    rw [e.2.2]; exact ⟨h1, h2⟩
                  obtain ⟨hfc1, hfc2⟩ := hfc
                  rw [hei]
                  clear hei HP HG
                  go_wp2_with fail
                  clear k1
                  obtain ⟨w9, hw9⟩ : ∃ w9, w9 = wr := ⟨_, rfl⟩
                  rw [← hw9] at HFS HQE HONE HCE ⊢
                  clear hw9
                  go_loopg [11] (16 * lb) (fun q ev wt => ∃ e : Nat, e ≤ 16 * lb ∧ q = 16 * lb - e ∧ ev = .int .i64 e ∧ wt = w9)
                  case atStart => exact ⟨0, by omega, by omega, rfl, rfl⟩
                  case round =>
                    obtain ⟨e, he, rfl, rfl, rfl⟩ := hrel
                    by_cases hel : e < 16 * lb
                    · obtain ⟨fg, _, q, _, _, _, _⟩ := own_some HFS.out.out (by rw [HG2.out.len]; omega)
                      have q2 : fa = some ⟨fg, 0, none⟩ := by simp only [Value.slice.injEq] at q; exact q.1
                      clear q
                      subst q2
                      obtain ⟨a', ln, cp, ev, h1, h2, h3⟩ := HG2.out.el e hel
                      have ke : wr.cell? ⟨fg, e, none⟩ = some (.slice a' ln cp) := by
                        have := own_cellV (w := wr) (B := B) (e := 36) (g := fg) (c := fc) (n := 16 * lb) (vs := fs) (by have := HFS.out.out; rw [HG2.out.len] at this; exact this) hel
                        rw [this, ev]
                      have hm1 := tdiv_16 e
                      obtain ⟨p, hp⟩ : ∃ p, p = e / 16 := ⟨_, rfl⟩
                      rw [← hp] at hm1 h3
                      have hm2 := tmod_two p
                      obtain ⟨r, hr⟩ : ∃ r, r = p % 2 := ⟨_, rfl⟩
                      rw [← hr] at hm2
                      obtain ⟨x, hx⟩ : ∃ x, x = xv t p := ⟨_, rfl⟩
                      have hxe : ((r : Int) == (t : Int)) = x := by
                        rw [hx, xv, hr]
                        by_cases q : p % 2 = t
                        · rw [decide_eq_true q, q]; simp
                        · rw [decide_eq_false q]; simp; omega
                      rw [← hx] at h3
                      have HEL : Hid (0 < ln → ∃ g M, a' = some ⟨g, 0, none⟩ ∧ col g = some (.bool x, M) ∧ ln ≤ M) := h3
                      have hple : p ≤ 1000 := by omega
                      clear ev h3 hp hr hx
                      go_wp2_with fail
                      go_loopg [12] ln (fun q jv wt => ∃ j : Nat, j ≤ ln ∧ q = ln - j ∧ jv = .int .i64 j ∧ wt = wr)
                      case atStart => exact ⟨0, by omega, by omega, rfl, rfl⟩
                      case round =>
                        obtain ⟨j, hj, rfl, rfl, rfl⟩ := hrel
                        by_cases hjl : j < ln
                        · obtain ⟨g, M, e1, e2, e3⟩ := HEL.out (by omega)
                          subst e1
                          have kc := (HCE.out.cells g _ M e2).2.2.2 j (by omega)
                          clear e2 e3
                          cases x
                          all_goals
                            go_wp2_with fail
                            go_roundg (ln - (j + 1))
                            case rel => exact ⟨j + 1, by omega, rfl, by go_num, rfl⟩
                            case measure => omega
                        · go_wp2_with fail
                          go_roundg (16 * lb - (e + 1))
                          case rel => exact ⟨e + 1, by omega, rfl, by go_num, rfl⟩
                          case measure => omega
                    · go_wp2_with fail
                      go_roundg (2 - (t + 1))
                      case rel => exact ⟨t + 1, Cs, by omega, rfl, by go_num, HQE.out, HFN.out, HONE.out⟩
                      case measure => omega
        · go_wp2_with fail
          go_ret
          exact ⟨rfl, HON.out⟩
end Go.Proofs.Ythjjdfiaikibaab
