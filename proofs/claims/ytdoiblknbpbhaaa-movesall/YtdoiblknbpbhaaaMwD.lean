import Derived.Test.YtdoiblknbpbhaaaMwC
set_option linter.unusedVariables false
set_option linter.unusedSimpArgs false
namespace Go.Proofs.Ytdoiblknbpbhaaa
open Go.ChangeShapes Go.WideShapes Go.ChangeAt Go.RowKit Go.Maps

theorem KL.keep {w w' : World} {B kb lv mv vs ms col} (h : KL w B kb lv mv vs ms col) (hb : Below w.heap.size w w') : KL w' B kb lv mv vs ms col :=
  ⟨(hb.block kb h.nes.1).trans h.box, h.lo, h.l.move fun g hg => hb.block g (own_block h.l.out hg).2, h.m.keep hb, h.c.keep hb, h.ap⟩
theorem own_cellV {w : World} {B g c n : Nat} {e : TypeId} {vs : List Value} (h : w.ownsRow B e 1 (.slice (some ⟨g, 0, none⟩) n c) n vs) {i : Nat} (hi : i < n) : w.cell? ⟨g, i, none⟩ = some (vs.getD i vn0) := by
  rw [own_cell h i (by omega)]
  have : vs.length = n := by have := h.1; omega
  have hl : i < vs.length := by omega
  simp [hl]
set_option maxRecDepth 100000 in
set_option maxHeartbeats 8000000 in
theorem whole_now (w : World) {B kb lv mv vs ms col} (hk : KL w B kb lv mv vs ms col) (he : KE vs ms col) (hl : ms.length ≤ 1000000000) :
    Calls Try.prog 20 #[.pointer (some ⟨kb, 0, none⟩)] w fun e w' => e = .returned (.bool true) ∧ Below w.heap.size w w' := by
  obtain ⟨k0, k1, k3⟩ := hk.kells
  obtain ⟨la, lc, rfl, hlc, hlc2⟩ := own_slice hk.l.out
  obtain ⟨ma, mc, rfl, hmc, hmc2⟩ := own_slice hk.m.out
  obtain ⟨lb, hlb⟩ : ∃ lb, lb = vs.length := ⟨_, rfl⟩
  have hmb : ms.length = lb := by rw [hlb]; exact he.len.symm
  have hlb9 : lb ≤ 1000000000 := by omega
  have HK : Hid (KL w B kb (.slice la lb lc) (.slice ma lb mc) vs ms col) := by rw [← hlb, hmb] at hk; exact hk
  have HE : Hid _ := he
  have HLB : Hid (lb = vs.length) := hlb
  have HMB : Hid (ms.length = lb) := hmb
  have HB0 : Hid (Below w.heap.size w w) := Below.refl _ _
  rw [← hlb] at k1 hlc
  rw [hmb] at k3 hmc
  clear hk he hlb hmb hl
  go_enter Try.func20, Try.ntmps20
  go_wp2_with fail
  go_loopg [3] lb (fun q iv wr => ∃ i : Nat, i ≤ lb ∧ q = lb - i ∧ iv = .int .i64 i ∧ Hid (Below w.heap.size w wr))
  case atStart => exact ⟨0, by omega, by omega, rfl, HB0.out⟩
  case round =>
    clear HB0 k0 k1 k3
    obtain ⟨i, hi, rfl, rfl, HB⟩ := hrel
    have hk := HK.out.keep HB.out
    obtain ⟨_, k1, k3⟩ := hk.kells
    by_cases hlt : i < lb
    · obtain ⟨lg, lc', e, _, _, _, _⟩ := own_some hk.l.out (by have := HLB.out; omega)
      have e2 : la = some ⟨lg, 0, none⟩ := by cases e; rfl
      clear e
      subst e2
      obtain ⟨mg, mc', e, _, _, _, _⟩ := own_some hk.m.out (by have := HMB.out; omega)
      have e2 : ma = some ⟨mg, 0, none⟩ := by cases e; rfl
      subst e2
      have hx := HE.out.rg (gn ms i) (gn_mem (by have := HMB.out; omega))
      obtain ⟨a', ln, cp, ev, h1, h2, h3⟩ := HE.out.el i (by have := HLB.out; omega)
      obtain ⟨x, hxe⟩ : ∃ x, x = gn ms i := ⟨_, rfl⟩
      rw [← hxe] at hx h3
      have KI : Hid (∀ wq, Below w.heap.size w wq → wq.cell? ⟨lg, i, none⟩ = some (.slice a' ln cp)) := fun wq hq => by
        have := own_cellV (w := wq) (B := B) (e := 22) (g := lg) (c := lc) (n := lb) (vs := vs) (by have := (HK.out.keep hq).l.out; rw [← HLB.out] at this; exact this) hlt
        rw [this, ev]
      have ki := KI.out wr HB.out
      have HX : Hid (x = gn ms i) := hxe
      have HEL : Hid (0 < ln → ∃ g M, a' = some ⟨g, 0, none⟩ ∧ col g = some (x, M) ∧ ln ≤ M) := h3
      clear hk ev h3 hxe e
      go_wp2_with fail
      go_loopg [4] ln (fun q jv wr' => ∃ j : Nat, j ≤ ln ∧ q = ln - j ∧ jv = .int .i64 j ∧ Hid (Below w.heap.size w wr'))
      case atStart => exact ⟨0, by omega, by omega, rfl, HB.out⟩
      case round =>
        clear HB ki k1 k3
        obtain ⟨j, hj, rfl, rfl, HB⟩ := hrel
        have hk := HK.out.keep HB.out
        obtain ⟨_, k1, k3⟩ := hk.kells
        have ki := KI.out wr HB.out
        by_cases hjl : j < ln
        · obtain ⟨g, M, e1, e2, e3⟩ := HEL.out (by omega)
          subst e1
          obtain ⟨kc0, kc1, kc2, kc3⟩ := (hk.c.cells g _ M e2).2.2.2.cell j (by simp; omega)
          simp only [List.getElem_replicate, mkM, Nat.zero_add] at kc0 kc1 kc2 kc3
          have km : wr.cell? ⟨mg, i, none⟩ = some (.int .i64 x) := by
            have h1 := hk.m
            rw [HMB.out] at h1
            have := own_cell h1.out i (by omega)
            rw [this, HX.out]
            have hil : i < ms.length := by have := HMB.out; omega
            simp [ivs, gn, hil]
          have HNX : Hid (∀ q, Below w.heap.size w (wr.drewN q)) := fun q => below_drewN HB.out q
          clear hk e2 e3
          go_wp2_with fail
          go_quiet (fail)
          go_wp2_with fail
          go_roundg (ln - (j + 1))
          case rel => exact ⟨j + 1, by omega, rfl, by go_num, HNX.out _⟩
          case measure => omega
        · clear hk
          go_wp2_with fail
          go_roundg (lb - (i + 1))
          case rel => exact ⟨i + 1, by omega, rfl, by go_num, HB.out⟩
          case measure => omega
    · clear hk
      go_wp2_with fail
      go_ret
      exact ⟨rfl, HB.out⟩
end Go.Proofs.Ytdoiblknbpbhaaa
