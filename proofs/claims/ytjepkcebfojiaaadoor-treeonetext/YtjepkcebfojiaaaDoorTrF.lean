import Derived.Test.YtjepkcebfojiaaaDoorTrE
import Derived.Test.YtjepkcebfojiaaaDoorLyH
set_option linter.unusedVariables false
set_option linter.unusedSimpArgs false
namespace Go.Proofs.YtjepkcebfojiaaaDoor
open Go.ChangeShapes Go.WideShapes Go.ChangeAt Go.RowKit

structure FF (m : May) (n : Nd) (R : Bool) : Prop where
  out : R = ((m.wh || decide (n.wh = 0)) && (m.close || decide (n.close = 0)) && inR m.d0 m.d1 n.decl && inR m.t0 m.t1 n.typ && inR m.o0 m.o1 n.op
    && (decide (n.val = 0) || m.val && decide (0 < n.val)) && nmFits m.name n.name)

set_option maxRecDepth 10000 in
set_option maxHeartbeats 8000000 in
theorem fieldsFit_any (w : World) (hTab : Tab w) (n : Nd) (ka : Option Addr) (kc : Nat) :
    Calls Tryd.prog 23 #[nv n ka kc] w fun e w' => e = .returned (.bool (ffit n)) ∧ Below w.heap.size w w' := by
  obtain ⟨R, hR⟩ : ∃ R, R = ffit n := ⟨_, rfl⟩
  rw [← hR]
  have HR : FF (mayOf n.kind) n R := ⟨hR⟩
  have HT : Hid (Tab w) := hTab
  clear hR hTab
  unfold nv
  obtain ⟨k, at_, wh, close, decl, typ, op, val, name, kids⟩ := n
  simp only at HR ⊢
  obtain ⟨kl, hkl⟩ : ∃ kl, kl = kids.length := ⟨_, rfl⟩
  rw [← hkl]
  clear hkl
  go_enter Tryd.func23, Tryd.ntmps23
  go_wp2_with fail
  refine (fieldsOf_any _ _).mono ?_
  rintro e w1 ⟨rfl, hb1⟩
  obtain ⟨m, hm⟩ : ∃ m, m = mayOf k := ⟨_, rfl⟩
  rw [← hm] at HR ⊢
  clear hm
  obtain ⟨a, b, c, d, d0, d1, t0, t1, o0, o1⟩ := m
  unfold mv
  have hs1 := hb1.size
  simp at hs1
  have hs2 : w.heap.size < w1.heap.size := by omega
  have hs3 : w.heap.size < w1.heap.size + 1 := by omega
  have hs4 : w.heap.size < w1.heap.size + 1 + 1 := by omega
  have hs5 : w.heap.size < w1.heap.size + 2 := by omega
  have hs6 : w.heap.size < w1.heap.size + 1 + 1 + 1 := by omega
  have hs7 : w.heap.size < w1.heap.size + 3 := by omega
  have f2 : w1.cell? ⟨w.heap.size, 2, none⟩ = some (.int .i64 wh) := cell_below hb1 (by simp) (by simp)
  have f3 : w1.cell? ⟨w.heap.size, 3, none⟩ = some (.int .i64 close) := cell_below hb1 (by simp) (by simp)
  have f4 : w1.cell? ⟨w.heap.size, 4, none⟩ = some (.int .i64 decl) := cell_below hb1 (by simp) (by simp)
  have f5 : w1.cell? ⟨w.heap.size, 5, none⟩ = some (.int .i64 typ) := cell_below hb1 (by simp) (by simp)
  have f6 : w1.cell? ⟨w.heap.size, 6, none⟩ = some (.int .i64 op) := cell_below hb1 (by simp) (by simp)
  have f7 : w1.cell? ⟨w.heap.size, 7, none⟩ = some (.int .i64 val) := cell_below hb1 (by simp) (by simp)
  have f8 : w1.cell? ⟨w.heap.size, 8, none⟩ = some (.string (bs name)) := cell_below hb1 (by simp) (by simp)
  have hbb : Below w.heap.size w w1 := ((Below.refl _ _).alloc (Nat.le_refl _) _).trans (hb1.mono (by simp))
  have HB : Hid _ := hbb
  clear hb1 hbb
  cases a
  · by_cases hw : wh = 0
    · subst hw
      cases b
      · by_cases hz : close = 0
        · subst hz
          by_cases hc1 : d0 ≤ decl
          · by_cases hc2 : decl ≤ d1
            · skip
              by_cases hd1 : t0 ≤ typ
              · by_cases hd2 : typ ≤ t1
                · skip
                  by_cases he1 : o0 ≤ op
                  · by_cases he2 : op ≤ o1
                    · skip
                      by_cases hv : val = 0
                      · subst hv
                        go_wp2_with (first | (go_at_call 36; refine (nameFits_any _ (HT.out.below (B := w.heap.size) (by repeat (first | exact HB.out | refine Below.alloc ?_ (by first | omega | (simp; omega)) _)) HT.out.1) d name).mono ?_; rintro e w2 ⟨rfl, hb2⟩; have hby : Below w.heap.size w w2 := (by refine Below.trans ?_ (hb2.mono (by first | omega | (simp; omega))); exact (by repeat (first | exact HB.out | refine Below.alloc ?_ (by first | omega | (simp; omega)) _))); clear hb2) | go_in)
                        go_ret
                        exact ⟨ret_b (by rw [HR.out]; first | (simp [inR, hc1, hc2, hd1, hd2, he1, he2]; done) | (simp [inR, hc1, hc2, hd1, hd2, he1, he2]; intros; omega)), hby⟩
                      · cases c
                        · skip
                          go_wp2_with (first | go_in)
                          go_ret
                          exact ⟨ret_b (by rw [HR.out]; first | (simp [inR, hc1, hc2, hd1, hd2, he1, he2, hv]; done) | (simp [inR, hc1, hc2, hd1, hd2, he1, he2, hv]; intros; omega)), (by repeat (first | exact HB.out | refine Below.alloc ?_ (by first | omega | (simp; omega)) _))⟩
                        · by_cases hp : 0 < val
                          · skip
                            go_wp2_with (first | (go_at_call 36; refine (nameFits_any _ (HT.out.below (B := w.heap.size) (by repeat (first | exact HB.out | refine Below.alloc ?_ (by first | omega | (simp; omega)) _)) HT.out.1) d name).mono ?_; rintro e w2 ⟨rfl, hb2⟩; have hby : Below w.heap.size w w2 := (by refine Below.trans ?_ (hb2.mono (by first | omega | (simp; omega))); exact (by repeat (first | exact HB.out | refine Below.alloc ?_ (by first | omega | (simp; omega)) _))); clear hb2) | go_in)
                            go_ret
                            exact ⟨ret_b (by rw [HR.out]; first | (simp [inR, hc1, hc2, hd1, hd2, he1, he2, hv, hp]; done) | (simp [inR, hc1, hc2, hd1, hd2, he1, he2, hv, hp]; intros; omega)), hby⟩
                          · skip
                            go_wp2_with (first | go_in)
                            go_ret
                            exact ⟨ret_b (by rw [HR.out]; first | (simp [inR, hc1, hc2, hd1, hd2, he1, he2, hv, hp]; done) | (simp [inR, hc1, hc2, hd1, hd2, he1, he2, hv, hp]; intros; omega)), (by repeat (first | exact HB.out | refine Below.alloc ?_ (by first | omega | (simp; omega)) _))⟩
                    · skip
                      go_wp2_with (first | go_in)
                      go_ret
                      exact ⟨ret_b (by rw [HR.out]; first | (simp [inR, hc1, hc2, hd1, hd2, he1, he2]; done) | (simp [inR, hc1, hc2, hd1, hd2, he1, he2]; intros; omega)), (by repeat (first | exact HB.out | refine Below.alloc ?_ (by first | omega | (simp; omega)) _))⟩
                  · skip
                    go_wp2_with (first | go_in)
                    go_ret
                    exact ⟨ret_b (by rw [HR.out]; first | (simp [inR, hc1, hc2, hd1, hd2, he1]; done) | (simp [inR, hc1, hc2, hd1, hd2, he1]; intros; omega)), (by repeat (first | exact HB.out | refine Below.alloc ?_ (by first | omega | (simp; omega)) _))⟩
                · skip
                  go_wp2_with (first | go_in)
                  go_ret
                  exact ⟨ret_b (by rw [HR.out]; first | (simp [inR, hc1, hc2, hd1, hd2]; done) | (simp [inR, hc1, hc2, hd1, hd2]; intros; omega)), (by repeat (first | exact HB.out | refine Below.alloc ?_ (by first | omega | (simp; omega)) _))⟩
              · skip
                go_wp2_with (first | go_in)
                go_ret
                exact ⟨ret_b (by rw [HR.out]; first | (simp [inR, hc1, hc2, hd1]; done) | (simp [inR, hc1, hc2, hd1]; intros; omega)), (by repeat (first | exact HB.out | refine Below.alloc ?_ (by first | omega | (simp; omega)) _))⟩
            · skip
              go_wp2_with (first | go_in)
              go_ret
              exact ⟨ret_b (by rw [HR.out]; first | (simp [inR, hc1, hc2]; done) | (simp [inR, hc1, hc2]; intros; omega)), (by repeat (first | exact HB.out | refine Below.alloc ?_ (by first | omega | (simp; omega)) _))⟩
          · skip
            go_wp2_with (first | go_in)
            go_ret
            exact ⟨ret_b (by rw [HR.out]; first | (simp [inR, hc1]; done) | (simp [inR, hc1]; intros; omega)), (by repeat (first | exact HB.out | refine Below.alloc ?_ (by first | omega | (simp; omega)) _))⟩
        · skip
          go_wp2_with (first | go_in)
          go_ret
          exact ⟨ret_b (by rw [HR.out]; first | (simp [inR, hz]; done) | (simp [inR, hz]; intros; omega)), (by repeat (first | exact HB.out | refine Below.alloc ?_ (by first | omega | (simp; omega)) _))⟩
      · skip
        by_cases hc1 : d0 ≤ decl
        · by_cases hc2 : decl ≤ d1
          · skip
            by_cases hd1 : t0 ≤ typ
            · by_cases hd2 : typ ≤ t1
              · skip
                by_cases he1 : o0 ≤ op
                · by_cases he2 : op ≤ o1
                  · skip
                    by_cases hv : val = 0
                    · subst hv
                      go_wp2_with (first | (go_at_call 36; refine (nameFits_any _ (HT.out.below (B := w.heap.size) (by repeat (first | exact HB.out | refine Below.alloc ?_ (by first | omega | (simp; omega)) _)) HT.out.1) d name).mono ?_; rintro e w2 ⟨rfl, hb2⟩; have hby : Below w.heap.size w w2 := (by refine Below.trans ?_ (hb2.mono (by first | omega | (simp; omega))); exact (by repeat (first | exact HB.out | refine Below.alloc ?_ (by first | omega | (simp; omega)) _))); clear hb2) | go_in)
                      go_ret
                      exact ⟨ret_b (by rw [HR.out]; first | (simp [inR, hc1, hc2, hd1, hd2, he1, he2]; done) | (simp [inR, hc1, hc2, hd1, hd2, he1, he2]; intros; omega)), hby⟩
                    · cases c
                      · skip
                        go_wp2_with (first | go_in)
                        go_ret
                        exact ⟨ret_b (by rw [HR.out]; first | (simp [inR, hc1, hc2, hd1, hd2, he1, he2, hv]; done) | (simp [inR, hc1, hc2, hd1, hd2, he1, he2, hv]; intros; omega)), (by repeat (first | exact HB.out | refine Below.alloc ?_ (by first | omega | (simp; omega)) _))⟩
                      · by_cases hp : 0 < val
                        · skip
                          go_wp2_with (first | (go_at_call 36; refine (nameFits_any _ (HT.out.below (B := w.heap.size) (by repeat (first | exact HB.out | refine Below.alloc ?_ (by first | omega | (simp; omega)) _)) HT.out.1) d name).mono ?_; rintro e w2 ⟨rfl, hb2⟩; have hby : Below w.heap.size w w2 := (by refine Below.trans ?_ (hb2.mono (by first | omega | (simp; omega))); exact (by repeat (first | exact HB.out | refine Below.alloc ?_ (by first | omega | (simp; omega)) _))); clear hb2) | go_in)
                          go_ret
                          exact ⟨ret_b (by rw [HR.out]; first | (simp [inR, hc1, hc2, hd1, hd2, he1, he2, hv, hp]; done) | (simp [inR, hc1, hc2, hd1, hd2, he1, he2, hv, hp]; intros; omega)), hby⟩
                        · skip
                          go_wp2_with (first | go_in)
                          go_ret
                          exact ⟨ret_b (by rw [HR.out]; first | (simp [inR, hc1, hc2, hd1, hd2, he1, he2, hv, hp]; done) | (simp [inR, hc1, hc2, hd1, hd2, he1, he2, hv, hp]; intros; omega)), (by repeat (first | exact HB.out | refine Below.alloc ?_ (by first | omega | (simp; omega)) _))⟩
                  · skip
                    go_wp2_with (first | go_in)
                    go_ret
                    exact ⟨ret_b (by rw [HR.out]; first | (simp [inR, hc1, hc2, hd1, hd2, he1, he2]; done) | (simp [inR, hc1, hc2, hd1, hd2, he1, he2]; intros; omega)), (by repeat (first | exact HB.out | refine Below.alloc ?_ (by first | omega | (simp; omega)) _))⟩
                · skip
                  go_wp2_with (first | go_in)
                  go_ret
                  exact ⟨ret_b (by rw [HR.out]; first | (simp [inR, hc1, hc2, hd1, hd2, he1]; done) | (simp [inR, hc1, hc2, hd1, hd2, he1]; intros; omega)), (by repeat (first | exact HB.out | refine Below.alloc ?_ (by first | omega | (simp; omega)) _))⟩
              · skip
                go_wp2_with (first | go_in)
                go_ret
                exact ⟨ret_b (by rw [HR.out]; first | (simp [inR, hc1, hc2, hd1, hd2]; done) | (simp [inR, hc1, hc2, hd1, hd2]; intros; omega)), (by repeat (first | exact HB.out | refine Below.alloc ?_ (by first | omega | (simp; omega)) _))⟩
            · skip
              go_wp2_with (first | go_in)
              go_ret
              exact ⟨ret_b (by rw [HR.out]; first | (simp [inR, hc1, hc2, hd1]; done) | (simp [inR, hc1, hc2, hd1]; intros; omega)), (by repeat (first | exact HB.out | refine Below.alloc ?_ (by first | omega | (simp; omega)) _))⟩
          · skip
            go_wp2_with (first | go_in)
            go_ret
            exact ⟨ret_b (by rw [HR.out]; first | (simp [inR, hc1, hc2]; done) | (simp [inR, hc1, hc2]; intros; omega)), (by repeat (first | exact HB.out | refine Below.alloc ?_ (by first | omega | (simp; omega)) _))⟩
        · skip
          go_wp2_with (first | go_in)
          go_ret
          exact ⟨ret_b (by rw [HR.out]; first | (simp [inR, hc1]; done) | (simp [inR, hc1]; intros; omega)), (by repeat (first | exact HB.out | refine Below.alloc ?_ (by first | omega | (simp; omega)) _))⟩
    · skip
      go_wp2_with (first | go_in)
      go_ret
      exact ⟨ret_b (by rw [HR.out]; first | (simp [inR, hw]; done) | (simp [inR, hw]; intros; omega)), (by repeat (first | exact HB.out | refine Below.alloc ?_ (by first | omega | (simp; omega)) _))⟩
  · skip
    cases b
    · by_cases hz : close = 0
      · subst hz
        by_cases hc1 : d0 ≤ decl
        · by_cases hc2 : decl ≤ d1
          · skip
            by_cases hd1 : t0 ≤ typ
            · by_cases hd2 : typ ≤ t1
              · skip
                by_cases he1 : o0 ≤ op
                · by_cases he2 : op ≤ o1
                  · skip
                    by_cases hv : val = 0
                    · subst hv
                      go_wp2_with (first | (go_at_call 36; refine (nameFits_any _ (HT.out.below (B := w.heap.size) (by repeat (first | exact HB.out | refine Below.alloc ?_ (by first | omega | (simp; omega)) _)) HT.out.1) d name).mono ?_; rintro e w2 ⟨rfl, hb2⟩; have hby : Below w.heap.size w w2 := (by refine Below.trans ?_ (hb2.mono (by first | omega | (simp; omega))); exact (by repeat (first | exact HB.out | refine Below.alloc ?_ (by first | omega | (simp; omega)) _))); clear hb2) | go_in)
                      go_ret
                      exact ⟨ret_b (by rw [HR.out]; first | (simp [inR, hc1, hc2, hd1, hd2, he1, he2]; done) | (simp [inR, hc1, hc2, hd1, hd2, he1, he2]; intros; omega)), hby⟩
                    · cases c
                      · skip
                        go_wp2_with (first | go_in)
                        go_ret
                        exact ⟨ret_b (by rw [HR.out]; first | (simp [inR, hc1, hc2, hd1, hd2, he1, he2, hv]; done) | (simp [inR, hc1, hc2, hd1, hd2, he1, he2, hv]; intros; omega)), (by repeat (first | exact HB.out | refine Below.alloc ?_ (by first | omega | (simp; omega)) _))⟩
                      · by_cases hp : 0 < val
                        · skip
                          go_wp2_with (first | (go_at_call 36; refine (nameFits_any _ (HT.out.below (B := w.heap.size) (by repeat (first | exact HB.out | refine Below.alloc ?_ (by first | omega | (simp; omega)) _)) HT.out.1) d name).mono ?_; rintro e w2 ⟨rfl, hb2⟩; have hby : Below w.heap.size w w2 := (by refine Below.trans ?_ (hb2.mono (by first | omega | (simp; omega))); exact (by repeat (first | exact HB.out | refine Below.alloc ?_ (by first | omega | (simp; omega)) _))); clear hb2) | go_in)
                          go_ret
                          exact ⟨ret_b (by rw [HR.out]; first | (simp [inR, hc1, hc2, hd1, hd2, he1, he2, hv, hp]; done) | (simp [inR, hc1, hc2, hd1, hd2, he1, he2, hv, hp]; intros; omega)), hby⟩
                        · skip
                          go_wp2_with (first | go_in)
                          go_ret
                          exact ⟨ret_b (by rw [HR.out]; first | (simp [inR, hc1, hc2, hd1, hd2, he1, he2, hv, hp]; done) | (simp [inR, hc1, hc2, hd1, hd2, he1, he2, hv, hp]; intros; omega)), (by repeat (first | exact HB.out | refine Below.alloc ?_ (by first | omega | (simp; omega)) _))⟩
                  · skip
                    go_wp2_with (first | go_in)
                    go_ret
                    exact ⟨ret_b (by rw [HR.out]; first | (simp [inR, hc1, hc2, hd1, hd2, he1, he2]; done) | (simp [inR, hc1, hc2, hd1, hd2, he1, he2]; intros; omega)), (by repeat (first | exact HB.out | refine Below.alloc ?_ (by first | omega | (simp; omega)) _))⟩
                · skip
                  go_wp2_with (first | go_in)
                  go_ret
                  exact ⟨ret_b (by rw [HR.out]; first | (simp [inR, hc1, hc2, hd1, hd2, he1]; done) | (simp [inR, hc1, hc2, hd1, hd2, he1]; intros; omega)), (by repeat (first | exact HB.out | refine Below.alloc ?_ (by first | omega | (simp; omega)) _))⟩
              · skip
                go_wp2_with (first | go_in)
                go_ret
                exact ⟨ret_b (by rw [HR.out]; first | (simp [inR, hc1, hc2, hd1, hd2]; done) | (simp [inR, hc1, hc2, hd1, hd2]; intros; omega)), (by repeat (first | exact HB.out | refine Below.alloc ?_ (by first | omega | (simp; omega)) _))⟩
            · skip
              go_wp2_with (first | go_in)
              go_ret
              exact ⟨ret_b (by rw [HR.out]; first | (simp [inR, hc1, hc2, hd1]; done) | (simp [inR, hc1, hc2, hd1]; intros; omega)), (by repeat (first | exact HB.out | refine Below.alloc ?_ (by first | omega | (simp; omega)) _))⟩
          · skip
            go_wp2_with (first | go_in)
            go_ret
            exact ⟨ret_b (by rw [HR.out]; first | (simp [inR, hc1, hc2]; done) | (simp [inR, hc1, hc2]; intros; omega)), (by repeat (first | exact HB.out | refine Below.alloc ?_ (by first | omega | (simp; omega)) _))⟩
        · skip
          go_wp2_with (first | go_in)
          go_ret
          exact ⟨ret_b (by rw [HR.out]; first | (simp [inR, hc1]; done) | (simp [inR, hc1]; intros; omega)), (by repeat (first | exact HB.out | refine Below.alloc ?_ (by first | omega | (simp; omega)) _))⟩
      · skip
        go_wp2_with (first | go_in)
        go_ret
        exact ⟨ret_b (by rw [HR.out]; first | (simp [inR, hz]; done) | (simp [inR, hz]; intros; omega)), (by repeat (first | exact HB.out | refine Below.alloc ?_ (by first | omega | (simp; omega)) _))⟩
    · skip
      by_cases hc1 : d0 ≤ decl
      · by_cases hc2 : decl ≤ d1
        · skip
          by_cases hd1 : t0 ≤ typ
          · by_cases hd2 : typ ≤ t1
            · skip
              by_cases he1 : o0 ≤ op
              · by_cases he2 : op ≤ o1
                · skip
                  by_cases hv : val = 0
                  · subst hv
                    go_wp2_with (first | (go_at_call 36; refine (nameFits_any _ (HT.out.below (B := w.heap.size) (by repeat (first | exact HB.out | refine Below.alloc ?_ (by first | omega | (simp; omega)) _)) HT.out.1) d name).mono ?_; rintro e w2 ⟨rfl, hb2⟩; have hby : Below w.heap.size w w2 := (by refine Below.trans ?_ (hb2.mono (by first | omega | (simp; omega))); exact (by repeat (first | exact HB.out | refine Below.alloc ?_ (by first | omega | (simp; omega)) _))); clear hb2) | go_in)
                    go_ret
                    exact ⟨ret_b (by rw [HR.out]; first | (simp [inR, hc1, hc2, hd1, hd2, he1, he2]; done) | (simp [inR, hc1, hc2, hd1, hd2, he1, he2]; intros; omega)), hby⟩
                  · cases c
                    · skip
                      go_wp2_with (first | go_in)
                      go_ret
                      exact ⟨ret_b (by rw [HR.out]; first | (simp [inR, hc1, hc2, hd1, hd2, he1, he2, hv]; done) | (simp [inR, hc1, hc2, hd1, hd2, he1, he2, hv]; intros; omega)), (by repeat (first | exact HB.out | refine Below.alloc ?_ (by first | omega | (simp; omega)) _))⟩
                    · by_cases hp : 0 < val
                      · skip
                        go_wp2_with (first | (go_at_call 36; refine (nameFits_any _ (HT.out.below (B := w.heap.size) (by repeat (first | exact HB.out | refine Below.alloc ?_ (by first | omega | (simp; omega)) _)) HT.out.1) d name).mono ?_; rintro e w2 ⟨rfl, hb2⟩; have hby : Below w.heap.size w w2 := (by refine Below.trans ?_ (hb2.mono (by first | omega | (simp; omega))); exact (by repeat (first | exact HB.out | refine Below.alloc ?_ (by first | omega | (simp; omega)) _))); clear hb2) | go_in)
                        go_ret
                        exact ⟨ret_b (by rw [HR.out]; first | (simp [inR, hc1, hc2, hd1, hd2, he1, he2, hv, hp]; done) | (simp [inR, hc1, hc2, hd1, hd2, he1, he2, hv, hp]; intros; omega)), hby⟩
                      · skip
                        go_wp2_with (first | go_in)
                        go_ret
                        exact ⟨ret_b (by rw [HR.out]; first | (simp [inR, hc1, hc2, hd1, hd2, he1, he2, hv, hp]; done) | (simp [inR, hc1, hc2, hd1, hd2, he1, he2, hv, hp]; intros; omega)), (by repeat (first | exact HB.out | refine Below.alloc ?_ (by first | omega | (simp; omega)) _))⟩
                · skip
                  go_wp2_with (first | go_in)
                  go_ret
                  exact ⟨ret_b (by rw [HR.out]; first | (simp [inR, hc1, hc2, hd1, hd2, he1, he2]; done) | (simp [inR, hc1, hc2, hd1, hd2, he1, he2]; intros; omega)), (by repeat (first | exact HB.out | refine Below.alloc ?_ (by first | omega | (simp; omega)) _))⟩
              · skip
                go_wp2_with (first | go_in)
                go_ret
                exact ⟨ret_b (by rw [HR.out]; first | (simp [inR, hc1, hc2, hd1, hd2, he1]; done) | (simp [inR, hc1, hc2, hd1, hd2, he1]; intros; omega)), (by repeat (first | exact HB.out | refine Below.alloc ?_ (by first | omega | (simp; omega)) _))⟩
            · skip
              go_wp2_with (first | go_in)
              go_ret
              exact ⟨ret_b (by rw [HR.out]; first | (simp [inR, hc1, hc2, hd1, hd2]; done) | (simp [inR, hc1, hc2, hd1, hd2]; intros; omega)), (by repeat (first | exact HB.out | refine Below.alloc ?_ (by first | omega | (simp; omega)) _))⟩
          · skip
            go_wp2_with (first | go_in)
            go_ret
            exact ⟨ret_b (by rw [HR.out]; first | (simp [inR, hc1, hc2, hd1]; done) | (simp [inR, hc1, hc2, hd1]; intros; omega)), (by repeat (first | exact HB.out | refine Below.alloc ?_ (by first | omega | (simp; omega)) _))⟩
        · skip
          go_wp2_with (first | go_in)
          go_ret
          exact ⟨ret_b (by rw [HR.out]; first | (simp [inR, hc1, hc2]; done) | (simp [inR, hc1, hc2]; intros; omega)), (by repeat (first | exact HB.out | refine Below.alloc ?_ (by first | omega | (simp; omega)) _))⟩
      · skip
        go_wp2_with (first | go_in)
        go_ret
        exact ⟨ret_b (by rw [HR.out]; first | (simp [inR, hc1]; done) | (simp [inR, hc1]; intros; omega)), (by repeat (first | exact HB.out | refine Below.alloc ?_ (by first | omega | (simp; omega)) _))⟩
end Go.Proofs.YtjepkcebfojiaaaDoor
