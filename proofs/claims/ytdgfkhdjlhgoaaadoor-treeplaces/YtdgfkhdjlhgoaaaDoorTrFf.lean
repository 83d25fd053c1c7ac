import Derived.Test.YtdgfkhdjlhgoaaaDoorTrEe
import Derived.Test.YtdgfkhdjlhgoaaaDoorTrH
set_option linter.unusedVariables false
set_option linter.unusedSimpArgs false
namespace Go.Proofs.YtdgfkhdjlhgoaaaDoor
open Go.ChangeShapes Go.WideShapes Go.ChangeAt Go.RowKit

theorem ret_ti {v : Value} {a b : Int} (h : a = b) : Ending.returned (.tuple #[v, .int .i64 a]) = .returned (.tuple #[v, .int .i64 b]) := by rw [h]

set_option maxRecDepth 10000 in
set_option maxHeartbeats 4000000 in
theorem print_no (w : World) (hTab : Tab w) (no : Option Addr) (nc nn : Nat) (fo : Option Addr) (fc fn : Nat) (T : Tr) (hnn : nn = T.nodes.length) (hfn : fn = T.funcs.length) (hN : Nodes w no nc T.nodes) (hF : Ints w fo fc T.funcs) (hm : nn ≤ 1000000000) (hc : chk T = false) :
    Calls Tryd.prog 11 #[.agg #[.slice no nn nc, .slice fo fn fc]] w fun e w' => e = .returned (.tuple #[.slice none 0 0, .int .i64 30]) ∧ Below w.heap.size w w' := by
  have hb1 : ∀ (X : Obj) (K : Nat), K ≤ w.heap.size → Below K w (w.alloc X) := fun X K hK => (Below.refl _ _).alloc hK _
  have HH : Hid (nn = T.nodes.length ∧ fn = T.funcs.length ∧ chk T = false) := ⟨hnn, hfn, hc⟩
  clear hnn hfn hc
  go_enter Tryd.func11, Tryd.ntmps11
  go_wp2_with fail
  refine (check_any _ (hTab.below (hb1 _ _ (Nat.le_refl _)) hTab.1) no nc nn fo fc fn T HH.out.1 HH.out.2.1 (hN.below (hb1 _ _ (Nat.le_refl _)) (Nat.le_refl _)) (hF.below (hb1 _ _ (Nat.le_refl _)) (Nat.le_refl _)) hm).mono ?_
  rintro e w1 ⟨rfl, hbc⟩
  rw [HH.out.2.2]
  have hbw : Below w.heap.size w w1 := (hb1 _ _ (Nat.le_refl _)).trans (hbc.mono (by simp))
  simp only [Bool.false_eq_true, if_false]
  go_wp2_with fail
  go_ret2
  exact ⟨rfl, hbw⟩

/-- All functions, one after another. -/
inductive PrintsOK (N : List Nd) : List Int → Ps → Ps → Prop
  | nil (s : Ps) : PrintsOK N [] s s
  | cons {f r s s1 s2 k} : RunsOK N k ⟨s.text, [wp f], s.opn⟩ s1 → s1.todo = [] → PrintsOK N r s1 s2 → PrintsOK N (f :: r) s s2
theorem PrintsOK.inv {N f r s s2} (h : PrintsOK N (f :: r) s s2) : ∃ k s1, RunsOK N k ⟨s.text, [wp f], s.opn⟩ s1 ∧ s1.todo = [] ∧ PrintsOK N r s1 s2 := by
  cases h with
  | cons h1 h2 h3 => exact ⟨_, _, h1, h2, h3⟩
theorem PrintsOK.done {N s s2} (h : PrintsOK N [] s s2) : s2 = s := by cases h; rfl

set_option maxRecDepth 10000 in
set_option maxHeartbeats 4000000 in
theorem print_yes (w : World) (hTab : Tab w) (hTT : 0 < w.heap.size ∧ 1 < w.heap.size) (hT1 : ∀ i, i < 4 → w.cell? ⟨0, i, none⟩ = some (.string (bs (TYPES.getD i [])))) (hT2 : ∀ i, i < 23 → w.cell? ⟨1, i, none⟩ = some (.string (bs (OPS.getD i [])))) (hTP : ∀ w', Below w.heap.size w w' → TabP w')
    (no : Option Addr) (nc nn : Nat) (fo : Option Addr) (fc fn : Nat) (T : Tr) (hnn : nn = T.nodes.length) (hfn : fn = T.funcs.length) (hN : Nodes w no nc T.nodes) (hF : Ints w fo fc T.funcs) (hm : nn ≤ 1000000000) (hc : chk T = true) (S' : Ps) (hP : PrintsOK T.nodes T.funcs ⟨[], [], 0⟩ S') :
    Calls Tryd.prog 11 #[.agg #[.slice no nn nc, .slice fo fn fc]] w fun e w' => (∃ v n, e = .returned (.tuple #[v, .int .i64 0]) ∧ OwnB w' w.heap.size v n S'.text) ∧ Below w.heap.size w w' := by
  have hb1 : ∀ (X : Obj) (K : Nat), K ≤ w.heap.size → Below K w (w.alloc X) := fun X K hK => (Below.refl _ _).alloc hK _
  have HH : Hid (nn = T.nodes.length ∧ fn = T.funcs.length ∧ chk T = true) := ⟨hnn, hfn, hc⟩
  have hfc : fn ≤ fc := by have := hF.le; omega
  have hfm := hF.mx
  have HT1 : Hid _ := hT1
  have HT2 : Hid _ := hT2
  have HTP : Hid _ := hTP
  have HTT : Hid _ := hTT
  clear hnn hfn hc hT1 hT2 hTP hTT
  go_enter Tryd.func11, Tryd.ntmps11
  go_wp2_with fail
  refine (check_any _ (hTab.below (hb1 _ _ (Nat.le_refl _)) hTab.1) no nc nn fo fc fn T HH.out.1 HH.out.2.1 (hN.below (hb1 _ _ (Nat.le_refl _)) (Nat.le_refl _)) (hF.below (hb1 _ _ (Nat.le_refl _)) (Nat.le_refl _)) hm).mono ?_
  rintro e w1 ⟨rfl, hbc⟩
  rw [HH.out.2.2]
  have hbw : Below w.heap.size w w1 := (hb1 _ _ (Nat.le_refl _)).trans (hbc.mono (by simp))
  have hs1 := hbc.size
  simp at hs1
  have f0 : w1.cell? ⟨w.heap.size, 0, none⟩ = some (.slice no nn nc) := cell_below hbc (by simp) (by simp)
  have f1 : w1.cell? ⟨w.heap.size, 1, none⟩ = some (.slice fo fn fc) := cell_below hbc (by simp) (by simp)
  have hlt1 : w.heap.size < w1.heap.size := by omega
  simp only [if_true]
  clear hbc
  go_wp2_with fail
  have hbA : Below w1.heap.size w1 (w1.alloc (.cells #[.slice no nn nc, .slice none 0 0, .slice none 0 0, .int .i64 0] 56)) := (Below.refl _ _).alloc (Nat.le_refl _) _
  have hS0 : PSt (w1.alloc (.cells #[.slice no nn nc, .slice none 0 0, .slice none 0 0, .int .i64 0] 56)) w1.heap.size (w1.heap.size + 1) w1.heap.size (.slice no nn nc) ⟨[], [], 0⟩ :=
    ⟨_, _, 0, 0, ⟨heap_alloc_last _ _⟩, OwnB.nil _ _, OwnP.nil _ _, (fun g hg => by simp [Value.ownBlock] at hg), (fun g hg => by simp [Value.ownBlock] at hg), Nat.le_refl _, by omega⟩
  have hE0 : Env w1 w1.heap.size no nn nc T.nodes := ⟨⟨w1, rfl, Below.refl _ _, hN.below hbw (Nat.le_refl _),
    ⟨⟨by have := HTT.out.1; omega, by have := HTT.out.2; omega, Nat.le_refl _⟩, fun i hi => cell_below hbw HTT.out.1 (HT1.out i hi), fun i hi => cell_below hbw HTT.out.2 (HT2.out i hi)⟩,
    fun w' hb => HTP.out w' (hbw.trans (hb.mono (by omega)))⟩, HH.out.1⟩
  have HE : Hid _ := hE0
  clear hE0 f0 f1
  go_loopw [19] (fun c wr => ∃ (i : Nat) (U : Ps), i ≤ fn ∧ c = .int .i64 i ∧ PrintsOK T.nodes (T.funcs.drop i) U S' ∧ U.todo = [] ∧ PSt wr w1.heap.size wr.heap.size w1.heap.size (.slice no nn nc) U ∧ Below w1.heap.size w1 wr) (fun c _ => fn - (intOf c).toNat)
  case atStart => exact ⟨0, _, by omega, rfl, by simpa using hP, rfl, hS0.up (by simp), hbA⟩
  case round =>
    obtain ⟨i, U, hi, rfl, hPU, hU0, hSU, hbr⟩ := hrel
    have hbs := hbr.size
    have hbrw : Below w.heap.size w wr := hbw.trans (hbr.mono (by omega))
    have hpl := hSU.le
    by_cases hlt : i < fn
    · obtain ⟨b, o, rfl, hA⟩ := hF.out (by intro e; have := HH.out.2.1; simp [e] at this; omega)
      have p0 := (hA.below hbrw hA.lt).cell i (HH.out.2.1 ▸ hlt)
      rw [List.drop_eq_getElem_cons (HH.out.2.1 ▸ hlt)] at hPU
      obtain ⟨f, hf⟩ : ∃ f, f = T.funcs[i]'(HH.out.2.1 ▸ hlt) := ⟨_, rfl⟩
      rw [← hf] at p0 hPU
      obtain ⟨k, U1, hR, hU1, hP1⟩ := hPU.inv
      have HPU : Hid _ := hPU
      clear hf hPU
      go_wp2_with (first
        | (go_at_call 24; refine (whole_any _ _).mono ?_; rintro e w' ⟨rfl, rfl⟩)
        | (go_at_call 23; refine (put_new _ _ w1.heap.size wr.heap.size w1.heap.size (.slice no nn nc) U [wp f] 1 _ (hSU.below (by repeat (first | refine Below.alloc ?_ (by first | omega | (simp; done) | (simp; omega)) _ | refine Below.drew ?_ | exact Below.refl _ _)) (Nat.le_refl _)) (by first | omega | (simp; done) | (simp; omega)) (by simp) rfl rfl (by rw [hU0]; simp)).mono ?_; rintro e w4 ⟨rfl, HS4, hb4, _⟩; have hb4w : Below w1.heap.size w1 w4 := (by refine hbr.trans (Below.trans ?_ hb4); exact (by repeat (first | refine Below.alloc ?_ (by first | omega | (simp; done) | (simp; omega)) _ | refine Below.drew ?_ | exact Below.refl _ _))); clear hb4; rw [hU0] at HS4)
        | (go_at_call 25; refine (printAll_st _ w1.heap.size _ w1.heap.size no nn nc T.nodes ⟨U.text, [wp f], U.opn⟩ U1 k (HE.out.below hb4w) HS4 (Nat.le_refl _) hR).mono ?_; rintro e w5 ⟨rfl, HS5, hb5⟩; have hb5w := hb4w.trans hb5))
      go_roundw
      case rel => exact ⟨i + 1, U1, by omega, by go_num, hP1, hU1, HS5, hb5w⟩
      case measure => simp [intOf]; omega
    · obtain rfl : i = fn := by omega
      rw [List.drop_of_length_le (by have := HH.out.2.1; omega)] at hPU
      obtain rfl := hPU.done
      obtain ⟨tv, dv, n, m, h⟩ := hSU.out
      obtain ⟨q0, q1, q2, q3⟩ := h.prv.cells
      go_wp2_with fail
      go_ret2
      exact ⟨⟨_, n, rfl, ⟨h.txt.len, h.txt.out.1, h.txt.out.2.imp id (fun ⟨g, c, cur, e1, e2, e3⟩ => ⟨g, c, cur, e1, by omega, e3⟩)⟩⟩, hbrw⟩
end Go.Proofs.YtdgfkhdjlhgoaaaDoor
