import Derived.Test.YtdbkjjelaipcfaaDoorSuS
set_option linter.unusedVariables false
set_option linter.unusedSimpArgs false
namespace Go.Proofs.YtdbkjjelaipcfaaDoor
open Go.ChangeShapes Go.WideShapes Go.ChangeAt Go.RowKit Go.Maps

def formedP (FS : List Fu) (m : Int) : Bool := namesP FS && (mainP FS m && FS.all (formP FS))
def firstP (FS : List Fu) : List Fu → Int
  | [] => 0
  | f :: L => if faultP FS f = 0 then firstP FS L else faultP FS f
def checkP (FS : List Fu) (m : Int) : Int := if formedP FS m = false then 90 else firstP FS FS
/-- Small enough for this machine. -/
structure FewF (f : Fu) : Prop where
  blks : f.blks.length ≤ 1000000
  tot : totK f f.blks.length ≤ 1000000000
theorem Tab.af {w w' : World} {A : Obj} (h : Tab w) (a : Af1 w A w') : Tab w' := h.below a.low h.1
set_option maxRecDepth 100000 in
set_option maxHeartbeats 2000000 in
theorem formed_any (w : World) (hTab : Tab w) (fa : Option Addr) (fn fc : Nat) (FS : List Fu) (hfn : fn = FS.length) (hF : Fus w fa fc FS) (hlen : fn ≤ 1000000) (m : Int) (T : Bool) (hT : formedP FS m = T) :
    Calls Tryd.prog 8 #[.agg #[.slice fa fn fc, .int .i64 m]] w fun e w' => e = .returned (.bool T) ∧ Below w.heap.size w w' := by
  subst hT
  have A0 : Af1 w (.cells #[.slice fa fn fc, .int .i64 m] 36) (w.alloc (.cells #[.slice fa fn fc, .int .i64 m] 36)) := Af1.refl _ _
  have H1 : Hid (∀ W, Af1 w (.cells #[.slice fa fn fc, .int .i64 m] 36) W → ∀ T, namesP FS = T → Calls Tryd.prog 10 #[.slice fa fn fc, .func (.func 11) #[] #[]] W fun e w' => e = .returned (.bool T) ∧ Below W.heap.size W w') := fun W h T hT => by subst hT; exact namesAll_any W (hTab.af h) fa fn fc FS hfn (hF.below h.low (Nat.le_refl _)) hlen
  have H2 : Hid (∀ W, Af1 w (.cells #[.slice fa fn fc, .int .i64 m] 36) W → ∀ T, mainP FS m = T → Calls Tryd.prog 12 #[.agg #[.slice fa fn fc, .int .i64 m]] W fun e w' => e = .returned (.bool T) ∧ Below W.heap.size W w') := fun W h T hT => by subst hT; exact mainFits_any W fa fn fc FS hfn (hF.below h.low (Nat.le_refl _)) m
  have H3 : Hid (∀ W, Af1 w (.cells #[.slice fa fn fc, .int .i64 m] 36) W → ∀ T, FS.all (formP FS) = T → Calls Tryd.prog 13 #[.slice fa fn fc, .func (.func 14) #[] #[.pointer (some ⟨w.heap.size, 0, none⟩)]] W fun e w' => e = .returned (.bool T) ∧ Below W.heap.size W w') := fun W h T hT => everyF2_at W w.heap.size fa fn fc FS hfn (hF.below h.low (Nat.le_refl _)) m h.one T hT
  have H4 : Hid (∀ W, Af1 w (.cells #[.slice fa fn fc, .int .i64 m] 36) W → W.cell? ⟨w.heap.size, 0, none⟩ = some (.slice fa fn fc) ∧ W.cell? ⟨w.heap.size, 1, none⟩ = some (.int .i64 m)) := fun W h => ⟨cell_arr h.one rfl, cell_arr h.one rfl⟩
  unfold formedP
  clear hTab hF hfn hlen
  cases q1 : namesP FS with
  | false =>
    go_enter Tryd.func8, Tryd.ntmps8
    go_wp2_with (first
      | (go_at_call 10; refine (H1.out _ A0 _ q1).mono ?_; rintro e w1 ⟨rfl, hb1⟩; have A1 := A0.next hb1; obtain ⟨y0, y1⟩ := H4.out w1 A1))
    go_ret
    exact ⟨by simp, A1.low⟩
  | true =>
  cases q2 : mainP FS m with
  | false =>
    go_enter Tryd.func8, Tryd.ntmps8
    go_wp2_with (first
      | (go_at_call 10; refine (H1.out _ A0 _ q1).mono ?_; rintro e w1 ⟨rfl, hb1⟩; have A1 := A0.next hb1; obtain ⟨y0, y1⟩ := H4.out w1 A1)
      | (go_at_call 12; refine (H2.out _ A1 _ q2).mono ?_; rintro e w2 ⟨rfl, hb2⟩; have A2 := A1.next hb2; obtain ⟨z0, z1⟩ := H4.out w2 A2))
    go_ret
    exact ⟨by simp, A2.low⟩
  | true =>
    generalize q3 : FS.all (formP FS) = T
    go_enter Tryd.func8, Tryd.ntmps8
    go_wp2_with (first
      | (go_at_call 10; refine (H1.out _ A0 _ q1).mono ?_; rintro e w1 ⟨rfl, hb1⟩; have A1 := A0.next hb1; obtain ⟨y0, y1⟩ := H4.out w1 A1)
      | (go_at_call 12; refine (H2.out _ A1 _ q2).mono ?_; rintro e w2 ⟨rfl, hb2⟩; have A2 := A1.next hb2; obtain ⟨z0, z1⟩ := H4.out w2 A2)
      | (go_at_call 13; refine (H3.out _ A2 _ q3).mono ?_; rintro e w3 ⟨rfl, hb3⟩; have A3 := A2.next hb3))
    go_ret
    exact ⟨by simp, A3.low⟩
theorem faultP_range (FS : List Fu) (f : Fu) : 0 ≤ faultP FS f ∧ faultP FS f ≤ 96 := by
  unfold faultP
  repeat' split
  all_goals omega
set_option maxRecDepth 100000 in
set_option maxHeartbeats 4000000 in
theorem check_any (w : World) (hTab : Tab w) (fa : Option Addr) (fn fc : Nat) (FS : List Fu) (hfn : fn = FS.length) (hF : Fus w fa fc FS) (hlen : fn ≤ 1000000) (hfew : ∀ f ∈ FS, FewF f) (m : Int) (R : Int) (hR : checkP FS m = R) :
    Calls Tryd.prog 6 #[.agg #[.slice fa fn fc, .int .i64 m]] w fun e w' => e = .returned (.int .i64 R) ∧ Below w.heap.size w w' := by
  have A0 : Af1 w (.cells #[.slice fa fn fc, .int .i64 m] 36) (w.alloc (.cells #[.slice fa fn fc, .int .i64 m] 36)) := Af1.refl _ _
  have H1 : Hid (∀ W, Af1 w (.cells #[.slice fa fn fc, .int .i64 m] 36) W → ∀ T, formedP FS m = T → Calls Tryd.prog 8 #[.agg #[.slice fa fn fc, .int .i64 m]] W fun e w' => e = .returned (.bool T) ∧ Below W.heap.size W w') := fun W h T hT => formed_any W (hTab.af h) fa fn fc FS hfn (hF.below h.low (Nat.le_refl _)) hlen m T hT
  unfold checkP at hR
  cases q1 : formedP FS m with
  | false =>
    rw [if_pos q1] at hR
    subst hR
    clear hTab hF hfn hlen hfew
    go_enter Tryd.func6, Tryd.ntmps6
    go_wp2_with (go_at_call 8; refine (H1.out _ A0 _ q1).mono ?_; rintro e w1 ⟨rfl, hb1⟩)
    go_ret
    exact ⟨rfl, (A0.next hb1).low⟩
  | true =>
    rw [if_neg (by rw [q1]; simp)] at hR
    have hforms : ∀ G ∈ FS, formP FS G = true := by
      simp only [formedP, Bool.and_eq_true, List.all_eq_true] at q1
      exact q1.2.2
    have HF : Hid (Fus w fa fc FS) := hF
    have HN : Hid (fn = FS.length) := hfn
    have HFM : Hid (∀ G ∈ FS, formP FS G = true) := hforms
    have HFW : Hid (∀ f ∈ FS, FewF f) := hfew
    have HR : Hid (firstP FS (FS.drop 0) = R) := by rw [List.drop_zero]; exact hR
    have hfx : fn ≤ 9223372036854775807 := by omega
    clear hTab hF hfn hfew hforms hR
    go_enter Tryd.func6, Tryd.ntmps6
    go_wp2_with (go_at_call 8; refine (H1.out _ A0 _ q1).mono ?_; rintro e w1 ⟨rfl, hb1⟩; have A1 := A0.next hb1; have y0 := cell_arr (i := 0) A1.one rfl)
    have HA1 : Hid _ := A1
    clear A0 A1 y0 hb1 H1 q1
    go_loopw [12] (fun v wr => ∃ k : Nat, k ≤ fn ∧ v = .int .i64 k ∧ Hid (Af1 w (.cells #[.slice fa fn fc, .int .i64 m] 36) wr) ∧ Hid (firstP FS (FS.drop k) = R)) (fun v _ => fn - (intOf v).toNat)
    case atStart => exact ⟨0, by omega, rfl, HA1.out, HR.out⟩
    case round =>
      clear HA1 HR
      obtain ⟨k, hk, rfl, HA, HR⟩ := hrel
      by_cases hlt : k < fn
      · have hk2 : k < FS.length := by have := HN.out; omega
        have hFr := HF.out.below HA.out.low (Nat.le_refl _)
        obtain ⟨b, o, xa, xc, la, lc, ma, mc, eb, hlb, c0, c1, c2, c3, c4, g1, g2, g3⟩ := hFr.at hk2
        obtain ⟨s, hs⟩ : ∃ s, s = FS[k].name := ⟨_, rfl⟩
        obtain ⟨xl, hxl⟩ : ∃ xl, xl = FS[k].params.length := ⟨_, rfl⟩
        obtain ⟨r, hr⟩ : ∃ r, r = FS[k].result := ⟨_, rfl⟩
        obtain ⟨ll, hll⟩ : ∃ ll, ll = FS[k].vals.length := ⟨_, rfl⟩
        obtain ⟨ml, hml⟩ : ∃ ml, ml = FS[k].blks.length := ⟨_, rfl⟩
        rw [← hs] at c0
        rw [← hxl] at c1
        rw [← hr] at c2
        rw [← hll] at c3
        rw [← hml] at c4
        have B5 := below_new wr (.cells #[.string s, .slice xa xl xc, .int .i64 r, .slice la ll lc, .slice ma ml mc] 29)
        have A5 := HA.out.next B5
        have y0 := cell_arr (i := 0) A5.one rfl
        have hC : Ctx (wr.alloc (.cells #[.string s, .slice xa xl xc, .int .i64 r, .slice la ll lc, .slice ma ml mc] 29)) s xa xl xc r la ll lc ma ml mc fa fn fc FS[k] FS := ⟨hs, hxl, hr, hll, hml, HN.out, g1.below B5 (Nat.le_refl _), g2.below B5 (Nat.le_refl _), g3.below B5 (Nat.le_refl _), hFr.below B5 (Nat.le_refl _)⟩
        have hfk := HFW.out FS[k] (List.getElem_mem hk2)
        have HCF : Hid _ := fault_any _ hC HFM.out (HFM.out _ (List.getElem_mem hk2)) (by rw [hml]; exact hfk.blks) hfk.tot
        have hdr : FS.drop k = FS[k] :: FS.drop (k + 1) := List.drop_eq_getElem_cons hk2
        have hR := HR.out
        rw [hdr] at hR
        simp only [firstP] at hR
        have hrg := faultP_range FS FS[k]
        generalize faultP FS FS[k] = F at HCF hR hrg
        have HA5 : Hid _ := A5
        subst eb
        clear hs hxl hr hll hml g1 g2 g3 hC hFr hfk hdr A5 B5 HR HA
        by_cases hz : F = 0
        · rw [if_pos hz] at hR
          subst hz
          have HR2 : Hid (firstP FS (FS.drop (k + 1)) = R) := hR
          clear hR hrg
          go_wp2_with (go_at_call 9; refine Calls.mono HCF.out ?_; rintro e w6 ⟨rfl, hb6⟩; have HA6 := show Hid _ from HA5.out.next hb6; clear hb6)
          go_roundw
          case rel => exact ⟨k + 1, by omega, by go_num, HA6.out, HR2.out⟩
          case measure => simp [intOf]; omega
        · rw [if_neg hz] at hR
          subst hR
          have hz2 : (F != 0) = true := by simp [hz]
          have hz3 : (F == 0) = false := by simp [hz]
          clear hz hrg
          go_wp2_with (go_at_call 9; refine Calls.mono HCF.out ?_; rintro e w6 ⟨rfl, hb6⟩)
          go_ret
          exact ⟨rfl, (HA5.out.next hb6).low⟩
      · have hkn : k = fn := by omega
        subst hkn
        have hR := HR.out
        rw [List.drop_of_length_le (by have := HN.out; omega)] at hR
        simp only [firstP] at hR
        have HRR : Hid (R = 0) := hR.symm
        have HL : Hid _ := HA.out.low
        clear HR hR HA
        go_wp2_with fail
        go_ret
        exact ⟨by rw [HRR.out]; rfl, HL.out⟩
end Go.Proofs.YtdbkjjelaipcfaaDoor
