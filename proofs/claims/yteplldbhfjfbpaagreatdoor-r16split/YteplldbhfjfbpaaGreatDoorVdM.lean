import Derived.Test.YteplldbhfjfbpaaGreatDoorVdL
import Derived.Test.YteplldbhfjfbpaaGreatDoorVcL
import Derived.Deep.Cut
import Derived.Deep.CutRange
import Derived.Deep.CutBlock
set_option linter.unusedVariables false
set_option linter.unusedSimpArgs false
namespace Go.Proofs.YteplldbhfjfbpaaGreatDoor
open Go.ChangeShapes Go.WideShapes Go.ChangeAt Go.RowKit Go.Maps

/-- What the three runs have in common. -/
structure SpP (C : List Ri) (FS : List Rf) (S r : Int) (a b : Nat) (R0 RA RZ : Rv) : Prop where
  isA : smG C FS S r a R0 = RA
  isZ : smG C FS S r (a + b) R0 = RZ
  az : smG C FS S r b RA = RZ
  st : RA.steps ≤ (a : Int)
  pre : RA.ev <+: RZ.ev
  fin : ¬ RA.fin = 0 → RZ = RA
theorem SpP.of (C : List Ri) (FS : List Rf) (S r : Int) (a b : Nat) (R0 : Rv) (h0 : R0.steps = 0) : SpP C FS S r a b R0 (smG C FS S r a R0) (smG C FS S r (a + b) R0) := by
  refine ⟨rfl, rfl, (smG_add a b R0).symm, ?_, ?_, fun h => smG_ended h⟩
  · rw [steps_smG, h0]
    have := cntG_le (C := C) (FS := FS) (S := S) (room := r) a R0
    omega
  · rw [smG_add]
    exact pre_smG b _
/-- A machine of the statement's code. -/
structure SpS (s : Rst) (C : List Ri) (FS : List Rf) (S r : Int) (R0 : Rv) : Prop where
  is : s.C = C ∧ s.FS = FS ∧ s.S = S ∧ s.room = r
  pg : PgR s
  ri : RI s 0 R0
/-- The machine that makes step by step. -/
structure SpK (s : Rst) (wI W : World) (C : List Ri) (FS : List Rf) (S r : Int) (h2 h3 : Nat) (R0 : Rv) (i : Nat) : Prop where
  ms : MS s W (smG C FS S r i R0) (fun k => (h2 ≤ k ∧ k < h3) ∨ wI.heap.size ≤ k)
  ri : RI s i (smG C FS S r i R0)
  st : (smG C FS S r i R0).steps = (i : Int)
  only : Only (fun k => h2 ≤ k ∧ k < h3) wI W
theorem SpK.step {s wI W C FS S r h2 h3 R0 i} (h : SpK s wI W C FS S r h2 h3 R0 i) (hs : SpS s C FS S r R0) (hi : i < 32766) :
    Calls Tryz.prog 19 #[.pointer (some ⟨s.mb, 0, none⟩)] W fun e w' => ∃ T : Bool, e = .returned (.bool T) ∧ (T = true → SpK s wI w' C FS S r h2 h3 R0 (i + 1)) ∧ (T = false → (smG C FS S r (i + 1) R0).over = true ∧ (smG C FS S r (i + 1) R0).steps = (i : Int) ∧ MS s w' (smG C FS S r (i + 1) R0) (fun k => (h2 ≤ k ∧ k < h3) ∨ wI.heap.size ≤ k) ∧ Only (fun k => h2 ≤ k ∧ k < h3) wI w') := by
  refine (h.ms.step hs.pg h.ri (by omega)).mono ?_
  obtain ⟨e1, e2, e3, e4⟩ := hs.is
  rw [e1, e2, e3, e4]
  rintro e w' ⟨rfl, h1, h2', h3'⟩
  rw [← smG_one] at h1 h2'
  have sz := h.only.size
  have hO : Only (fun k => h2 ≤ k ∧ k < h3) wI w' := h.only.trans h3' fun j hj q => q.resolve_right (by omega)
  have hM : MS s w' (smG C FS S r (i + 1) R0) (fun k => (h2 ≤ k ∧ k < h3) ∨ wI.heap.size ≤ k) := h1.mono fun k hk => hk.elim id fun q => Or.inr (Nat.le_trans sz q)
  have es := steps_stp C FS S r (smG C FS S r i R0)
  rw [← smG_one] at es
  refine ⟨_, rfl, fun q => ⟨hM, h2', ?_, hO⟩, fun q => ⟨?_, ?_, hM, hO⟩⟩
  · rw [es, q, if_pos rfl, h.st]
    omega
  · rw [smG_one]
    exact stp_false q
  · rw [es, q, if_neg (by simp), h.st]
/-- What the last statement reads. -/
def SpQ (wV W : World) (qx qz : Nat) (xs zs : Value) (x1 x2 x3 x4 x5 x6 z1 z2 z3 z4 z5 z6 : Int) : Prop :=
  (W.cell? ⟨qx, 0, none⟩ = some xs ∧ W.cell? ⟨qx, 1, none⟩ = some (.int .i64 x1) ∧ W.cell? ⟨qx, 2, none⟩ = some (.int .i64 x2) ∧ W.cell? ⟨qx, 3, none⟩ = some (.int .i64 x3) ∧ W.cell? ⟨qx, 4, none⟩ = some (.int .i64 x4) ∧ W.cell? ⟨qx, 5, none⟩ = some (.int .i64 x5) ∧ W.cell? ⟨qx, 6, none⟩ = some (.int .i64 x6)) ∧ (W.cell? ⟨qz, 0, none⟩ = some zs ∧ W.cell? ⟨qz, 1, none⟩ = some (.int .i64 z1) ∧ W.cell? ⟨qz, 2, none⟩ = some (.int .i64 z2) ∧ W.cell? ⟨qz, 3, none⟩ = some (.int .i64 z3) ∧ W.cell? ⟨qz, 4, none⟩ = some (.int .i64 z4) ∧ W.cell? ⟨qz, 5, none⟩ = some (.int .i64 z5) ∧ W.cell? ⟨qz, 6, none⟩ = some (.int .i64 z6)) ∧ qx < W.heap.size ∧ qz < W.heap.size ∧ Hid (Below wV.heap.size wV W)
theorem SpQ.of {wV W : World} {qx qz : Nat} {xs zs : Value} {x1 x2 x3 x4 x5 x6 z1 z2 z3 z4 z5 z6 : Int} (hx : wV.heap[qx]? = some (.cells #[xs, .int .i64 x1, .int .i64 x2, .int .i64 x3, .int .i64 x4, .int .i64 x5, .int .i64 x6] 40 (0, 0))) (hz : wV.heap[qz]? = some (.cells #[zs, .int .i64 z1, .int .i64 z2, .int .i64 z3, .int .i64 z4, .int .i64 z5, .int .i64 z6] 40 (0, 0))) (hb : Below wV.heap.size wV W) : SpQ wV W qx qz xs zs x1 x2 x3 x4 x5 x6 z1 z2 z3 z4 z5 z6 := by
  have lx := (Array.getElem?_eq_some_iff.1 hx).1
  have lz := (Array.getElem?_eq_some_iff.1 hz).1
  have kx := (hb.block _ lx).trans hx
  have kz := (hb.block _ lz).trans hz
  have sz := hb.size
  exact ⟨⟨cell_arr kx rfl, cell_arr kx rfl, cell_arr kx rfl, cell_arr kx rfl, cell_arr kx rfl, cell_arr kx rfl, cell_arr kx rfl⟩, ⟨cell_arr kz rfl, cell_arr kz rfl, cell_arr kz rfl, cell_arr kz rfl, cell_arr kz rfl, cell_arr kz rfl, cell_arr kz rfl⟩, by omega, by omega, hb⟩
set_option maxRecDepth 100000 in
set_option maxHeartbeats 8000000 in
theorem r16Split_in (w : World) (hTab : Tab w) (ca : Option Addr) (cc : Nat) (C : List Ri) (fa : Option Addr) (fc : Nat) (FS : List Rf) (m : Int) (hC : StsG w ca cc 5 (C.map riv)) (hCl : C.length ≤ 140737488351232) (hCn : ∀ x ∈ C, ReI x) (hF : StsG w fa fc 5 (FS.map rfv)) (hFl : FS.length ≤ 140737488351232) (hFn : ∀ f ∈ FS, ReR f) (ia : Option Addr) (ic : Nat) (I : List Int) (hI : Ints w ia ic I) (hIl : I.length ≤ 140737488351232) (hIf : ∀ x ∈ I, Fits x) (S r : Int) (hS : Fits S) (hr : Fits r) (a0 b0 : Int) (a b : Nat) (ha : bits BinOp.and IntKind.i64 a0 16383 = (a : Int)) (hb : bits BinOp.and IntKind.i64 b0 16383 = (b : Int)) (hal : a ≤ 16383) (hbl : b ≤ 16383) :
    Calls Tryz.prog 7 #[.agg #[.slice ca C.length cc, .slice fa FS.length fc, .int .i64 m], .slice ia I.length ic, .agg #[.int .i64 S, .int .i64 r], .int .i64 a0, .int .i64 b0] w fun e w' => e = .returned (.bool true) ∧ Below w.heap.size w w' := by
  obtain ⟨cn, hcn⟩ : ∃ n, n = C.length := ⟨_, rfl⟩
  obtain ⟨fn, hfn⟩ : ∃ n, n = FS.length := ⟨_, rfl⟩
  obtain ⟨n, hin⟩ : ∃ n, n = I.length := ⟨_, rfl⟩
  rw [← hcn, ← hfn, ← hin]
  rw [← hcn] at hCl
  rw [← hfn] at hFl
  rw [← hin] at hIl
  obtain ⟨W1, hW1⟩ : ∃ W, W = (w.alloc (.cells #[.slice ca cn cc, .slice fa fn fc, .int .i64 m] 29)).alloc (.cells #[.int .i64 S, .int .i64 r] 35) := ⟨_, rfl⟩
  have eal : W1 = al w [.cells #[.slice ca cn cc, .slice fa fn fc, .int .i64 m] 29, .cells #[.int .i64 S, .int .i64 r] 35] := hW1
  obtain ⟨p, hp⟩ : ∃ p, p = w.heap.size := ⟨_, rfl⟩
  have k0 : W1.heap[p]? = some (.cells #[.slice ca cn cc, .slice fa fn fc, .int .i64 m] 29 (0, 0)) := by rw [eal, hp]; exact al_at _ w 0 (by simp)
  have k1 : W1.heap[p + 1]? = some (.cells #[.int .i64 S, .int .i64 r] 35 (0, 0)) := by rw [eal, hp]; exact al_at _ w 1 (by simp)
  have b1 : Below w.heap.size w W1 := by rw [eal]; exact al_below _ w
  have HK0 : Hid _ := k0
  have HK1 : Hid _ := k1
  have HB1 : Hid _ := b1
  have HFI : Hid _ := fitsV_any W1 ca cn cc fa fn fc m ia n ic FS hfn (hF.below b1 (Nat.le_refl _)) (fun f hf => (hFn f hf).1) hCl hFl hIl
  have HIN : Hid (StsG w ca cc 5 (C.map riv) ∧ StsG w fa fc 5 (FS.map rfv) ∧ Ints w ia ic I) := ⟨hC, hF, hI⟩
  have HNU : Hid ((∀ x ∈ C, Fits x.n) ∧ ∀ x ∈ I, Fits x) := ⟨fun x hx => (hCn x hx).2.2.2.2, hIf⟩
  have HLE : Hid (cn = C.length ∧ fn = FS.length ∧ n = I.length) := ⟨hcn, hfn, hin⟩
  have HT : Hid (Tab w) := hTab
  have HT9 : Hid (Tab w) := hTab
  have HAB : Hid (a ≤ 16383 ∧ b ≤ 16383) := ⟨hal, hbl⟩
  have HNM : Hid (∀ W x, Calls Tryz.prog 11 #[.int .i64 x] W fun e w' => e = .returned (.int .i64 x) ∧ W = w') := numV_any
  clear hcn hfn hin hC hCl hCn hF hFl hFn hI hIl hIf hTab hal hbl hS hr eal k0 k1 b1
  go_enter Tryz.func7, Tryz.ntmps7
  go_upto_region 3 with fail
  rw [← hW1, ← hp]
  have HP : Hid (p = w.heap.size) := hp
  clear ha hb hW1 hp
  have x0 : W1.cell? ⟨p, 0, none⟩ = some (.slice ca cn cc) := cell_arr HK0.out rfl
  have x1 : W1.cell? ⟨p, 1, none⟩ = some (.slice fa fn fc) := cell_arr HK0.out rfl
  have x2 : W1.cell? ⟨p, 2, none⟩ = some (.int .i64 m) := cell_arr HK0.out rfl
  have l0 := (Array.getElem?_eq_some_iff.1 HK0.out).1
  have l1 := (Array.getElem?_eq_some_iff.1 HK1.out).1
  go_wp2_with fail
  refine Calls.mono HFI.out ?_
  rintro e wF ⟨⟨T, rfl, hT⟩, bF⟩
  have HBF : Hid (Below w.heap.size w wF) := HB1.out.trans (bF.mono HB1.out.size)
  have HKF0 := (bF.block _ l0).trans HK0.out
  have HKF1 := (bF.block _ l1).trans HK1.out
  clear bF HFI x0 x1 x2 HK0 HK1
  cases T with
  | false =>
    clear HKF0 HKF1 HNM HIN HNU
    go_wp2_with fail
    go_ret
    exact ⟨rfl, HBF.out⟩
  | true =>
  have HBD : Hid (cn ≤ 20000 ∧ n ≤ 20000 ∧ fn ≤ 1000) := hT rfl
  clear hT
  have HTF : Hid (Tab wF) := HT.out.below HBF.out HT.out.1
  have HAL : Hid _ := alive21_any wF HTF.out
  have lf0 := (Array.getElem?_eq_some_iff.1 HKF0).1
  have lf1 := (Array.getElem?_eq_some_iff.1 HKF1).1
  have HLP : Hid (p < wF.heap.size ∧ p + 1 < wF.heap.size) := ⟨lf0, lf1⟩
  have HK0 : Hid _ := HKF0
  have HK1 : Hid _ := HKF1
  clear HTF HT lf0 lf1 HKF0 HKF1
  go_upto_region 6 with (go_at_call 10; refine Calls.mono HAL.out ?_; rintro e wL ⟨rfl, bL⟩)
  have HBL : Hid (Below w.heap.size w wL) := HBF.out.trans (bL.mono HBF.out.size)
  have HKL0 : Hid _ := (bL.block _ HLP.out.1).trans HK0.out
  have HKL1 : Hid _ := (bL.block _ HLP.out.2).trans HK1.out
  have HLP2 : Hid (p < wL.heap.size ∧ p + 1 < wL.heap.size) := by have := bL.size; have := HLP.out; show _ ∧ _; omega
  clear bL HAL HBF HK0 HK1 HLP
  have x0 : wL.cell? ⟨p, 0, none⟩ = some (.slice ca cn cc) := cell_arr HKL0.out rfl
  have x1 : wL.cell? ⟨p, 1, none⟩ = some (.slice fa fn fc) := cell_arr HKL0.out rfl
  have x2 : wL.cell? ⟨p, 2, none⟩ = some (.int .i64 m) := cell_arr HKL0.out rfl
  have y0 : wL.cell? ⟨p + 1, 0, none⟩ = some (.int .i64 S) := cell_arr HKL1.out rfl
  have y1 : wL.cell? ⟨p + 1, 1, none⟩ = some (.int .i64 r) := cell_arr HKL1.out rfl
  have l0 := HLP2.out.1
  have l1 := HLP2.out.2
  obtain ⟨k, hk⟩ : ∃ k, newErr C FS m n S r = k := ⟨_, rfl⟩
  by_cases hk0 : k = 0
  case neg =>
    have HNB : Hid (∀ W, Below w.heap.size w W → Calls Tryz.prog 9 #[.agg #[.slice ca cn cc, .slice fa fn fc, .int .i64 m], .slice ia n ic, .agg #[.int .i64 S, .int .i64 r]] W fun e w' => e = .returned (.tuple #[.pointer none, .int .i64 k]) ∧ Below W.heap.size W w') := fun W bW =>
      newR_bad W (HT9.out.below bW HT9.out.1) ca cn cc fa fn fc m C FS HLE.out.1 HLE.out.2.1 (HIN.out.1.below bW (Nat.le_refl _)) (HIN.out.2.1.below bW (Nat.le_refl _)) (by have := HBD.out; omega) (by have := HBD.out; omega) ia n ic (by have := HBD.out; omega) S r k hk hk0
    have HKR : Hid (k = 210 ∨ k = 4 ∨ k = 5) := by
      have := newErr_range C FS m n S r
      rw [hk] at this
      exact this.resolve_left hk0
    have HK9 : Hid (¬ k = 0) := hk0
    clear hk hk0 HNU HIN HLE HT9 HAB HB1
    go_wp2_with fail
    refine Calls.mono (HNB.out wL HBL.out) ?_
    rintro e wA ⟨rfl, bA⟩
    have HBA : Hid (Below w.heap.size w wA) := HBL.out.trans (bA.mono HBL.out.size)
    have HKA0 : Hid _ := (bA.block _ HLP2.out.1).trans HKL0.out
    have HKA1 : Hid _ := (bA.block _ HLP2.out.2).trans HKL1.out
    have HLPA : Hid (p < wA.heap.size ∧ p + 1 < wA.heap.size) := by have := bA.size; have := HLP2.out; show _ ∧ _; omega
    clear bA x0 x1 x2 y0 y1 l0 l1 HKL0 HKL1 HLP2 HBL
    have x0 : wA.cell? ⟨p, 0, none⟩ = some (.slice ca cn cc) := cell_arr HKA0.out rfl
    have x1 : wA.cell? ⟨p, 1, none⟩ = some (.slice fa fn fc) := cell_arr HKA0.out rfl
    have x2 : wA.cell? ⟨p, 2, none⟩ = some (.int .i64 m) := cell_arr HKA0.out rfl
    have y0 : wA.cell? ⟨p + 1, 0, none⟩ = some (.int .i64 S) := cell_arr HKA1.out rfl
    have y1 : wA.cell? ⟨p + 1, 1, none⟩ = some (.int .i64 r) := cell_arr HKA1.out rfl
    have l0 := HLPA.out.1
    have l1 := HLPA.out.2
    go_wp2_with fail
    refine Calls.mono (HNB.out wA HBA.out) ?_
    rintro e wB ⟨rfl, bB⟩
    have HBB : Hid (Below w.heap.size w wB) := HBA.out.trans (bB.mono HBA.out.size)
    have HKB0 : Hid _ := (bB.block _ HLPA.out.1).trans HKA0.out
    have HKB1 : Hid _ := (bB.block _ HLPA.out.2).trans HKA1.out
    have HLPB : Hid (p < wB.heap.size ∧ p + 1 < wB.heap.size) := by have := bB.size; have := HLPA.out; show _ ∧ _; omega
    clear bB x0 x1 x2 y0 y1 l0 l1 HKA0 HKA1 HLPA HBA
    have x0 : wB.cell? ⟨p, 0, none⟩ = some (.slice ca cn cc) := cell_arr HKB0.out rfl
    have x1 : wB.cell? ⟨p, 1, none⟩ = some (.slice fa fn fc) := cell_arr HKB0.out rfl
    have x2 : wB.cell? ⟨p, 2, none⟩ = some (.int .i64 m) := cell_arr HKB0.out rfl
    have y0 : wB.cell? ⟨p + 1, 0, none⟩ = some (.int .i64 S) := cell_arr HKB1.out rfl
    have y1 : wB.cell? ⟨p + 1, 1, none⟩ = some (.int .i64 r) := cell_arr HKB1.out rfl
    have l0 := HLPB.out.1
    have l1 := HLPB.out.2
    go_wp2_with fail
    refine Calls.mono (HNB.out wB HBB.out) ?_
    rintro e wC ⟨rfl, bC⟩
    have HBC : Hid (Below w.heap.size w wC) := HBB.out.trans (bC.mono HBB.out.size)
    clear bC x0 x1 x2 y0 y1 l0 l1 HKB0 HKB1 HLPB HBB HNB HBD HP
    have t0 : (k != 0) = true := by simpa using HK9.out
    have t1 : (k != k) = false := by simp
    have t2 : (k == 0) = false := by simpa using HK9.out
    go_upto_region 11 with (go_at_call 11; refine (HNM.out _ _).mono ?_; rintro e w9 ⟨rfl, rfl⟩)
    clear t0 t1 t2 HK9
    rcases HKR.out with rfl | rfl | rfl
    · clear HKR
      go_wp2_with (go_at_call 11; refine (HNM.out _ _).mono ?_; rintro e w9 ⟨rfl, rfl⟩)
      go_ret
      exact ⟨rfl, HBC.out⟩
    · clear HKR
      go_wp2_with (go_at_call 11; refine (HNM.out _ _).mono ?_; rintro e w9 ⟨rfl, rfl⟩)
      go_ret
      exact ⟨rfl, HBC.out⟩
    · clear HKR
      go_wp2_with (go_at_call 11; refine (HNM.out _ _).mono ?_; rintro e w9 ⟨rfl, rfl⟩)
      go_ret
      exact ⟨rfl, HBC.out⟩
  case pos =>
  subst hk0
  obtain ⟨mi, f, hmi, hf, _⟩ := form_main (C := C) (FS := FS) (m := m) (by
    unfold newErr at hk
    cases e : formR C FS m with
    | true => rfl
    | false => rw [if_pos e] at hk; cases hk)
  obtain ⟨R0, hR0⟩ : ∃ R0, R0 = (Rv.zero I).call S f (-1) := ⟨_, rfl⟩
  have HNG : Hid (∀ W, Below w.heap.size w W → Calls Tryz.prog 9 #[.agg #[.slice ca cn cc, .slice fa fn fc, .int .i64 m], .slice ia n ic, .agg #[.int .i64 S, .int .i64 r]] W fun e w' => ∃ s, e = .returned (.tuple #[.pointer (some ⟨s.mb, 0, none⟩), .int .i64 0]) ∧ (s.C = C ∧ s.FS = FS ∧ s.S = S ∧ s.room = r) ∧ PgR s ∧ RI s 0 R0 ∧ MS s w' R0 (fun k => W.heap.size ≤ k ∧ k < w'.heap.size) ∧ Below W.heap.size W w') := fun W bW => by
    rw [hR0]
    exact MS.new W (HT9.out.below bW HT9.out.1) ca cn cc fa fn fc m C FS HLE.out.1 HLE.out.2.1 (HIN.out.1.below bW (Nat.le_refl _)) (HIN.out.2.1.below bW (Nat.le_refl _)) (by have := HBD.out; omega) (by have := HBD.out; omega) HNU.out.1 ia n ic I HLE.out.2.2 (HIN.out.2.2.below bW (Nat.le_refl _)) HNU.out.2 S r hk (f := f) (by rw [hmi]; exact hf)
  have HR0 : Hid (R0.steps = 0) := by rw [hR0]; exact call_steps0 S f I
  clear hR0 hk hmi hf HNU HIN HLE HT9 HB1
  go_wp2_with fail
  refine Calls.mono (HNG.out wL HBL.out) ?_
  rintro e wA ⟨sM, rfl, hCM, hPM, hRM, hM, bA⟩
  have HBA : Hid (Below w.heap.size w wA) := HBL.out.trans (bA.mono HBL.out.size)
  have HKA0 : Hid _ := (bA.block _ HLP2.out.1).trans HKL0.out
  have HKA1 : Hid _ := (bA.block _ HLP2.out.2).trans HKL1.out
  have HLPA : Hid (p < wA.heap.size ∧ p + 1 < wA.heap.size) := by have := bA.size; have := HLP2.out; show _ ∧ _; omega
  obtain ⟨h0, hh0⟩ : ∃ h0, h0 = wL.heap.size := ⟨_, rfl⟩
  obtain ⟨h1, hh1⟩ : ∃ h1, h1 = wA.heap.size := ⟨_, rfl⟩
  rw [← hh0, ← hh1] at hM
  have HM : Hid _ := hM
  have HSM : Hid (SpS sM C FS S r R0) := ⟨hCM, hPM, hRM⟩
  have HH1 : Hid (w.heap.size ≤ h0 ∧ h0 ≤ h1 ∧ h1 = wA.heap.size) := by have := HBL.out.size; have := bA.size; show _ ∧ _ ∧ _; omega
  clear bA hCM hPM hRM hM hh0 hh1 x0 x1 x2 y0 y1 l0 l1 HKL0 HKL1 HLP2 HBL
  have x0 : wA.cell? ⟨p, 0, none⟩ = some (.slice ca cn cc) := cell_arr HKA0.out rfl
  have x1 : wA.cell? ⟨p, 1, none⟩ = some (.slice fa fn fc) := cell_arr HKA0.out rfl
  have x2 : wA.cell? ⟨p, 2, none⟩ = some (.int .i64 m) := cell_arr HKA0.out rfl
  have y0 : wA.cell? ⟨p + 1, 0, none⟩ = some (.int .i64 S) := cell_arr HKA1.out rfl
  have y1 : wA.cell? ⟨p + 1, 1, none⟩ = some (.int .i64 r) := cell_arr HKA1.out rfl
  have l0 := HLPA.out.1
  have l1 := HLPA.out.2
  go_wp2_with fail
  refine Calls.mono (HNG.out wA HBA.out) ?_
  rintro e wB ⟨sN, rfl, hCN, hPN, hRN, hN, bB⟩
  have HBB : Hid (Below w.heap.size w wB) := HBA.out.trans (bB.mono HBA.out.size)
  have HKB0 : Hid _ := (bB.block _ HLPA.out.1).trans HKA0.out
  have HKB1 : Hid _ := (bB.block _ HLPA.out.2).trans HKA1.out
  have HLPB : Hid (p < wB.heap.size ∧ p + 1 < wB.heap.size) := by have := bB.size; have := HLPA.out; show _ ∧ _; omega
  obtain ⟨h2, hh2⟩ : ∃ h2, h2 = wB.heap.size := ⟨_, rfl⟩
  rw [← HH1.out.2.2, ← hh2] at hN
  have HN : Hid _ := hN
  have HM2 : Hid _ := HM.out.below bB
  have HSN : Hid (SpS sN C FS S r R0) := ⟨hCN, hPN, hRN⟩
  have HH2 : Hid (w.heap.size ≤ h0 ∧ h0 ≤ h1 ∧ h1 ≤ h2 ∧ h2 = wB.heap.size) := by have := HH1.out; have := bB.size; show _ ∧ _ ∧ _ ∧ _; omega
  clear bB hCN hPN hRN hN hh2 x0 x1 x2 y0 y1 l0 l1 HKA0 HKA1 HLPA HBA HM HH1
  have x0 : wB.cell? ⟨p, 0, none⟩ = some (.slice ca cn cc) := cell_arr HKB0.out rfl
  have x1 : wB.cell? ⟨p, 1, none⟩ = some (.slice fa fn fc) := cell_arr HKB0.out rfl
  have x2 : wB.cell? ⟨p, 2, none⟩ = some (.int .i64 m) := cell_arr HKB0.out rfl
  have y0 : wB.cell? ⟨p + 1, 0, none⟩ = some (.int .i64 S) := cell_arr HKB1.out rfl
  have y1 : wB.cell? ⟨p + 1, 1, none⟩ = some (.int .i64 r) := cell_arr HKB1.out rfl
  have l0 := HLPB.out.1
  have l1 := HLPB.out.2
  go_wp2_with fail
  refine Calls.mono (HNG.out wB HBB.out) ?_
  rintro e wC ⟨sK, rfl, hCK, hPK, hRK, hK, bC⟩
  obtain ⟨h3, hh3⟩ : ∃ h3, h3 = wC.heap.size := ⟨_, rfl⟩
  rw [← HH2.out.2.2.2, ← hh3] at hK
  have HK : Hid _ := hK
  have HM3 : Hid _ := HM2.out.below bC
  have HN3 : Hid _ := HN.out.below bC
  have HSK : Hid (SpS sK C FS S r R0) := ⟨hCK, hPK, hRK⟩
  have HBC : Hid (Below w.heap.size w wC) := HBB.out.trans (bC.mono HBB.out.size)
  have HH : Hid (w.heap.size ≤ h0 ∧ h0 ≤ h1 ∧ h1 ≤ h2 ∧ h2 ≤ h3 ∧ h3 = wC.heap.size) := by have := HH2.out; have := bC.size; show _ ∧ _ ∧ _ ∧ _ ∧ _; omega
  clear bC hCK hPK hRK hK hh3 x0 x1 x2 y0 y1 l0 l1 HKB0 HKB1 HLPB HBB HM2 HN HH2 HNG HBD HP
  obtain ⟨pM, hpM⟩ : ∃ q, q = sM.mb := ⟨_, rfl⟩
  obtain ⟨pN, hpN⟩ : ∃ q, q = sN.mb := ⟨_, rfl⟩
  obtain ⟨pK, hpK⟩ : ∃ q, q = sK.mb := ⟨_, rfl⟩
  have HPP : Hid (pM = sM.mb ∧ pN = sN.mb ∧ pK = sK.mb) := ⟨hpM, hpN, hpK⟩
  rw [← hpM, ← hpN, ← hpK]
  clear hpM hpN hpK
  go_upto_region 13 with (go_at_call 11; refine (HNM.out _ _).mono ?_; rintro e w9 ⟨rfl, rfl⟩)
  obtain ⟨RA, hRA⟩ : ∃ RA, RA = smG C FS S r a R0 := ⟨_, rfl⟩
  obtain ⟨RZ, hRZ⟩ : ∃ RZ, RZ = smG C FS S r (a + b) R0 := ⟨_, rfl⟩
  have HPU : Hid (SpP C FS S r a b R0 RA RZ) := by rw [hRA, hRZ]; exact SpP.of C FS S r a b R0 HR0.out
  clear hRA hRZ
  have HC1 : Hid _ := HM3.out.goesB HSM.out.pg HSM.out.ri (fuel := a) (K := a) (by have := HAB.out; omega) rfl (RF := RA) (by obtain ⟨e1, e2, e3, e4⟩ := HSM.out.is; rw [e1, e2, e3, e4]; exact HPU.out.isA)
  rw [← HPP.out.1] at HC1
  go_wp2_with fail
  refine Calls.mono HC1.out ?_
  rintro e wD ⟨xa, xc, xB, rfl, hMB, hRI, hO, hB, hRow⟩
  obtain ⟨lx, hlx⟩ : ∃ l, l = min xB wD.heap.size := ⟨_, rfl⟩
  have hMB2 := hMB.low_min
  rw [← hlx, ← HH.out.2.2.2.2] at hMB2
  have hRow2 := rowR_lower hRow (B' := lx) (by omega)
  have sz := hO.size
  have HHD : Hid (w.heap.size ≤ h0 ∧ h0 ≤ h1 ∧ h1 ≤ h2 ∧ h2 ≤ h3 ∧ h3 ≤ lx ∧ lx ≤ wD.heap.size) := by have := HH.out; show _ ∧ _ ∧ _ ∧ _ ∧ _ ∧ _; omega
  have HMD : Hid _ := hMB2
  have HRD : Hid _ := hRow2
  have HID : Hid (RI sM a RA) := hRI.mono (by omega)
  have HND : Hid _ := HN3.out.apart hO fun k hk q => by omega
  have HKD : Hid _ := HK.out.apart hO fun k hk q => by have := HH.out; omega
  have HBD : Hid (Below w.heap.size w wD) := HBC.out.trans (hO.below HBC.out.size fun k hk => by have := HH.out; omega)
  clear hMB hMB2 hRow hRow2 hO hB hlx hRI sz HC1 HM3 HN3 HK HBC HH
  go_upto_region 14 with fail
  obtain ⟨qx, hqx⟩ : ∃ q, q = wD.heap.size := ⟨_, rfl⟩
  obtain ⟨wE, hwE⟩ : ∃ W, W = wD.alloc (.cells #[.slice xa RA.ev.length xc, .int .i64 RA.fin, .int .i64 RA.kd, .int .i64 RA.vl, .int .i64 RA.steps, .int .i64 RA.words, .int .i64 RA.deep] 40) := ⟨_, rfl⟩
  have bE : Below wD.heap.size wD wE := by rw [hwE]; exact below_newR wD _
  have HXE : Hid (SpO wE lx qx xa xc RA) := by rw [hqx]; exact SpO.new HRD.out HHD.out.2.2.2.2.2 hwE
  rw [← hwE, ← hqx]
  have HME : Hid _ := HMD.out.below bE
  have HNE : Hid _ := HND.out.below bE
  have HKE : Hid _ := HKD.out.below bE
  have HBE : Hid (Below w.heap.size w wE) := HBD.out.trans (bE.mono HBD.out.size)
  have HHE : Hid (w.heap.size ≤ h0 ∧ h0 ≤ h1 ∧ h1 ≤ h2 ∧ h2 ≤ h3 ∧ h3 ≤ lx ∧ lx ≤ wE.heap.size) := by have := HHD.out; have := bE.size; show _ ∧ _ ∧ _ ∧ _ ∧ _ ∧ _; omega
  clear hwE hqx bE HMD HND HKD HBD HHD HRD
  have HC2 : Hid _ := HME.out.again HSM.out.pg HID.out (fuel := b) (K := b) (by have := HAB.out; omega) rfl (RF := RZ) (by obtain ⟨e1, e2, e3, e4⟩ := HSM.out.is; rw [e1, e2, e3, e4]; exact HPU.out.az)
  rw [← HPP.out.1] at HC2
  go_wp2_with fail
  refine Calls.mono HC2.out ?_
  rintro e wF2 ⟨ya, yc, yB, rfl, hM, hO, hB, hRow⟩
  have sz := hO.size
  obtain ⟨ly, hly⟩ : ∃ l, l = wE.heap.size := ⟨_, rfl⟩
  have hRow2 := rowR_lower hRow (B' := ly) (by omega)
  have HXF : Hid _ := HXE.out.apart hO fun k hk => by have := HHE.out; omega
  have HMF : Hid _ := hM
  have HNF : Hid _ := HNE.out.apart hO fun k hk q => by have := HHE.out; omega
  have HKF : Hid _ := HKE.out.apart hO fun k hk q => by have := HHE.out; omega
  have HBF2 : Hid (Below w.heap.size w wF2) := HBE.out.trans (hO.below HBE.out.size fun k hk => by have := HHE.out; omega)
  have HRF : Hid _ := hRow2
  have HHF : Hid (w.heap.size ≤ h0 ∧ h0 ≤ h1 ∧ h1 ≤ h2 ∧ h2 ≤ h3 ∧ h3 ≤ lx ∧ lx ≤ ly ∧ ly ≤ wF2.heap.size) := by have := HHE.out; show _ ∧ _ ∧ _ ∧ _ ∧ _ ∧ _ ∧ _; omega
  clear hM hO hB hRow hRow2 sz hly HXE HME HNE HKE HBE HHE HC2 HID
  go_upto_region 15 with fail
  obtain ⟨qy, hqy⟩ : ∃ q, q = wF2.heap.size := ⟨_, rfl⟩
  obtain ⟨wG, hwG⟩ : ∃ W, W = wF2.alloc (.cells #[.slice ya RZ.ev.length yc, .int .i64 RZ.fin, .int .i64 RZ.kd, .int .i64 RZ.vl, .int .i64 RZ.steps, .int .i64 RZ.words, .int .i64 RZ.deep] 40) := ⟨_, rfl⟩
  have bG : Below wF2.heap.size wF2 wG := by rw [hwG]; exact below_newR wF2 _
  have HYG : Hid (SpO wG ly qy ya yc RZ) := by rw [hqy]; exact SpO.new HRF.out HHF.out.2.2.2.2.2.2 hwG
  rw [← hwG, ← hqy]
  have HXG : Hid _ := HXF.out.below bG
  have HMG : Hid _ := HMF.out.below bG
  have HNG2 : Hid _ := HNF.out.below bG
  have HKG : Hid _ := HKF.out.below bG
  have HBG : Hid (Below w.heap.size w wG) := HBF2.out.trans (bG.mono HBF2.out.size)
  have HHG : Hid (w.heap.size ≤ h0 ∧ h0 ≤ h1 ∧ h1 ≤ h2 ∧ h2 ≤ h3 ∧ h3 ≤ lx ∧ lx ≤ ly ∧ ly ≤ wG.heap.size) := by have := HHF.out; have := bG.size; show _ ∧ _ ∧ _ ∧ _ ∧ _ ∧ _ ∧ _; omega
  clear hwG hqy bG HXF HMF HNF HKF HBF2 HHF HRF
  have HC3 : Hid _ := HNG2.out.goes HSN.out.pg HSN.out.ri (fuel := a + b) (K := a + b) (by have := HAB.out; omega) rfl (RF := RZ) (by obtain ⟨e1, e2, e3, e4⟩ := HSN.out.is; rw [e1, e2, e3, e4]; exact HPU.out.isZ)
  rw [← HPP.out.2.1, Int.natCast_add] at HC3
  have u1 : IntKind.i64.wrap ((a : Int) + (b : Int)) = (a : Int) + (b : Int) := by have := HAB.out; rw [IntKind.wrap_i64]; omega
  go_wp2_with fail
  refine Calls.mono HC3.out ?_
  rintro e wH ⟨za, zc, zB, rfl, hN, _, hO, hB, hRow, _⟩
  have sz := hO.size
  obtain ⟨lz, hlz⟩ : ∃ l, l = wG.heap.size := ⟨_, rfl⟩
  have hRow2 := rowR_lower hRow (B' := lz) (by omega)
  have HXH : Hid _ := HXG.out.apart hO fun k hk => by have := HHG.out; omega
  have HYH : Hid _ := HYG.out.apart hO fun k hk => by have := HHG.out; omega
  have HMH : Hid _ := HMG.out.apart hO fun k hk q => by have := HHG.out; omega
  have HKH : Hid _ := HKG.out.apart hO fun k hk q => by have := HHG.out; omega
  have HBH : Hid (Below w.heap.size w wH) := HBG.out.trans (hO.below HBG.out.size fun k hk => by have := HHG.out; omega)
  have HRH : Hid _ := hRow2
  have HHH : Hid (w.heap.size ≤ h0 ∧ h0 ≤ h1 ∧ h1 ≤ h2 ∧ h2 ≤ h3 ∧ h3 ≤ lx ∧ lx ≤ ly ∧ ly ≤ lz ∧ lz ≤ wH.heap.size) := by have := HHG.out; show _ ∧ _ ∧ _ ∧ _ ∧ _ ∧ _ ∧ _ ∧ _; omega
  clear hN hO hB hRow hRow2 sz hlz HXG HYG HMG HNG2 HKG HBG HHG HC3
  go_upto_region 16 with fail
  obtain ⟨qz, hqz⟩ : ∃ q, q = wH.heap.size := ⟨_, rfl⟩
  obtain ⟨wI, hwI⟩ : ∃ W, W = wH.alloc (.cells #[.slice za RZ.ev.length zc, .int .i64 RZ.fin, .int .i64 RZ.kd, .int .i64 RZ.vl, .int .i64 RZ.steps, .int .i64 RZ.words, .int .i64 RZ.deep] 40) := ⟨_, rfl⟩
  have bI : Below wH.heap.size wH wI := by rw [hwI]; exact below_newR wH _
  have HZI : Hid (SpO wI lz qz za zc RZ) := by rw [hqz]; exact SpO.new HRH.out HHH.out.2.2.2.2.2.2.2 hwI
  rw [← hwI, ← hqz]
  have HXI : Hid _ := HXH.out.below bI
  have HYI : Hid _ := HYH.out.below bI
  have HMI : Hid _ := HMH.out.below bI
  have HKI : Hid _ := HKH.out.below bI
  have HBI : Hid (Below w.heap.size w wI) := HBH.out.trans (bI.mono HBH.out.size)
  have HHI : Hid (w.heap.size ≤ h0 ∧ h0 ≤ h1 ∧ h1 ≤ h2 ∧ h2 ≤ h3 ∧ h3 ≤ lx ∧ lx ≤ ly ∧ ly ≤ lz ∧ lz ≤ wI.heap.size) := by have := HHH.out; have := bI.size; show _ ∧ _ ∧ _ ∧ _ ∧ _ ∧ _ ∧ _ ∧ _; omega
  clear hwI hqz bI HXH HYH HMH HKH HBH HHH HRH
  have HKS : Hid (SpK sK wI wI C FS S r h2 h3 R0 0) := ⟨HKI.out.mono fun k hk => Or.inl hk, HSK.out.ri, HR0.out, Only.refl _ _⟩
  clear HKI
  have HPK : Hid (pK = sK.mb) := HPP.out.2.2
  go_upto_block 0 with fail
  go_cut [24, 25, 26] from 140 to 152 (fun v24 v25 v26 wc => v24 = .int .i64 RZ.steps ∧ Hid (MS sK wc RZ (fun k => (h2 ≤ k ∧ k < h3) ∨ wI.heap.size ≤ k) ∧ Only (fun k => h2 ≤ k ∧ k < h3) wI wc))
  case first =>
    clear HXI HYI HZI HMI HBI HHI HSM HSN HNM HPP
    go_wp2_with fail
    go_loopw [24, 25, 26] (fun v24 v25 v26 wr => ∃ i : Nat, i ≤ a + b ∧ v24 = .int .i64 (i : Int) ∧ v25 = .int .i64 (i : Int) ∧ Hid (SpK sK wI wr C FS S r h2 h3 R0 i)) (fun v24 v25 v26 _ => a + b - (intOf v25).toNat)
    case atStart => exact ⟨0, Nat.zero_le _, rfl, rfl, HKS.out⟩
    case round =>
      obtain ⟨i, hi, rfl, rfl, HSP⟩ := hrel
      by_cases hlt : i < a + b
      · have t1 : decide ((i : Int) < (a : Int) + (b : Int)) = true := decide_eq_true (by omega)
        have HCK : Hid _ := HSP.out.step HSK.out (by have := HAB.out; omega)
        rw [← HPK.out] at HCK
        go_wp2_with fail
        refine Calls.mono HCK.out ?_
        rintro e w2 ⟨T, rfl, hT, hF⟩
        cases T with
        | false =>
          obtain ⟨hov, hst, hms, hon⟩ := hF rfl
          have eZ : smG C FS S r (i + 1) R0 = RZ := by
            rw [← HPU.out.isZ, show a + b = (i + 1) + (a + b - (i + 1)) by omega, smG_add (i + 1) (a + b - (i + 1)), smG_over _ hov]
          have est : Hid ((i : Int) = RZ.steps) := by show _ = _; rw [← hst, eZ]
          rw [eZ] at hms
          have HMS : Hid (MS sK w2 RZ (fun k => (h2 ≤ k ∧ k < h3) ∨ wI.heap.size ≤ k) ∧ Only (fun k => h2 ≤ k ∧ k < h3) wI w2) := ⟨hms, hon⟩
          clear hT hF hov hst hms hon eZ HCK HSP
          go_wp2_with fail
          go_meet
          case rel => exact ⟨by rw [est.out], HMS⟩
        | true =>
          have HN1 : Hid _ := hT rfl
          clear hT hF HCK HSP
          have ei : wrap64 ((i : Int) + 1) = ((i + 1 : Nat) : Int) := by have := HAB.out; unfold wrap64; omega
          go_wp2_with fail
          rw [ei]
          refine ⟨⟨i + 1, hlt, rfl, rfl, HN1⟩, ?_⟩
          have q1 : (intOf (.int .i64 ((i + 1 : Nat) : Int))).toNat = i + 1 := rfl
          have q2 : (intOf (.int .i64 (i : Int))).toNat = i := rfl
          rw [q1, q2]
          exact Nat.sub_lt_sub_left hlt (Nat.lt_succ_self i)
      · have t1 : decide ((i : Int) < (a : Int) + (b : Int)) = false := decide_eq_false (by omega)
        have ei : i = a + b := by omega
        have eZ : smG C FS S r i R0 = RZ := by rw [ei]; exact HPU.out.isZ
        have est : Hid ((i : Int) = RZ.steps) := by show _ = _; rw [← HSP.out.st, eZ]
        have HMS : Hid (MS sK wr RZ (fun k => (h2 ≤ k ∧ k < h3) ∨ wI.heap.size ≤ k) ∧ Only (fun k => h2 ≤ k ∧ k < h3) wI wr) := ⟨by rw [← eZ]; exact HSP.out.ms, HSP.out.only⟩
        clear ei eZ HSP hlt
        go_wp2_with fail
        go_meet
        case rel => exact ⟨by rw [est.out], HMS⟩
  case rest =>
  obtain ⟨rfl, HMO⟩ := hcut
  obtain ⟨wJ, rfl⟩ : ∃ W, W = wc := ⟨_, rfl⟩
  have HXJ : Hid _ := HXI.out.apart HMO.out.2 fun k hk => by have := HHI.out; omega
  have HYJ : Hid _ := HYI.out.apart HMO.out.2 fun k hk => by have := HHI.out; omega
  have HZJ : Hid _ := HZI.out.apart HMO.out.2 fun k hk => by have := HHI.out; omega
  have HMJ : Hid _ := HMI.out.apart HMO.out.2 fun k hk q => by have := HHI.out; omega
  have HBJ : Hid (Below w.heap.size w wJ) := HBI.out.trans (HMO.out.2.below HBI.out.size fun k hk => by have := HHI.out; omega)
  have HCO : Hid _ := HMO.out.1.outcome
  rw [← HPK.out] at HCO
  clear HXI HYI HZI HMI HBI HHI HMO HKS HPK HSK HSN HR0
  go_upto_region 23 with fail
  go_wp2_with fail
  refine Calls.mono HCO.out ?_
  rintro e wK ⟨wa, wc2, rfl, hRow, bK⟩
  have HRK : Hid _ := hRow
  have HXK : Hid _ := HXJ.out.below bK
  have HYK : Hid _ := HYJ.out.below bK
  have HZK : Hid _ := HZJ.out.below bK
  have HMK : Hid _ := HMJ.out.below bK
  have HBK : Hid (Below w.heap.size w wK) := HBJ.out.trans (bK.mono HBJ.out.size)
  have HSZ : Hid (wJ.heap.size ≤ wK.heap.size) := bK.size
  clear hRow bK HXJ HYJ HZJ HMJ HBJ HCO
  go_upto_region 24 with fail
  obtain ⟨qw, hqw⟩ : ∃ q, q = wK.heap.size := ⟨_, rfl⟩
  obtain ⟨wM, hwM⟩ : ∃ W, W = wK.alloc (.cells #[.slice wa RZ.ev.length wc2, .int .i64 RZ.fin, .int .i64 RZ.kd, .int .i64 RZ.vl, .int .i64 RZ.steps, .int .i64 RZ.words, .int .i64 RZ.deep] 40) := ⟨_, rfl⟩
  have bM : Below wK.heap.size wK wM := by rw [hwM]; exact below_newR wK _
  have HWM : Hid (SpO wM wJ.heap.size qw wa wc2 RZ) := by rw [hqw]; exact SpO.new HRK.out HSZ.out hwM
  rw [← hwM, ← hqw]
  have HXM : Hid _ := HXK.out.below bM
  have HYM : Hid _ := HYK.out.below bM
  have HZM : Hid _ := HZK.out.below bM
  have HMM : Hid _ := HMK.out.below bM
  have HBM : Hid (Below w.heap.size w wM) := HBK.out.trans (bM.mono HBK.out.size)
  clear hwM hqw bM HXK HYK HZK HMK HBK HRK HSZ
  obtain ⟨nz, hnz⟩ : ∃ q, q = RZ.ev.length := ⟨_, rfl⟩
  obtain ⟨nx, hnx⟩ : ∃ q, q = RA.ev.length := ⟨_, rfl⟩
  have HNZ : Hid _ := hnz
  have HNX : Hid _ := hnx
  obtain ⟨z1, hz1⟩ : ∃ q, q = RZ.fin := ⟨_, rfl⟩
  obtain ⟨z2, hz2⟩ : ∃ q, q = RZ.kd := ⟨_, rfl⟩
  obtain ⟨z3, hz3⟩ : ∃ q, q = RZ.vl := ⟨_, rfl⟩
  obtain ⟨z4, hz4⟩ : ∃ q, q = RZ.steps := ⟨_, rfl⟩
  obtain ⟨z5, hz5⟩ : ∃ q, q = RZ.words := ⟨_, rfl⟩
  obtain ⟨z6, hz6⟩ : ∃ q, q = RZ.deep := ⟨_, rfl⟩
  have HZS : Hid (z1 = RZ.fin ∧ z2 = RZ.kd ∧ z3 = RZ.vl ∧ z4 = RZ.steps ∧ z5 = RZ.words ∧ z6 = RZ.deep) := ⟨hz1, hz2, hz3, hz4, hz5, hz6⟩
  have ey := HYM.out.box
  have ez := HZM.out.box
  have ew := HWM.out.box
  have ex := HXM.out.box
  rw [← hnz, ← hz1, ← hz2, ← hz3, ← hz4, ← hz5, ← hz6] at ey ez ew
  rw [← hnx] at ex
  rw [← hz4]
  have HCS1 : Hid (Calls Tryz.prog 17 #[.agg #[.slice ya nz yc, .int .i64 z1, .int .i64 z2, .int .i64 z3, .int .i64 z4, .int .i64 z5, .int .i64 z6], .agg #[.slice za nz zc, .int .i64 z1, .int .i64 z2, .int .i64 z3, .int .i64 z4, .int .i64 z5, .int .i64 z6]] wM fun e w' => e = .returned (.bool true) ∧ Below wM.heap.size wM w') := sameV_any wM z1 z2 z3 z4 z5 z6 HYM.out.evs HZM.out.evs hnz
  clear hnz hnx hz1 hz2 hz3 hz4 hz5 hz6
  have Y0 : wM.cell? ⟨qy, 0, none⟩ = some (.slice ya nz yc) := cell_arr ey rfl
  have Y1 : wM.cell? ⟨qy, 1, none⟩ = some (.int .i64 z1) := cell_arr ey rfl
  have Y2 : wM.cell? ⟨qy, 2, none⟩ = some (.int .i64 z2) := cell_arr ey rfl
  have Y3 : wM.cell? ⟨qy, 3, none⟩ = some (.int .i64 z3) := cell_arr ey rfl
  have Y4 : wM.cell? ⟨qy, 4, none⟩ = some (.int .i64 z4) := cell_arr ey rfl
  have Y5 : wM.cell? ⟨qy, 5, none⟩ = some (.int .i64 z5) := cell_arr ey rfl
  have Y6 : wM.cell? ⟨qy, 6, none⟩ = some (.int .i64 z6) := cell_arr ey rfl
  have Z0 : wM.cell? ⟨qz, 0, none⟩ = some (.slice za nz zc) := cell_arr ez rfl
  have Z1 : wM.cell? ⟨qz, 1, none⟩ = some (.int .i64 z1) := cell_arr ez rfl
  have Z2 : wM.cell? ⟨qz, 2, none⟩ = some (.int .i64 z2) := cell_arr ez rfl
  have Z3 : wM.cell? ⟨qz, 3, none⟩ = some (.int .i64 z3) := cell_arr ez rfl
  have Z4 : wM.cell? ⟨qz, 4, none⟩ = some (.int .i64 z4) := cell_arr ez rfl
  have Z5 : wM.cell? ⟨qz, 5, none⟩ = some (.int .i64 z5) := cell_arr ez rfl
  have Z6 : wM.cell? ⟨qz, 6, none⟩ = some (.int .i64 z6) := cell_arr ez rfl
  have ly2 := HYM.out.lt
  have lz2 := HZM.out.lt
  have HEX : Hid _ := ex
  have HEY : Hid _ := ey
  have HEZ : Hid _ := ez
  have HEW : Hid _ := ew
  clear ex ey ez ew
  go_wp2_with fail
  refine Calls.mono HCS1.out ?_
  rintro e wP ⟨rfl, bP⟩
  have HXP : Hid _ := HXM.out.below bP
  have HYP : Hid _ := HYM.out.below bP
  have HZP : Hid _ := HZM.out.below bP
  have HWP : Hid _ := HWM.out.below bP
  have HMP : Hid _ := HMM.out.below bP
  have HBP : Hid (Below w.heap.size w wP) := HBM.out.trans (bP.mono HBM.out.size)
  have ex := (bP.block _ HXM.out.lt).trans HEX.out
  have ez := (bP.block _ HZM.out.lt).trans HEZ.out
  have ew := (bP.block _ HWM.out.lt).trans HEW.out
  have lx2 := HXP.out.lt
  have lz3 := HZP.out.lt
  have lw2 := HWP.out.lt
  clear Y0 Y1 Y2 Y3 Y4 Y5 Y6 Z0 Z1 Z2 Z3 Z4 Z5 Z6 ly2 lz2 bP HXM HYM HZM HWM HMM HBM HEX HEY HEZ HEW HCS1
  have HCS2 : Hid (Calls Tryz.prog 17 #[.agg #[.slice za nz zc, .int .i64 z1, .int .i64 z2, .int .i64 z3, .int .i64 z4, .int .i64 z5, .int .i64 z6], .agg #[.slice wa nz wc2, .int .i64 z1, .int .i64 z2, .int .i64 z3, .int .i64 z4, .int .i64 z5, .int .i64 z6]] wP fun e w' => e = .returned (.bool true) ∧ Below wP.heap.size wP w') := sameV_any wP z1 z2 z3 z4 z5 z6 HZP.out.evs HWP.out.evs HNZ.out
  have Z0 : wP.cell? ⟨qz, 0, none⟩ = some (.slice za nz zc) := cell_arr ez rfl
  have Z1 : wP.cell? ⟨qz, 1, none⟩ = some (.int .i64 z1) := cell_arr ez rfl
  have Z2 : wP.cell? ⟨qz, 2, none⟩ = some (.int .i64 z2) := cell_arr ez rfl
  have Z3 : wP.cell? ⟨qz, 3, none⟩ = some (.int .i64 z3) := cell_arr ez rfl
  have Z4 : wP.cell? ⟨qz, 4, none⟩ = some (.int .i64 z4) := cell_arr ez rfl
  have Z5 : wP.cell? ⟨qz, 5, none⟩ = some (.int .i64 z5) := cell_arr ez rfl
  have Z6 : wP.cell? ⟨qz, 6, none⟩ = some (.int .i64 z6) := cell_arr ez rfl
  have V0 : wP.cell? ⟨qw, 0, none⟩ = some (.slice wa nz wc2) := cell_arr ew rfl
  have V1 : wP.cell? ⟨qw, 1, none⟩ = some (.int .i64 z1) := cell_arr ew rfl
  have V2 : wP.cell? ⟨qw, 2, none⟩ = some (.int .i64 z2) := cell_arr ew rfl
  have V3 : wP.cell? ⟨qw, 3, none⟩ = some (.int .i64 z3) := cell_arr ew rfl
  have V4 : wP.cell? ⟨qw, 4, none⟩ = some (.int .i64 z4) := cell_arr ew rfl
  have V5 : wP.cell? ⟨qw, 5, none⟩ = some (.int .i64 z5) := cell_arr ew rfl
  have V6 : wP.cell? ⟨qw, 6, none⟩ = some (.int .i64 z6) := cell_arr ew rfl
  have HEX : Hid _ := ex
  have HEZ : Hid _ := ez
  have HEW : Hid _ := ew
  clear ex ez ew
  go_wp2_with fail
  refine Calls.mono HCS2.out ?_
  rintro e wQ ⟨rfl, bQ⟩
  have HXQ : Hid _ := HXP.out.below bQ
  have HZQ : Hid _ := HZP.out.below bQ
  have HMQ : Hid _ := HMP.out.below bQ
  have HBQ : Hid (Below w.heap.size w wQ) := HBP.out.trans (bQ.mono HBP.out.size)
  have ex := (bQ.block _ HXP.out.lt).trans HEX.out
  have ez := (bQ.block _ HZP.out.lt).trans HEZ.out
  have lx3 := HXQ.out.lt
  have lz4 := HZQ.out.lt
  clear Z0 Z1 Z2 Z3 Z4 Z5 Z6 V0 V1 V2 V3 V4 V5 V6 lx2 lz3 lw2 bQ HXP HYP HZP HWP HMP HBP HEX HEZ HEW HCS2
  obtain ⟨ra, hra⟩ : ∃ q, q = RA.steps := ⟨_, rfl⟩
  have HRA4 : Hid (ra = RA.steps) := hra
  rw [← hra] at ex
  clear hra
  have X0 : wQ.cell? ⟨qx, 0, none⟩ = some (.slice xa nx xc) := cell_arr ex rfl
  have X4 : wQ.cell? ⟨qx, 4, none⟩ = some (.int .i64 ra) := cell_arr ex rfl
  have Z0 : wQ.cell? ⟨qz, 0, none⟩ = some (.slice za nz zc) := cell_arr ez rfl
  have Z4 : wQ.cell? ⟨qz, 4, none⟩ = some (.int .i64 z4) := cell_arr ez rfl
  have g1 : decide ((a : Int) < ra) = false := decide_eq_false (by have := HPU.out.st; rw [HRA4.out]; omega)
  have g2 : decide (ra > (a : Int)) = false := g1
  have g3 : decide ((nz : Int) < (nx : Int)) = false := decide_eq_false (by have := HPU.out.pre.length_le; rw [HNX.out, HNZ.out]; omega)
  have g4 : decide ((nx : Int) > (nz : Int)) = false := g3
  have g5 : (z4 != z4) = false := by simp
  have g6 : ¬ nz < nx := by have := HPU.out.pre.length_le; rw [HNX.out, HNZ.out]; omega
  have HEX : Hid _ := ex
  have HEZ : Hid _ := ez
  clear ex ez
  go_upto_region 26 with fail
  have HLN : Hid (∀ W, Below wQ.heap.size wQ W → W.cell? ⟨qx, 0, none⟩ = some (.slice xa nx xc) ∧ W.cell? ⟨qz, 0, none⟩ = some (.slice za nz zc) ∧ qx < W.heap.size ∧ qz < W.heap.size) := fun W bW => by
    refine ⟨cell_arr ((bW.block _ HXQ.out.lt).trans HEX.out) rfl, cell_arr ((bW.block _ HZQ.out.lt).trans HEZ.out) rfl, ?_, ?_⟩
    · have := HXQ.out.lt; have := bW.size; omega
    · have := HZQ.out.lt; have := bW.size; omega
  have hmx : nx ≤ 9223372036854775807 := by have := HXQ.out.evs.le; have := HXQ.out.evs.mx; rw [HNX.out]; omega
  clear X0 X4 Z0 Z4 g1 g2 g3 g4 g5 lx3 lz4
  have HG6 : Hid (nx ≤ nz) := by show nx ≤ nz; omega
  clear g6
  have HPM : Hid (pM < wQ.heap.size) := by rw [HPP.out.1]; exact HMQ.out.lt
  go_wp2_with fail
  go_loopw [28] (fun v wr => ∃ k : Nat, k ≤ nx ∧ v = .int .i64 k ∧ Hid (Below wQ.heap.size wQ wr)) (fun v _ => nx - (intOf v).toNat)
  case atStart => exact ⟨0, Nat.zero_le _, rfl, Below.refl _ _⟩
  case round =>
    obtain ⟨k, hk, rfl, HW⟩ := hrel
    obtain ⟨X0, Z0, lx3, lz4⟩ := HLN.out _ HW.out
    by_cases hlt : k < nx
    · have hkz : k < nz := by have := HG6.out; omega
      have hkf : k < RA.ev.length := by have := HNX.out; omega
      obtain ⟨hkg, ekg⟩ := pre_get HPU.out.pre hkf
      obtain ⟨b1, o1, rfl, hbl, c0, c1⟩ := (HXQ.out.below HW.out).evs.atR hkf
      obtain ⟨b2, o2, rfl, hbl2, d0, d1⟩ := (HZQ.out.below HW.out).evs.atR hkg
      rw [ekg] at d0 d1
      generalize RA.ev[k] = mm at c0 c1 d0 d1
      obtain ⟨m1, m2⟩ := mm
      simp only at c0 c1 d0 d1
      clear ekg hkg hkf
      go_wp2_with fail
      go_quiet (fail)
      go_wp2_with fail
      go_roundw
      case rel => exact ⟨k + 1, by omega, by go_num, below_drawnR HW.out _⟩
      case measure => simp [intOf]; omega
    · obtain rfl : k = nx := by omega
      clear hlt hk
      go_upto_region 31 with fail
      have HXS : Hid _ := HXQ.out.below HW.out
      have HZS2 : Hid _ := HZQ.out.below HW.out
      have HMS2 : Hid _ := HMQ.out.below HW.out
      have HBS : Hid (Below w.heap.size w wr) := HBQ.out.trans (HW.out.mono HBQ.out.size)
      have HEX2 : Hid _ := (HW.out.block _ HXQ.out.lt).trans HEX.out
      have HEZ2 : Hid _ := (HW.out.block _ HZQ.out.lt).trans HEZ.out
      have u2 : IntKind.i64.wrap (-1 - (a : Int)) = -1 - (a : Int) := by have := HAB.out; rw [IntKind.wrap_i64]; omega
      have u3 : IntKind.i64.wrap (1099511627777 + (b : Int)) = 1099511627777 + (b : Int) := by have := HAB.out; rw [IntKind.wrap_i64]; omega
      have HCB1 : Hid _ := mRunR_bad wr (mb := pM) (by have := HPM.out; have := HW.out.size; omega) (-1 - (a : Int)) (Or.inl (by omega))
      clear X0 Z0 lx3 lz4 HXQ HZQ HMQ HBQ HEX HEZ HLN hmx
      go_wp2_with fail
      refine Calls.mono HCB1.out ?_
      rintro e wS ⟨rfl, bS⟩
      have HBS3 : Hid _ := bS
      clear bS HCB1
      go_upto_region 32 with fail
      obtain ⟨wT, hwT⟩ : ∃ W, W = wS.alloc (.cells #[.slice none 0 0, .int .i64 0, .int .i64 0, .int .i64 0, .int .i64 0, .int .i64 0, .int .i64 0] 40) := ⟨_, rfl⟩
      have bT : Below wr.heap.size wr wT := by rw [hwT]; exact HBS3.out.trans ((below_newR wS _).mono HBS3.out.size)
      rw [← hwT]
      have HBT : Hid _ := bT
      clear bT hwT HBS3
      have HCB2 : Hid _ := mRunR_bad wT (mb := pM) (by have := HPM.out; have := HW.out.size; have := HBT.out.size; omega) (1099511627777 + (b : Int)) (Or.inr (by omega))
      go_wp2_with fail
      refine Calls.mono HCB2.out ?_
      rintro e wU ⟨rfl, bU⟩
      have HBU3 : Hid _ := bU
      clear bU HCB2
      go_upto_region 33 with fail
      obtain ⟨wV, hwV⟩ : ∃ W, W = wU.alloc (.cells #[.slice none 0 0, .int .i64 0, .int .i64 0, .int .i64 0, .int .i64 0, .int .i64 0, .int .i64 0] 40) := ⟨_, rfl⟩
      have bV : Below wT.heap.size wT wV := by rw [hwV]; exact HBU3.out.trans ((below_newR wU _).mono HBU3.out.size)
      rw [← hwV]
      have HBV : Hid (Below wr.heap.size wr wV) := HBT.out.trans (bV.mono HBT.out.size)
      clear bV hwV HBU3 HBT
      have HXV : Hid _ := HXS.out.below HBV.out
      have HZV : Hid _ := HZS2.out.below HBV.out
      have HMV : Hid _ := HMS2.out.below HBV.out
      have HBF3 : Hid (Below w.heap.size w wV) := HBS.out.trans (HBV.out.mono HBS.out.size)
      have HEX3 : Hid _ := (HBV.out.block _ HXS.out.lt).trans HEX2.out
      have HEZ3 : Hid _ := (HBV.out.block _ HZS2.out.lt).trans HEZ2.out
      clear HXS HZS2 HMS2 HBS HEX2 HEZ2 HBV HW HPM u1 u2 u3
      have HZ1 : Hid _ := HZV
      have HOC : Hid (∀ W, Hid (Below wV.heap.size wV W) → Calls Tryz.prog 16 #[.pointer (some ⟨pM, 0, none⟩)] W fun e w' => ∃ ao c, e = .returned (.agg #[.slice ao nz c, .int .i64 z1, .int .i64 z2, .int .i64 z3, .int .i64 z4, .int .i64 z5, .int .i64 z6]) ∧ Row w' W.heap.size 44 2 (.slice ao RZ.ev.length c) (RZ.ev.map evc) ∧ Below W.heap.size W w') := fun W bW => by
        obtain ⟨q1, q2, q3, q4, q5, q6⟩ := HZS.out
        rw [q1, q2, q3, q4, q5, q6, HNZ.out, HPP.out.1]
        exact (HMV.out.below bW.out).outcome
      have HEO : Hid (∀ {W : World} {B : Nat} {ao : Option Addr} {c : Nat}, Row W B 44 2 (.slice ao RZ.ev.length c) (RZ.ev.map evc) → Evs W ao c RZ.ev) := fun {W B ao c} h => by
        obtain ⟨a', c', e, hE⟩ := evs_of h
        cases e
        exact hE
      have HSA : Hid (∀ (W : World) (ao : Option Addr) (c : Nat), Below wV.heap.size wV W → Evs W ao c RZ.ev → Calls Tryz.prog 17 #[.agg #[.slice ao nz c, .int .i64 z1, .int .i64 z2, .int .i64 z3, .int .i64 z4, .int .i64 z5, .int .i64 z6], .agg #[.slice za nz zc, .int .i64 z1, .int .i64 z2, .int .i64 z3, .int .i64 z4, .int .i64 z5, .int .i64 z6]] W fun e w' => e = .returned (.bool true) ∧ Below W.heap.size W w') := fun W ao c bW hE => sameV_any W z1 z2 z3 z4 z5 z6 hE (HZV.out.below bW).evs HNZ.out
      have HEZ4 : Hid _ := HEZ3.out
      by_cases hfin : RA.fin = 0
      · obtain ⟨x1, hx1⟩ : ∃ q, q = RA.fin := ⟨_, rfl⟩
        obtain ⟨x2, hx2⟩ : ∃ q, q = RA.kd := ⟨_, rfl⟩
        obtain ⟨x3, hx3⟩ : ∃ q, q = RA.vl := ⟨_, rfl⟩
        obtain ⟨x4, hx4⟩ : ∃ q, q = ra := ⟨_, rfl⟩
        obtain ⟨x5, hx5⟩ : ∃ q, q = RA.words := ⟨_, rfl⟩
        obtain ⟨x6, hx6⟩ : ∃ q, q = RA.deep := ⟨_, rfl⟩
        have HEX4 := HEX3
        rw [← hx1, ← hx2, ← hx3, ← hx4, ← hx5, ← hx6] at HEX4
        have hx0 : (x1 == 0) = true := by rw [hx1, hfin]; rfl
        have Sz : SpQ wV wV.drew qx qz (.slice xa k xc) (.slice za nz zc) x1 x2 x3 x4 x5 x6 z1 z2 z3 z4 z5 z6 := SpQ.of HEX4.out HEZ4.out (Below.refl _ _).drew
        clear hx1 hx2 hx3 hx4 hx5 hx6 hfin HXV HZV HMV HEX3 HEZ3 HZ1 HG6 HRA4 HZS HPU HNX HPP HAB
        refine lec_start (S := (fun w' => SpQ wV w' qx qz (.slice xa k xc) (.slice za nz zc) x1 x2 x3 x4 x5 x6 z1 z2 z3 z4 z5 z6)) (z := 24) (by kernel_rfl) ?_
        show lec _ _ _ _ _ 25 _ _ _
        try simp only [List.size_toArray, List.length_cons, List.length_nil, Array.replicate]
        refine lec_takeP (i := 0) (v := ?v0t) rfl (by kernel_rfl) (by kernel_rfl) (by kernel_rfl) (by kernel_rfl) (fun _ _ _ h => h) (.inl ⟨by rfl, ?hy0t⟩) Sz ?rest0t
        case hy0t =>
          rintro w' _
          go_simp
          all_goals with_reducible rfl
        try simp only [Act.put, List.getElem_toArray, List.getElem_cons_succ, List.getElem_cons_zero, List.setIfInBounds_toArray, List.set_cons_zero, List.set_cons_succ]
        refine lec_one (i := 1) rfl (by kernel_rfl) ?_
        intro K1 hK1
        rw [if_pos (by rfl)]
        go_simp
        refine (HNM.out _ _).mono ?_
        rintro e w9 ⟨rfl, rfl⟩
        go_simp
        refine hK1 _ _ (fun _ => Sz) ?_
        clear hK1
        try simp only [Act.put, List.getElem_toArray, List.getElem_cons_succ, List.getElem_cons_zero, List.setIfInBounds_toArray, List.set_cons_zero, List.set_cons_succ]
        refine lec_takeP (i := 2) (v := ?v2t) rfl (by kernel_rfl) (by kernel_rfl) (by kernel_rfl) (by kernel_rfl) (fun _ _ _ h => h) (.inl ⟨by rfl, ?hy2t⟩) Sz ?rest2t
        case hy2t =>
          rintro w' _
          go_simp
          all_goals with_reducible rfl
        try simp only [Act.put, List.getElem_toArray, List.getElem_cons_succ, List.getElem_cons_zero, List.setIfInBounds_toArray, List.set_cons_zero, List.set_cons_succ]
        refine lec_takeP (i := 3) (v := ?v3t) rfl (by kernel_rfl) (by kernel_rfl) (by kernel_rfl) (by kernel_rfl) (fun _ _ _ h => h) (.inl ⟨by rfl, ?hy3t⟩) Sz ?rest3t
        case hy3t =>
          rintro w' _
          go_simp
          all_goals with_reducible rfl
        try simp only [Act.put, List.getElem_toArray, List.getElem_cons_succ, List.getElem_cons_zero, List.setIfInBounds_toArray, List.set_cons_zero, List.set_cons_succ]
        refine lec_takeP (i := 4) (v := ?v4t) rfl (by kernel_rfl) (by kernel_rfl) (by kernel_rfl) (by kernel_rfl) (fun _ _ _ h => h) (.inl ⟨by rfl, ?hy4t⟩) Sz ?rest4t
        case hy4t =>
          rintro w' _
          go_simp
          all_goals with_reducible rfl
        try simp only [Act.put, List.getElem_toArray, List.getElem_cons_succ, List.getElem_cons_zero, List.setIfInBounds_toArray, List.set_cons_zero, List.set_cons_succ]
        refine lec_one (i := 5) rfl (by kernel_rfl) ?_
        intro K5 hK5
        rw [if_pos (by rfl)]
        go_simp
        refine (HNM.out _ _).mono ?_
        rintro e w9 ⟨rfl, rfl⟩
        go_simp
        refine hK5 _ _ (fun _ => Sz) ?_
        clear hK5
        try simp only [Act.put, List.getElem_toArray, List.getElem_cons_succ, List.getElem_cons_zero, List.setIfInBounds_toArray, List.set_cons_zero, List.set_cons_succ]
        refine lec_takeP (i := 6) (v := ?v6t) rfl (by kernel_rfl) (by kernel_rfl) (by kernel_rfl) (by kernel_rfl) (fun _ _ _ h => h) (.inl ⟨by rfl, ?hy6t⟩) Sz ?rest6t
        case hy6t =>
          rintro w' _
          go_simp
          all_goals with_reducible rfl
        try simp only [Act.put, List.getElem_toArray, List.getElem_cons_succ, List.getElem_cons_zero, List.setIfInBounds_toArray, List.set_cons_zero, List.set_cons_succ]
        refine lec_takeP (i := 7) (v := ?v7t) rfl (by kernel_rfl) (by kernel_rfl) (by kernel_rfl) (by kernel_rfl) (fun _ _ _ h => h) (.inl ⟨by rfl, ?hy7t⟩) Sz ?rest7t
        case hy7t =>
          rintro w' _
          go_simp
          all_goals with_reducible rfl
        try simp only [Act.put, List.getElem_toArray, List.getElem_cons_succ, List.getElem_cons_zero, List.setIfInBounds_toArray, List.set_cons_zero, List.set_cons_succ]
        refine lec_takeP (i := 8) (v := ?v8t) rfl (by kernel_rfl) (by kernel_rfl) (by kernel_rfl) (by kernel_rfl) (fun _ _ _ h => h) (.inl ⟨by rfl, ?hy8t⟩) Sz ?rest8t
        case hy8t =>
          rintro w' _
          go_simp
          all_goals with_reducible rfl
        try simp only [Act.put, List.getElem_toArray, List.getElem_cons_succ, List.getElem_cons_zero, List.setIfInBounds_toArray, List.set_cons_zero, List.set_cons_succ]
        refine lec_takeP (i := 9) (v := ?v9t) rfl (by kernel_rfl) (by kernel_rfl) (by kernel_rfl) (by kernel_rfl) (fun _ _ _ h => h) (.inl ⟨by rfl, ?hy9t⟩) Sz ?rest9t
        case hy9t =>
          rintro w' _
          go_simp
          all_goals with_reducible rfl
        try simp only [Act.put, List.getElem_toArray, List.getElem_cons_succ, List.getElem_cons_zero, List.setIfInBounds_toArray, List.set_cons_zero, List.set_cons_succ]
        refine lec_takeT [12, 13, 14, 15, 16, 17, 18, 19, 20, 21, 22, 23, 24] (i := 11) (v := ?v11t) rfl (by kernel_rfl) (by kernel_rfl) (by kernel_rfl) (by kernel_rfl) (fun _ _ _ h => h) (.inl ⟨by rfl, ?hy11t⟩) Sz ?rest11t
        case hy11t =>
          rintro w' ⟨⟨a0, a1, a2, a3, a4, a5, a6⟩, ⟨c0, c1, c2, c3, c4, c5, c6⟩, l1, l2, bb⟩
          go_simp
          all_goals with_reducible rfl
        try simp only [Act.put, List.getElem_toArray, List.getElem_cons_succ, List.getElem_cons_zero, List.setIfInBounds_toArray, List.set_cons_zero, List.set_cons_succ]
        refine lec_one (i := 10) rfl (by kernel_rfl) ?_
        intro K10 hK10
        rw [if_pos (by rfl)]
        go_simp
        refine (HOC.out _ Sz.2.2.2.2).mono ?_
        rintro e wX ⟨ta, tc, rfl, hRX, bX⟩
        have HBX : Hid (Below wV.heap.size wV wX) := Sz.2.2.2.2.out.trans (bX.mono Sz.2.2.2.2.out.size)
        have HEVX : Hid (Evs wX ta tc RZ.ev) := HEO.out hRX
        have Sz : SpQ wV wX qx qz (.slice xa k xc) (.slice za nz zc) x1 x2 x3 x4 x5 x6 z1 z2 z3 z4 z5 z6 := SpQ.of HEX4.out HEZ4.out HBX.out
        clear hRX bX
        go_simp
        refine hK10 _ _ (fun _ => Sz) ?_
        clear hK10
        try simp only [Act.put, List.getElem_toArray, List.getElem_cons_succ, List.getElem_cons_zero, List.setIfInBounds_toArray, List.set_cons_zero, List.set_cons_succ]
        refine lec_one (i := 12) rfl (by kernel_rfl) ?_
        intro K12 hK12
        rw [if_pos (by rfl)]
        go_simp
        refine (HSA.out wX ta tc HBX.out HEVX.out).mono ?_
        rintro e wY ⟨rfl, bY⟩
        have HBY : Hid (Below wV.heap.size wV wY) := HBX.out.trans (bY.mono HBX.out.size)
        have Sz : SpQ wV wY qx qz (.slice xa k xc) (.slice za nz zc) x1 x2 x3 x4 x5 x6 z1 z2 z3 z4 z5 z6 := SpQ.of HEX4.out HEZ4.out HBY.out
        clear bY
        go_simp
        refine hK12 _ _ (fun _ => Sz) ?_
        clear hK12
        try simp only [Act.put, List.getElem_toArray, List.getElem_cons_succ, List.getElem_cons_zero, List.setIfInBounds_toArray, List.set_cons_zero, List.set_cons_succ]
        refine lec_takeP (i := 13) (v := ?v13t) rfl (by kernel_rfl) (by kernel_rfl) (by kernel_rfl) (by kernel_rfl) (fun _ _ _ h => h) (.inl ⟨by rfl, ?hy13t⟩) Sz ?rest13t
        case hy13t =>
          rintro w' _
          go_simp
          all_goals with_reducible rfl
        try simp only [Act.put, List.getElem_toArray, List.getElem_cons_succ, List.getElem_cons_zero, List.setIfInBounds_toArray, List.set_cons_zero, List.set_cons_succ]
        refine lec_takeP (i := 14) (v := ?v14t) rfl (by kernel_rfl) (by kernel_rfl) (by kernel_rfl) (by kernel_rfl) (fun _ _ _ h => h) (.inl ⟨by rfl, ?hy14t⟩) Sz ?rest14t
        case hy14t =>
          rintro w' _
          go_simp
          all_goals with_reducible rfl
        try simp only [Act.put, List.getElem_toArray, List.getElem_cons_succ, List.getElem_cons_zero, List.setIfInBounds_toArray, List.set_cons_zero, List.set_cons_succ]
        refine lec_takeP (i := 15) (v := ?v15t) rfl (by kernel_rfl) (by kernel_rfl) (by kernel_rfl) (by kernel_rfl) (fun _ _ _ h => h) (.inl ⟨by rfl, ?hy15t⟩) Sz ?rest15t
        case hy15t =>
          rintro w' _
          go_simp
          all_goals with_reducible rfl
        try simp only [Act.put, List.getElem_toArray, List.getElem_cons_succ, List.getElem_cons_zero, List.setIfInBounds_toArray, List.set_cons_zero, List.set_cons_succ]
        refine lec_takeT [17, 18, 19, 20, 21, 22, 23, 24] (i := 16) (v := ?v16t) rfl (by kernel_rfl) (by kernel_rfl) (by kernel_rfl) (by kernel_rfl) (fun _ _ _ h => h) (.inl ⟨by rfl, ?hy16t⟩) Sz ?rest16t
        case hy16t =>
          rintro w' ⟨⟨a0, a1, a2, a3, a4, a5, a6⟩, ⟨c0, c1, c2, c3, c4, c5, c6⟩, l1, l2, bb⟩
          go_simp
          all_goals with_reducible rfl
        try simp only [Act.put, List.getElem_toArray, List.getElem_cons_succ, List.getElem_cons_zero, List.setIfInBounds_toArray, List.set_cons_zero, List.set_cons_succ]
        refine lec_takeP (i := 17) (v := ?v17t) rfl (by kernel_rfl) (by kernel_rfl) (by kernel_rfl) (by kernel_rfl) (fun _ _ _ h => h) (.inl ⟨by rfl, ?hy17t⟩) Sz ?rest17t
        case hy17t =>
          rintro w' _
          go_simp
          all_goals with_reducible rfl
        try simp only [Act.put, List.getElem_toArray, List.getElem_cons_succ, List.getElem_cons_zero, List.setIfInBounds_toArray, List.set_cons_zero, List.set_cons_succ]
        refine lec_takeP (i := 18) (v := ?v18t) rfl (by kernel_rfl) (by kernel_rfl) (by kernel_rfl) (by kernel_rfl) (fun _ _ _ h => h) (.inl ⟨by rfl, ?hy18t⟩) Sz ?rest18t
        case hy18t =>
          rintro w' _
          go_simp
          all_goals with_reducible rfl
        try simp only [Act.put, List.getElem_toArray, List.getElem_cons_succ, List.getElem_cons_zero, List.setIfInBounds_toArray, List.set_cons_zero, List.set_cons_succ]
        refine lec_takeP (i := 19) (v := undef) rfl (by kernel_rfl) (by kernel_rfl) (by kernel_rfl) (by kernel_rfl) (fun _ _ _ h => h) (.inr ⟨by kernel_rfl, rfl⟩) Sz ?_
        try simp only [Act.put, List.getElem_toArray, List.getElem_cons_succ, List.getElem_cons_zero, List.setIfInBounds_toArray, List.set_cons_zero, List.set_cons_succ]
        refine lec_takeP (i := 20) (v := undef) rfl (by kernel_rfl) (by kernel_rfl) (by kernel_rfl) (by kernel_rfl) (fun _ _ _ h => h) (.inr ⟨by kernel_rfl, rfl⟩) Sz ?_
        try simp only [Act.put, List.getElem_toArray, List.getElem_cons_succ, List.getElem_cons_zero, List.setIfInBounds_toArray, List.set_cons_zero, List.set_cons_succ]
        refine lec_takeP (i := 21) (v := undef) rfl (by kernel_rfl) (by kernel_rfl) (by kernel_rfl) (by kernel_rfl) (fun _ _ _ h => h) (.inr ⟨by kernel_rfl, rfl⟩) Sz ?_
        try simp only [Act.put, List.getElem_toArray, List.getElem_cons_succ, List.getElem_cons_zero, List.setIfInBounds_toArray, List.set_cons_zero, List.set_cons_succ]
        refine lec_takeP (i := 22) (v := ?v22t) rfl (by kernel_rfl) (by kernel_rfl) (by kernel_rfl) (by kernel_rfl) (fun _ _ _ h => h) (.inl ⟨by rfl, ?hy22t⟩) Sz ?rest22t
        case hy22t =>
          rintro w' _
          go_simp
          all_goals with_reducible rfl
        try simp only [Act.put, List.getElem_toArray, List.getElem_cons_succ, List.getElem_cons_zero, List.setIfInBounds_toArray, List.set_cons_zero, List.set_cons_succ]
        refine lec_takeP (i := 23) (v := ?v23t) rfl (by kernel_rfl) (by kernel_rfl) (by kernel_rfl) (by kernel_rfl) (fun _ _ _ h => h) (.inl ⟨by rfl, ?hy23t⟩) Sz ?rest23t
        case hy23t =>
          rintro w' _
          go_simp
          all_goals with_reducible rfl
        try simp only [Act.put, List.getElem_toArray, List.getElem_cons_succ, List.getElem_cons_zero, List.setIfInBounds_toArray, List.set_cons_zero, List.set_cons_succ]
        refine lec_one (i := 24) rfl (by kernel_rfl) ?_
        intro K24 hK24
        rw [if_pos (by rfl)]
        go_simp
        refine hK24 _ _ (fun _ => Sz) ?_
        clear hK24
        try simp only [Act.put, List.getElem_toArray, List.getElem_cons_succ, List.getElem_cons_zero, List.setIfInBounds_toArray, List.set_cons_zero, List.set_cons_succ]
        refine lec_done (by kernel_rfl) ?_
        go_wp2_with fail
        go_ret
        exact ⟨rfl, HBF3.out.trans (HBY.out.mono HBF3.out.size)⟩
      · have eZA := HPU.out.fin hfin
        have HEX4 := HXV.out.box
        have HEVA := HXV.out.evs
        have hz1 : (z1 == 0) = false := by rw [HZS.out.1, eZA]; simpa using hfin
        obtain ⟨q1, q2, q3, q4, q5, q6⟩ := HZS.out
        rw [← eZA] at HEX4 HEVA
        rw [← q1, ← q2, ← q3, ← q4, ← q5, ← q6, ← HNZ.out] at HEX4
        replace HEX4 : Hid _ := HEX4
        have HSX : Hid (∀ (W : World), Below wV.heap.size wV W → Calls Tryz.prog 17 #[.agg #[.slice xa nz xc, .int .i64 z1, .int .i64 z2, .int .i64 z3, .int .i64 z4, .int .i64 z5, .int .i64 z6], .agg #[.slice za nz zc, .int .i64 z1, .int .i64 z2, .int .i64 z3, .int .i64 z4, .int .i64 z5, .int .i64 z6]] W fun e w' => e = .returned (.bool true) ∧ Below W.heap.size W w') := fun W bW => sameV_any W z1 z2 z3 z4 z5 z6 (by have := (HXV.out.below bW).evs; rw [← eZA] at this; exact this) (HZV.out.below bW).evs HNZ.out
        have Sz : SpQ wV wV.drew qx qz (.slice xa nz xc) (.slice za nz zc) z1 z2 z3 z4 z5 z6 z1 z2 z3 z4 z5 z6 := SpQ.of HEX4.out HEZ4.out (Below.refl _ _).drew
        clear HEVA q1 q2 q3 q4 q5 q6 eZA hfin HXV HZV HMV HEX3 HEZ3 HZ1 HG6 HRA4 HZS HPU HNX HPP HAB
        refine lec_start (S := (fun w' => SpQ wV w' qx qz (.slice xa nz xc) (.slice za nz zc) z1 z2 z3 z4 z5 z6 z1 z2 z3 z4 z5 z6)) (z := 24) (by kernel_rfl) ?_
        show lec _ _ _ _ _ 25 _ _ _
        try simp only [List.size_toArray, List.length_cons, List.length_nil, Array.replicate]
        refine lec_takeP (i := 0) (v := ?v0f) rfl (by kernel_rfl) (by kernel_rfl) (by kernel_rfl) (by kernel_rfl) (fun _ _ _ h => h) (.inl ⟨by rfl, ?hy0f⟩) Sz ?rest0f
        case hy0f =>
          rintro w' _
          go_simp
          all_goals with_reducible rfl
        try simp only [Act.put, List.getElem_toArray, List.getElem_cons_succ, List.getElem_cons_zero, List.setIfInBounds_toArray, List.set_cons_zero, List.set_cons_succ]
        refine lec_one (i := 1) rfl (by kernel_rfl) ?_
        intro K1 hK1
        rw [if_pos (by rfl)]
        go_simp
        refine (HNM.out _ _).mono ?_
        rintro e w9 ⟨rfl, rfl⟩
        go_simp
        refine hK1 _ _ (fun _ => Sz) ?_
        clear hK1
        try simp only [Act.put, List.getElem_toArray, List.getElem_cons_succ, List.getElem_cons_zero, List.setIfInBounds_toArray, List.set_cons_zero, List.set_cons_succ]
        refine lec_takeP (i := 2) (v := ?v2f) rfl (by kernel_rfl) (by kernel_rfl) (by kernel_rfl) (by kernel_rfl) (fun _ _ _ h => h) (.inl ⟨by rfl, ?hy2f⟩) Sz ?rest2f
        case hy2f =>
          rintro w' _
          go_simp
          all_goals with_reducible rfl
        try simp only [Act.put, List.getElem_toArray, List.getElem_cons_succ, List.getElem_cons_zero, List.setIfInBounds_toArray, List.set_cons_zero, List.set_cons_succ]
        refine lec_takeP (i := 3) (v := ?v3f) rfl (by kernel_rfl) (by kernel_rfl) (by kernel_rfl) (by kernel_rfl) (fun _ _ _ h => h) (.inl ⟨by rfl, ?hy3f⟩) Sz ?rest3f
        case hy3f =>
          rintro w' _
          go_simp
          all_goals with_reducible rfl
        try simp only [Act.put, List.getElem_toArray, List.getElem_cons_succ, List.getElem_cons_zero, List.setIfInBounds_toArray, List.set_cons_zero, List.set_cons_succ]
        refine lec_takeP (i := 4) (v := ?v4f) rfl (by kernel_rfl) (by kernel_rfl) (by kernel_rfl) (by kernel_rfl) (fun _ _ _ h => h) (.inl ⟨by rfl, ?hy4f⟩) Sz ?rest4f
        case hy4f =>
          rintro w' _
          go_simp
          all_goals with_reducible rfl
        try simp only [Act.put, List.getElem_toArray, List.getElem_cons_succ, List.getElem_cons_zero, List.setIfInBounds_toArray, List.set_cons_zero, List.set_cons_succ]
        refine lec_one (i := 5) rfl (by kernel_rfl) ?_
        intro K5 hK5
        rw [if_pos (by rfl)]
        go_simp
        refine (HNM.out _ _).mono ?_
        rintro e w9 ⟨rfl, rfl⟩
        go_simp
        refine hK5 _ _ (fun _ => Sz) ?_
        clear hK5
        try simp only [Act.put, List.getElem_toArray, List.getElem_cons_succ, List.getElem_cons_zero, List.setIfInBounds_toArray, List.set_cons_zero, List.set_cons_succ]
        refine lec_takeP (i := 6) (v := ?v6f) rfl (by kernel_rfl) (by kernel_rfl) (by kernel_rfl) (by kernel_rfl) (fun _ _ _ h => h) (.inl ⟨by rfl, ?hy6f⟩) Sz ?rest6f
        case hy6f =>
          rintro w' _
          go_simp
          all_goals with_reducible rfl
        try simp only [Act.put, List.getElem_toArray, List.getElem_cons_succ, List.getElem_cons_zero, List.setIfInBounds_toArray, List.set_cons_zero, List.set_cons_succ]
        refine lec_takeP (i := 7) (v := ?v7f) rfl (by kernel_rfl) (by kernel_rfl) (by kernel_rfl) (by kernel_rfl) (fun _ _ _ h => h) (.inl ⟨by rfl, ?hy7f⟩) Sz ?rest7f
        case hy7f =>
          rintro w' _
          go_simp
          all_goals with_reducible rfl
        try simp only [Act.put, List.getElem_toArray, List.getElem_cons_succ, List.getElem_cons_zero, List.setIfInBounds_toArray, List.set_cons_zero, List.set_cons_succ]
        refine lec_takeP (i := 8) (v := ?v8f) rfl (by kernel_rfl) (by kernel_rfl) (by kernel_rfl) (by kernel_rfl) (fun _ _ _ h => h) (.inl ⟨by rfl, ?hy8f⟩) Sz ?rest8f
        case hy8f =>
          rintro w' _
          go_simp
          all_goals with_reducible rfl
        try simp only [Act.put, List.getElem_toArray, List.getElem_cons_succ, List.getElem_cons_zero, List.setIfInBounds_toArray, List.set_cons_zero, List.set_cons_succ]
        refine lec_takeP (i := 9) (v := ?v9f) rfl (by kernel_rfl) (by kernel_rfl) (by kernel_rfl) (by kernel_rfl) (fun _ _ _ h => h) (.inl ⟨by rfl, ?hy9f⟩) Sz ?rest9f
        case hy9f =>
          rintro w' _
          go_simp
          all_goals with_reducible rfl
        try simp only [Act.put, List.getElem_toArray, List.getElem_cons_succ, List.getElem_cons_zero, List.setIfInBounds_toArray, List.set_cons_zero, List.set_cons_succ]
        refine lec_takeT [12, 13, 14, 15, 16, 17, 18, 19, 20, 21, 22, 23, 24] (i := 11) (v := ?v11f) rfl (by kernel_rfl) (by kernel_rfl) (by kernel_rfl) (by kernel_rfl) (fun _ _ _ h => h) (.inl ⟨by rfl, ?hy11f⟩) Sz ?rest11f
        case hy11f =>
          rintro w' ⟨⟨a0, a1, a2, a3, a4, a5, a6⟩, ⟨c0, c1, c2, c3, c4, c5, c6⟩, l1, l2, bb⟩
          go_simp
          all_goals with_reducible rfl
        try simp only [Act.put, List.getElem_toArray, List.getElem_cons_succ, List.getElem_cons_zero, List.setIfInBounds_toArray, List.set_cons_zero, List.set_cons_succ]
        refine lec_one (i := 10) rfl (by kernel_rfl) ?_
        intro K10 hK10
        rw [if_pos (by rfl)]
        go_simp
        refine (HOC.out _ Sz.2.2.2.2).mono ?_
        rintro e wX ⟨ta, tc, rfl, hRX, bX⟩
        have HBX : Hid (Below wV.heap.size wV wX) := Sz.2.2.2.2.out.trans (bX.mono Sz.2.2.2.2.out.size)
        have HEVX : Hid (Evs wX ta tc RZ.ev) := HEO.out hRX
        have Sz : SpQ wV wX qx qz (.slice xa nz xc) (.slice za nz zc) z1 z2 z3 z4 z5 z6 z1 z2 z3 z4 z5 z6 := SpQ.of HEX4.out HEZ4.out HBX.out
        clear hRX bX
        go_simp
        refine hK10 _ _ (fun _ => Sz) ?_
        clear hK10
        try simp only [Act.put, List.getElem_toArray, List.getElem_cons_succ, List.getElem_cons_zero, List.setIfInBounds_toArray, List.set_cons_zero, List.set_cons_succ]
        refine lec_one (i := 12) rfl (by kernel_rfl) ?_
        intro K12 hK12
        rw [if_pos (by rfl)]
        go_simp
        refine (HSA.out wX ta tc HBX.out HEVX.out).mono ?_
        rintro e wY ⟨rfl, bY⟩
        have HBY : Hid (Below wV.heap.size wV wY) := HBX.out.trans (bY.mono HBX.out.size)
        have Sz : SpQ wV wY qx qz (.slice xa nz xc) (.slice za nz zc) z1 z2 z3 z4 z5 z6 z1 z2 z3 z4 z5 z6 := SpQ.of HEX4.out HEZ4.out HBY.out
        clear bY
        go_simp
        refine hK12 _ _ (fun _ => Sz) ?_
        clear hK12
        try simp only [Act.put, List.getElem_toArray, List.getElem_cons_succ, List.getElem_cons_zero, List.setIfInBounds_toArray, List.set_cons_zero, List.set_cons_succ]
        refine lec_takeP (i := 13) (v := ?v13f) rfl (by kernel_rfl) (by kernel_rfl) (by kernel_rfl) (by kernel_rfl) (fun _ _ _ h => h) (.inl ⟨by rfl, ?hy13f⟩) Sz ?rest13f
        case hy13f =>
          rintro w' _
          go_simp
          all_goals with_reducible rfl
        try simp only [Act.put, List.getElem_toArray, List.getElem_cons_succ, List.getElem_cons_zero, List.setIfInBounds_toArray, List.set_cons_zero, List.set_cons_succ]
        refine lec_takeP (i := 14) (v := ?v14f) rfl (by kernel_rfl) (by kernel_rfl) (by kernel_rfl) (by kernel_rfl) (fun _ _ _ h => h) (.inl ⟨by rfl, ?hy14f⟩) Sz ?rest14f
        case hy14f =>
          rintro w' _
          go_simp
          all_goals with_reducible rfl
        try simp only [Act.put, List.getElem_toArray, List.getElem_cons_succ, List.getElem_cons_zero, List.setIfInBounds_toArray, List.set_cons_zero, List.set_cons_succ]
        refine lec_takeP (i := 15) (v := ?v15f) rfl (by kernel_rfl) (by kernel_rfl) (by kernel_rfl) (by kernel_rfl) (fun _ _ _ h => h) (.inl ⟨by rfl, ?hy15f⟩) Sz ?rest15f
        case hy15f =>
          rintro w' _
          go_simp
          all_goals with_reducible rfl
        try simp only [Act.put, List.getElem_toArray, List.getElem_cons_succ, List.getElem_cons_zero, List.setIfInBounds_toArray, List.set_cons_zero, List.set_cons_succ]
        refine lec_takeT [17, 18, 19, 20, 21, 22, 23, 24] (i := 16) (v := ?v16f) rfl (by kernel_rfl) (by kernel_rfl) (by kernel_rfl) (by kernel_rfl) (fun _ _ _ h => h) (.inl ⟨by rfl, ?hy16f⟩) Sz ?rest16f
        case hy16f =>
          rintro w' ⟨⟨a0, a1, a2, a3, a4, a5, a6⟩, ⟨c0, c1, c2, c3, c4, c5, c6⟩, l1, l2, bb⟩
          go_simp
          all_goals with_reducible rfl
        try simp only [Act.put, List.getElem_toArray, List.getElem_cons_succ, List.getElem_cons_zero, List.setIfInBounds_toArray, List.set_cons_zero, List.set_cons_succ]
        refine lec_takeP (i := 17) (v := ?v17f) rfl (by kernel_rfl) (by kernel_rfl) (by kernel_rfl) (by kernel_rfl) (fun _ _ _ h => h) (.inl ⟨by rfl, ?hy17f⟩) Sz ?rest17f
        case hy17f =>
          rintro w' _
          go_simp
          all_goals with_reducible rfl
        try simp only [Act.put, List.getElem_toArray, List.getElem_cons_succ, List.getElem_cons_zero, List.setIfInBounds_toArray, List.set_cons_zero, List.set_cons_succ]
        refine lec_takeP (i := 18) (v := ?v18f) rfl (by kernel_rfl) (by kernel_rfl) (by kernel_rfl) (by kernel_rfl) (fun _ _ _ h => h) (.inl ⟨by rfl, ?hy18f⟩) Sz ?rest18f
        case hy18f =>
          rintro w' _
          go_simp
          all_goals with_reducible rfl
        try simp only [Act.put, List.getElem_toArray, List.getElem_cons_succ, List.getElem_cons_zero, List.setIfInBounds_toArray, List.set_cons_zero, List.set_cons_succ]
        refine lec_takeT [21, 22, 23, 24] (i := 19) (v := ?v19f) rfl (by kernel_rfl) (by kernel_rfl) (by kernel_rfl) (by kernel_rfl) (fun _ _ _ h => h) (.inl ⟨by rfl, ?hy19f⟩) Sz ?rest19f
        case hy19f =>
          rintro w' ⟨⟨a0, a1, a2, a3, a4, a5, a6⟩, ⟨c0, c1, c2, c3, c4, c5, c6⟩, l1, l2, bb⟩
          go_simp
          all_goals with_reducible rfl
        try simp only [Act.put, List.getElem_toArray, List.getElem_cons_succ, List.getElem_cons_zero, List.setIfInBounds_toArray, List.set_cons_zero, List.set_cons_succ]
        refine lec_takeT [21, 22, 23, 24] (i := 20) (v := ?v20f) rfl (by kernel_rfl) (by kernel_rfl) (by kernel_rfl) (by kernel_rfl) (fun _ _ _ h => h) (.inl ⟨by rfl, ?hy20f⟩) Sz ?rest20f
        case hy20f =>
          rintro w' ⟨⟨a0, a1, a2, a3, a4, a5, a6⟩, ⟨c0, c1, c2, c3, c4, c5, c6⟩, l1, l2, bb⟩
          go_simp
          all_goals with_reducible rfl
        try simp only [Act.put, List.getElem_toArray, List.getElem_cons_succ, List.getElem_cons_zero, List.setIfInBounds_toArray, List.set_cons_zero, List.set_cons_succ]
        refine lec_one (i := 21) rfl (by kernel_rfl) ?_
        intro K21 hK21
        rw [if_pos (by rfl)]
        go_simp
        refine (HSX.out wY HBY.out).mono ?_
        rintro e wY2 ⟨rfl, bY2⟩
        have HBY2 : Hid (Below wV.heap.size wV wY2) := HBY.out.trans (bY2.mono HBY.out.size)
        have Sz : SpQ wV wY2 qx qz (.slice xa nz xc) (.slice za nz zc) z1 z2 z3 z4 z5 z6 z1 z2 z3 z4 z5 z6 := SpQ.of HEX4.out HEZ4.out HBY2.out
        clear bY2
        go_simp
        refine hK21 _ _ (fun _ => Sz) ?_
        clear hK21
        try simp only [Act.put, List.getElem_toArray, List.getElem_cons_succ, List.getElem_cons_zero, List.setIfInBounds_toArray, List.set_cons_zero, List.set_cons_succ]
        refine lec_takeP (i := 22) (v := ?v22f) rfl (by kernel_rfl) (by kernel_rfl) (by kernel_rfl) (by kernel_rfl) (fun _ _ _ h => h) (.inl ⟨by rfl, ?hy22f⟩) Sz ?rest22f
        case hy22f =>
          rintro w' _
          go_simp
          all_goals with_reducible rfl
        try simp only [Act.put, List.getElem_toArray, List.getElem_cons_succ, List.getElem_cons_zero, List.setIfInBounds_toArray, List.set_cons_zero, List.set_cons_succ]
        refine lec_takeP (i := 23) (v := ?v23f) rfl (by kernel_rfl) (by kernel_rfl) (by kernel_rfl) (by kernel_rfl) (fun _ _ _ h => h) (.inl ⟨by rfl, ?hy23f⟩) Sz ?rest23f
        case hy23f =>
          rintro w' _
          go_simp
          all_goals with_reducible rfl
        try simp only [Act.put, List.getElem_toArray, List.getElem_cons_succ, List.getElem_cons_zero, List.setIfInBounds_toArray, List.set_cons_zero, List.set_cons_succ]
        refine lec_one (i := 24) rfl (by kernel_rfl) ?_
        intro K24 hK24
        rw [if_pos (by rfl)]
        go_simp
        refine hK24 _ _ (fun _ => Sz) ?_
        clear hK24
        try simp only [Act.put, List.getElem_toArray, List.getElem_cons_succ, List.getElem_cons_zero, List.setIfInBounds_toArray, List.set_cons_zero, List.set_cons_succ]
        refine lec_done (by kernel_rfl) ?_
        go_wp2_with fail
        go_ret
        exact ⟨rfl, HBF3.out.trans (HBY2.out.mono HBF3.out.size)⟩
theorem r16Split_any (w : World) (hTab : Tab w) (ca : Option Addr) (cc : Nat) (C : List Ri) (fa : Option Addr) (fc : Nat) (FS : List Rf) (m : Int) (hC : StsG w ca cc 5 (C.map riv)) (hCl : C.length ≤ 140737488351232) (hCn : ∀ x ∈ C, ReI x) (hF : StsG w fa fc 5 (FS.map rfv)) (hFl : FS.length ≤ 140737488351232) (hFn : ∀ f ∈ FS, ReR f) (ia : Option Addr) (ic : Nat) (I : List Int) (hI : Ints w ia ic I) (hIl : I.length ≤ 140737488351232) (hIf : ∀ x ∈ I, Fits x) (S r : Int) (hS : Fits S) (hr : Fits r) (a0 b0 : Int) :
    Calls Tryz.prog 7 #[.agg #[.slice ca C.length cc, .slice fa FS.length fc, .int .i64 m], .slice ia I.length ic, .agg #[.int .i64 S, .int .i64 r], .int .i64 a0, .int .i64 b0] w fun e w' => e = .returned (.bool true) ∧ Below w.heap.size w w' := by
  obtain ⟨a, hal, ha⟩ := andR_small a0 16383 (by omega)
  obtain ⟨b, hbl, hb⟩ := andR_small b0 16383 (by omega)
  exact r16Split_in w hTab ca cc C fa fc FS m hC hCl hCn hF hFl hFn ia ic I hI hIl hIf S r hS hr a0 b0 a b ha hb hal hbl
end Go.Proofs.YteplldbhfjfbpaaGreatDoor
