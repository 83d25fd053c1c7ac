import Derived.Test.YtjiaedckecfjbaaDoorVfG
set_option linter.unusedVariables false
set_option linter.unusedSimpArgs false
namespace Go.Proofs.YtjiaedckecfjbaaDoor
open Go.ChangeShapes Go.WideShapes Go.ChangeAt Go.RowKit Go.Maps

def al (w : World) (X : List Obj) : World := X.foldl World.alloc w
theorem al_size (X : List Obj) : ∀ w : World, (al w X).heap.size = w.heap.size + X.length := by
  induction X with
  | nil => intro w; rfl
  | cons x xs ih => intro w; show (al (w.alloc x) xs).heap.size = _; rw [ih]; simp; omega
theorem al_below (X : List Obj) : ∀ w : World, Below w.heap.size w (al w X) := by
  induction X with
  | nil => intro w; exact Below.refl _ _
  | cons x xs ih => intro w; exact (below_newR w x).trans ((ih (w.alloc x)).mono (by simp))
theorem al_at (X : List Obj) : ∀ (w : World) (i : Nat) (h : i < X.length), (al w X).heap[w.heap.size + i]? = some X[i] := by
  induction X with
  | nil => intro w i h; simp at h
  | cons x xs ih =>
    intro w i h
    cases i with
    | zero =>
      show (al (w.alloc x) xs).heap[w.heap.size]? = _
      rw [(al_below xs (w.alloc x)).block _ (by simp)]
      exact heap_alloc_new w x
    | succ i =>
      have := ih (w.alloc x) i (by simpa using h)
      rw [show (w.alloc x).heap.size + i = w.heap.size + (i + 1) by simp; omega] at this
      exact this
theorem made_oneB (n : Nat) : madeCells #[.int .u8 0] n = u8s (List.replicate n (0 : Int)) := by
  unfold u8s
  apply Array.ext
  · simp [madeCells]
  · intro i h1 h2
    have e1 : (madeCells #[.int .u8 0] n)[i] = .int .u8 0 := by
      simp only [madeCells, Array.getElem_map, Array.getElem_range]
      have hz : i % 1 = 0 := by omega
      show #[Value.int .u8 0][i % 1]! = _; rw [hz]; rfl
    rw [e1]
    simp
theorem run_bytesC (n : Nat) (h : n ≤ 1000000000) (w : World) : (Instr.makeSlice 28 (.int .i64 (n : Int)) (.int .i64 (n : Int))).run Tryd.prog w = .ok (.slice (some ⟨w.heap.size, 0, none⟩) n n) (w.alloc (.cells (u8s (List.replicate n (0 : Int))) 5)) := by
  have info3r : (Tryd.prog.info? 5).map (fun i => (i.zero, i.size, i.bytes)) = some (some (.int .u8 0), 1, 1) := by kernel_rfl
  obtain ⟨i0, hi, hz0, hz1, hz2⟩ := info_parts info3r
  have hr := run_make (P := Tryd.prog) w 28 5 i0 (.int .u8 0) Tryd.underlying28 hi hz0 .i64 .i64 n n (by omega) (by omega) (by rw [hz2]; omega) (by omega)
  simp only [Int.toNat_natCast, hz1, Nat.mul_one] at hr
  rw [← made_oneB]
  exact hr
/-- Code's numbers are numbers of Go. -/
structure CdN (C : List Ri) (FS : List Rf) (m : Int) : Prop where
  ins : ∀ x ∈ C, Fits x.op ∧ Fits x.a ∧ Fits x.b ∧ Fits x.c ∧ Fits x.n
  fn : ∀ f ∈ FS, Fits f.fr ∧ Fits f.ct ∧ Fits f.pa
  m : Fits m
theorem cutF_in {len : Int} : ∀ (FS : List Rf) (next : Int), cutF len next FS = true → ∀ t : Int, next ≤ t → t < len → ∃ f ∈ FS, f.fi ≤ t ∧ t < f.fi + f.ct
  | [], next, h, t, h1, h2 => by
    have : next = len := by simpa [cutF] using h
    omega
  | g :: FS, next, h, t, h1, h2 => by
    have e : cutF len next (g :: FS) = (decide (g.fi = next ∧ 1 ≤ g.ct ∧ g.ct ≤ len - next) && cutF len (next + g.ct) FS) := rfl
    rw [e] at h
    simp only [Bool.and_eq_true, decide_eq_true_eq] at h
    obtain ⟨⟨a, b, c⟩, d⟩ := h
    by_cases ht : t < next + g.ct
    · exact ⟨g, by simp, by omega, by omega⟩
    · obtain ⟨f, hf, q⟩ := cutF_in FS (next + g.ct) d t (by omega) h2
      exact ⟨f, by simp [hf], q⟩
theorem CdN.form {C FS m} (h : CdN C FS m) (hf : formR C FS m = true) : CdF C FS m := by
  have hf0 := hf
  unfold formR at hf0
  simp only [Bool.and_eq_true] at hf0
  have ho := foR_of hf0.1 hf0.2.2.2
  have hc := cutF_all FS 0 (by omega) hf0.1
  refine ⟨fun f hm => ?_, h.fn, fun x hx => ?_, h.ins, h.m⟩
  · have hn := hf0.2.1
    unfold namesP at hn
    simp only [Bool.and_eq_true, List.all_eq_true] at hn
    have := hn.1 f hm
    unfold nmOk at this
    simp only [Bool.and_eq_true, decide_eq_true_eq] at this
    have e : f.name.size = (nml f.name).length := by unfold nml; rw [Array.length_toList]; rfl
    rw [e]
    refine ⟨?_, this.1.1.1⟩
    cases hq : nml f.name with
    | nil => rw [hq] at this; simp at this
    | cons a l => simp
  · obtain ⟨i, hi, rfl⟩ := List.mem_iff_getElem.1 hx
    obtain ⟨f, hf1, h1, h2⟩ := cutF_in FS 0 hf0.1 (i : Int) (by omega) (by omega)
    have := (ho.ins f hf1 (i : Int) h1 h2).1
    rw [Int.toNat_natCast, List.getD, List.getElem?_eq_getElem hi] at this
    unfold regsF at this
    simp only [Option.getD_some, Bool.and_eq_true, decide_eq_true_eq] at this
    exact this.1
/-- What Write answers. -/
structure WrA (w w' : World) (C : List Ri) (FS : List Rf) (m : Int) (e : Ending) : Prop where
  bad : formR C FS m = false → e = .returned (.tuple #[.slice none 0 0, .int .i64 210])
  big : formR C FS m = true → 268435456 < szC C FS → e = .returned (.tuple #[.slice none 0 0, .int .i64 2])
  ok : formR C FS m = true → szC C FS ≤ 268435456 → ∃ b, e = .returned (.tuple #[.slice (some ⟨b, 0, none⟩) (szC C FS) (szC C FS), .int .i64 0]) ∧ w'.heap[b]? = some (.cells (u8s (wrC C FS m)) 5 (0, 0)) ∧ w.heap.size ≤ b
  low : Below w.heap.size w w'
set_option maxRecDepth 100000 in
set_option maxHeartbeats 4000000 in
theorem write_any (w : World) (hTab : Tab w) (ca : Option Addr) (cn cc : Nat) (fa : Option Addr) (fn fc : Nat) (m : Int) (C : List Ri) (FS : List Rf) (hcn : cn = C.length) (hfn : fn = FS.length) (hC : StsG w ca cc 5 (C.map riv)) (hF : StsG w fa fc 5 (FS.map rfv)) (hlen : cn ≤ 10000000) (hfl : fn ≤ 1000000) (hcd : CdN C FS m) :
    Calls Tryd.prog 11 #[.agg #[.slice ca cn cc, .slice fa fn fc, .int .i64 m]] w fun e w' => WrA w w' C FS m e := by
  obtain ⟨W1, hW1⟩ : ∃ W, W = w.alloc (.cells #[.slice ca cn cc, .slice fa fn fc, .int .i64 m] 25) := ⟨_, rfl⟩
  obtain ⟨p, hp⟩ : ∃ p, p = w.heap.size := ⟨_, rfl⟩
  have k0 : W1.heap[p]? = some (.cells #[.slice ca cn cc, .slice fa fn fc, .int .i64 m] 25 (0, 0)) := by rw [hW1, hp]; exact heap_alloc_new _ _
  have b1 : Below w.heap.size w W1 := by rw [hW1]; exact below_newR w _
  have HB1 : Hid _ := b1
  have HK : Hid _ := k0
  have HLE : Hid (cn = C.length ∧ fn = FS.length ∧ cn ≤ 10000000 ∧ fn ≤ 1000000) := ⟨hcn, hfn, hlen, hfl⟩
  have HIN : Hid (StsG w ca cc 5 (C.map riv) ∧ StsG w fa fc 5 (FS.map rfv)) := ⟨hC, hF⟩
  have HCD : Hid _ := hcd
  have HCK : Hid _ := checkR W1 (hTab.below b1 hTab.1) ca cn cc fa fn fc m C FS hcn hfn (hC.below b1 (Nat.le_refl _)) (hF.below b1 (Nat.le_refl _)) (by omega) hfl
  have x0 : W1.cell? ⟨p, 0, none⟩ = some (.slice ca cn cc) := cell_arr k0 rfl
  have x1 : W1.cell? ⟨p, 1, none⟩ = some (.slice fa fn fc) := cell_arr k0 rfl
  have x2 : W1.cell? ⟨p, 2, none⟩ = some (.int .i64 m) := cell_arr k0 rfl
  have l0 := (Array.getElem?_eq_some_iff.1 k0).1
  clear hcn hfn hC hF hlen hfl hcd hTab k0 b1
  go_enter Tryd.func11, Tryd.ntmps11
  go_upto_region 1 with fail
  rw [← hW1, ← hp]
  have HP : Hid (p = w.heap.size) := hp
  clear hW1 hp
  cases hform : formR C FS m with
  | false =>
    rw [hform, if_neg (by simp)] at HCK
    have HFO : Hid (formR C FS m = false) := hform
    clear hform
    go_wp2_with fail
    refine Calls.mono HCK.out ?_
    rintro e w2 ⟨rfl, b2⟩
    have HB2 : Hid (Below w.heap.size w w2) := HB1.out.trans (b2.mono HB1.out.size)
    clear b2 HCK
    go_wp2_with fail
    go_ret2
    exact ⟨fun _ => rfl, fun h => (by rw [HFO.out] at h; cases h), fun h => (by rw [HFO.out] at h; cases h), HB2.out⟩
  | true =>
    rw [hform, if_pos rfl] at HCK
    have HFO : Hid (formR C FS m = true) := hform
    have HCF : Hid _ := HCD.out.form hform
    clear hform
    go_wp2_with fail
    refine Calls.mono HCK.out ?_
    rintro e w2 ⟨rfl, b2⟩
    have HB2 : Hid (Below w.heap.size w w2) := HB1.out.trans (b2.mono HB1.out.size)
    have HK2 : Hid _ := (b2.block _ l0).trans HK.out
    clear b2 HCK x0 x1 x2 l0 HK
    have x0 : w2.cell? ⟨p, 0, none⟩ = some (.slice ca cn cc) := cell_arr HK2.out rfl
    have x1 : w2.cell? ⟨p, 1, none⟩ = some (.slice fa fn fc) := cell_arr HK2.out rfl
    have x2 : w2.cell? ⟨p, 2, none⟩ = some (.int .i64 m) := cell_arr HK2.out rfl
    have l0 := (Array.getElem?_eq_some_iff.1 HK2.out).1
    obtain ⟨N, hN⟩ : ∃ N, N = szC C FS := ⟨_, rfl⟩
    have HSZ : Hid _ := sizeOf_any w2 ca cn cc fa fn fc m C FS HLE.out.1 HLE.out.2.1 (HIN.out.1.below HB2.out (Nat.le_refl _)) (HIN.out.2.below HB2.out (Nat.le_refl _)) (by have := HLE.out; omega) (by have := HLE.out; omega) (fun f hf => (HCF.out.nm f hf).2) HCF.out.rg
    rw [← hN] at HSZ
    have HNN : Hid (N = szC C FS) := hN
    clear hN
    go_wp2_with fail
    refine Calls.mono HSZ.out ?_
    rintro e w3 ⟨rfl, b3⟩
    have HB3 : Hid (Below w.heap.size w w3) := HB2.out.trans (b3.mono HB2.out.size)
    have HK3 : Hid _ := (b3.block _ l0).trans HK2.out
    clear b3 HSZ x0 x1 x2 l0 HK2
    by_cases hbig : 268435456 < N
    · have t1 : decide ((N : Int) > 268435456) = true := decide_eq_true (by omega)
      have t2 : decide (268435456 < (N : Int)) = true := t1
      have HBG : Hid (268435456 < N) := hbig
      go_wp2_with fail
      go_ret2
      exact ⟨fun h => (by rw [HFO.out] at h; cases h), fun _ _ => rfl, fun _ h => (by have := HBG.out; rw [HNN.out] at this; omega), HB3.out⟩
    · have t1 : decide ((N : Int) > 268435456) = false := decide_eq_false (by omega)
      have t2 : decide (268435456 < (N : Int)) = false := t1
      have hmk := run_bytesC N (by omega) w3
      have HBG : Hid (N ≤ 268435456) := by show N ≤ _; omega
      go_upto_region 9 with fail
      obtain ⟨b, hb⟩ : ∃ b, b = w3.heap.size := ⟨_, rfl⟩
      obtain ⟨wW, hwW⟩ : ∃ W, W = (w3.alloc (.cells (u8s (List.replicate N 0)) 5)).alloc (.cells #[.slice (some ⟨b, 0, none⟩) N N, .int .i64 0] 50) := ⟨_, rfl⟩
      have eal : wW = al w3 [.cells (u8s (List.replicate N 0)) 5, .cells #[.slice (some ⟨b, 0, none⟩) N N, .int .i64 0] 50] := hwW
      have bW : Below w3.heap.size w3 wW := by rw [eal]; exact al_below _ w3
      have HWR : Hid (WrS wW wW (b + 1) b N []) := by
        refine ⟨?_, ?_, Nat.zero_le _, Only.refl _ _⟩
        · rw [eal, hb]; exact al_at _ w3 1 (by simp)
        · rw [eal, hb]; exact al_at _ w3 0 (by simp)
      have HBW : Hid (Below w.heap.size w wW) := HB3.out.trans (bW.mono HB3.out.size)
      have HBB : Hid (w.heap.size ≤ b) := by show _ ≤ _; rw [hb]; exact HB3.out.size
      have HKW : Hid _ := (bW.block _ (Array.getElem?_eq_some_iff.1 HK3.out).1).trans HK3.out
      rw [← hb, ← hwW]
      clear hb hwW eal bW hmk t1 t2 hbig
      have x0 : wW.cell? ⟨p, 0, none⟩ = some (.slice ca cn cc) := cell_arr HKW.out rfl
      have x1 : wW.cell? ⟨p, 1, none⟩ = some (.slice fa fn fc) := cell_arr HKW.out rfl
      have x2 : wW.cell? ⟨p, 2, none⟩ = some (.int .i64 m) := cell_arr HKW.out rfl
      have l0 := (Array.getElem?_eq_some_iff.1 HKW.out).1
      have HCC : Hid _ := wCode_any (w00 := w) HWR.out HBW.out ⟨by have := HBB.out; omega, HBB.out⟩ ca cn cc fa fn fc m C FS HLE.out.1 HLE.out.2.1 HIN.out.1 HIN.out.2 (by have := HLE.out; omega) (by have := HLE.out; omega) HCF.out HNN.out (by have := HBG.out; omega)
      go_wp2_with fail
      refine Calls.mono HCC.out ?_
      rintro e w4 ⟨rfl, hS⟩
      have HS4 : Hid _ := hS
      have HFIN : Hid (Below w.heap.size w w4) := HBW.out.trans (hS.only.below HBW.out.size fun q hq => by have := HBB.out; rcases hq with rfl | rfl <;> omega)
      clear hS HCC x0 x1 x2 l0
      go_wp2_with fail
      go_ret2
      refine ⟨fun h => (by rw [HFO.out] at h; cases h), fun _ h => (by have := HBG.out; rw [HNN.out] at this; omega), fun _ _ => ⟨b, by rw [← HNN.out]; rfl, ?_, HBB.out⟩, HFIN.out⟩
      have := HS4.out.by_
      rw [wrC_len, HNN.out, Nat.sub_self, List.replicate_zero, List.append_nil] at this
      exact this
end Go.Proofs.YtjiaedckecfjbaaDoor
