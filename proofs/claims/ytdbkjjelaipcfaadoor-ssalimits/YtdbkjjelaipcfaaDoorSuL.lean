import Derived.Test.YtdbkjjelaipcfaaDoorSuI
import Derived.Test.YtdbkjjelaipcfaaDoorLsQ
set_option linter.unusedVariables false
set_option linter.unusedSimpArgs false
namespace Go.Proofs.YtdbkjjelaipcfaaDoor
open Go.ChangeShapes Go.WideShapes Go.ChangeAt Go.RowKit Go.Maps

theorem made_pairs (n : Nat) : madeCells #[.int .i64 0, .int .i64 0] (n * 2) = (pvs (List.replicate n (0, 0))).toArray := by
  have hl : (pvs (List.replicate n (0, 0))).length = n * 2 := by rw [pvs_len]; simp
  have hz : ∀ i, i % 2 = 0 ∨ i % 2 = 1 := fun i => by omega
  apply Array.ext
  · rw [size_madeCells]; simp [hl]
  · intro i h1 h2
    rw [size_madeCells] at h1
    have e1 : (madeCells #[.int .i64 0, .int .i64 0] (n * 2))[i] = .int .i64 0 := by
      simp only [madeCells, Array.getElem_map, Array.getElem_range]
      rcases hz i with e | e
      · show #[Value.int .i64 0, Value.int .i64 0][i % 2]! = _; rw [e]; rfl
      · show #[Value.int .i64 0, Value.int .i64 0][i % 2]! = _; rw [e]; rfl
    rw [e1]
    have hp := pvs_at (List.replicate n ((0 : Int), (0 : Int))) (i / 2) (by simp; omega)
    simp only [List.getElem_replicate] at hp
    have h3 : i < (pvs (List.replicate n (0, 0))).length := by rw [hl]; exact h1
    have : (pvs (List.replicate n ((0 : Int), (0 : Int))))[i]? = some (.int .i64 0) := by
      rcases hz i with e | e
      · have : i = i / 2 * 2 := by omega
        rw [this]; exact hp.1
      · have : i = i / 2 * 2 + 1 := by omega
        rw [this]; exact hp.2
    rw [List.getElem?_eq_getElem h3] at this
    have := Option.some.inj this
    simp only [List.getElem_toArray]
    exact this.symm
theorem info_pl : (Tryd.prog.info? 78).map (fun i => (i.zero, i.size, i.bytes)) = some (some (.agg #[.int .i64 0, .int .i64 0]), 2, 16) := by kernel_rfl
theorem info_rg : (Tryd.prog.info? 100).map (fun i => (i.zero, i.size, i.bytes)) = some (some (.agg #[.int .i64 0, .int .i64 0]), 2, 16) := by kernel_rfl
theorem run_places (n : Nat) (h : n ≤ 100000000) (w : World) : (Instr.makeSlice 69 (.int .i64 (n : Int)) (.int .i64 (n : Int))).run Tryd.prog w = .ok (.slice (some ⟨w.heap.size, 0, none⟩) n n) (w.alloc (.cells (pvs (List.replicate n (0, 0))).toArray 78)) := by
  obtain ⟨i0, hi, hz0, hz1, hz2⟩ := info_parts info_pl
  have hr := run_make (P := Tryd.prog) w 69 78 i0 (.agg #[.int .i64 0, .int .i64 0]) Tryd.underlying69 hi hz0 .i64 .i64 n n (by omega) (by omega) (by rw [hz2]; omega) (by omega)
  simp only [Int.toNat_natCast, hz1] at hr
  rw [← made_pairs]
  exact hr
theorem run_regions (n : Nat) (h : n ≤ 100000000) (w : World) : (Instr.makeSlice 71 (.int .i64 (n : Int)) (.int .i64 (n : Int))).run Tryd.prog w = .ok (.slice (some ⟨w.heap.size, 0, none⟩) n n) (w.alloc (.cells (pvs (List.replicate n (0, 0))).toArray 100)) := by
  obtain ⟨i0, hi, hz0, hz1, hz2⟩ := info_parts info_rg
  have hr := run_make (P := Tryd.prog) w 71 100 i0 (.agg #[.int .i64 0, .int .i64 0]) Tryd.underlying71 hi hz0 .i64 .i64 n n (by omega) (by omega) (by rw [hz2]; omega) (by omega)
  simp only [Int.toNat_natCast, hz1] at hr
  rw [← made_pairs]
  exact hr
/-- Where values stand. -/
def plL (v : Int × Int) (L : List Int) (P : List (Int × Int)) : List (Int × Int) := L.foldl (fun P x => P.set x.toNat v) P
def plB (b : Int) (L : List Int) : Nat → List (Int × Int) → List (Int × Int)
  | 0, P => P
  | k + 1, P => (plB b L k P).set (gn L k).toNat (b, (k : Int))
def plS (k : Nat) (b : Bk) (P : List (Int × Int)) : List (Int × Int) := plB k b.body b.body.length (plL ((k : Int), -1) b.phis P)
def plK (f : Fu) : Nat → List (Int × Int)
  | 0 => plL (-1, 0) f.params (List.replicate f.vals.length (0, 0))
  | k + 1 => plS k (f.blks.getD k noB) (plK f k)
def placesP (f : Fu) : List (Int × Int) := plK f f.blks.length
theorem plL_take (v : Int × Int) (L : List Int) (P : List (Int × Int)) {j : Nat} (hj : j < L.length) : plL v (L.take (j + 1)) P = (plL v (L.take j) P).set L[j].toNat v := by
  rw [← List.take_append_getElem hj, plL, List.foldl_append]
  rfl
structure PW (w wr : World) (A : Array Value) (B n : Nat) (L : List (Int × Int)) : Prop where
  fo : wr.heap[B]? = some (.cells A 47 (0, 0))
  pl : Pl wr (B + 1) n 78 L
  low : Below B w wr
theorem PW.put {w wr : World} {A B n L} (h : PW w wr A B n L) {i : Nat} (hi : i < n) (a b : Int) : PW w ((wr.setCell ⟨B + 1, i * 2, none⟩ (.int .i64 a)).setCell ⟨B + 1, i * 2 + 1, none⟩ (.int .i64 b)) A B n (L.set i (a, b)) :=
  ⟨(heap_set_other (by omega)).trans ((heap_set_other (by omega)).trans h.fo), h.pl.put hi a b, (h.low.setCell (by show B ≤ B + 1; omega) _).setCell (by show B ≤ B + 1; omega) _⟩
theorem PW.alloc {w wr : World} {A B n L} (h : PW w wr A B n L) (X : Obj) : PW w (wr.alloc X) A B n L :=
  ⟨by rw [heap_alloc_old _ _ (Array.getElem?_eq_some_iff.1 h.fo).1]; exact h.fo, h.pl.keep (below_new _ _), h.low.alloc (by have := (Array.getElem?_eq_some_iff.1 h.fo).1; omega) _⟩
theorem formP_params {f : Fu} {FS : List Fu} (h : formP FS f = true) : (∀ x ∈ f.params, wi f.vals.length x = true) ∧ f.vals.length < 262144 ∧ f.params.length ≤ 8 := by
  simp only [formP, Bool.and_eq_true, decide_eq_true_eq] at h
  refine ⟨fun x hx => ?_, h.2.1, h.1⟩
  have := (evr_iff (paramP f) f.params 0).1 h.2.2.2.2.1
  obtain ⟨i, hi, rfl⟩ := List.mem_iff_getElem.1 hx
  have := this i hi
  simp only [paramP, Bool.and_eq_true] at this
  exact this.1
set_option maxRecDepth 100000 in
set_option maxHeartbeats 4000000 in
theorem places_any (w : World) {s : ByteArray} {pa : Option Addr} {pn pc : Nat} {r : Int} {va : Option Addr} {vn vc : Nat} {ba : Option Addr} {bn bc : Nat} {fa : Option Addr} {fn fc : Nat} {f : Fu} {FS : List Fu} (C : Ctx w s pa pn pc r va vn vc ba bn bc fa fn fc f FS) (hform : formP FS f = true) (hbn : bn ≤ 1000000) :
    Calls Tryd.prog 46 #[.agg #[.string s, .slice pa pn pc, .int .i64 r, .slice va vn vc, .slice ba bn bc, .slice fa fn fc]] w fun e w' => ∃ g, e = .returned (.slice (some ⟨g, 0, none⟩) vn vn) ∧ Pl w' g vn 78 (placesP f) ∧ Below w.heap.size w w' := by
  obtain ⟨hpr, hvl, hpl⟩ := formP_params hform
  have hvn : vn ≤ 300000 := by have := C.ev; omega
  have hmk := run_places vn (by omega)
  obtain ⟨B1, hB1⟩ : ∃ B1, B1 = w.heap.size := ⟨_, rfl⟩
  obtain ⟨w2, hw2⟩ : ∃ w2, w2 = (w.alloc (.cells #[.string s, .slice pa pn pc, .int .i64 r, .slice va vn vc, .slice ba bn bc, .slice fa fn fc] 47)).alloc (.cells (pvs (List.replicate vn (0, 0))).toArray 78) := ⟨_, rfl⟩
  have b2 : Af1 w (.cells #[.string s, .slice pa pn pc, .int .i64 r, .slice va vn vc, .slice ba bn bc, .slice fa fn fc] 47) w2 := by rw [hw2]; exact (Af1.refl w _).next (below_new _ _)
  have p2 : Pl w2 (B1 + 1) vn 78 (List.replicate vn (0, 0)) := by
    refine ⟨?_, by simp⟩
    have := heap_alloc_new (w.alloc (.cells #[.string s, .slice pa pn pc, .int .i64 r, .slice va vn vc, .slice ba bn bc, .slice fa fn fc] 47)) (.cells (pvs (List.replicate vn (0, 0))).toArray 78)
    rw [hw2, hB1]
    simpa using this
  have HW0 : Hid (PW w w2 #[.string s, .slice pa pn pc, .int .i64 r, .slice va vn vc, .slice ba bn bc, .slice fa fn fc] B1 vn (List.replicate vn (0, 0))) := ⟨by rw [hB1]; exact b2.one, p2, by rw [hB1]; exact b2.low⟩
  obtain ⟨fc0, fc1, fc2, fc3, fc4, fc5⟩ := fcells b2.one
  have HB1 : Hid (B1 = w.heap.size) := hB1
  have HC : Hid _ := C
  have HPR : Hid (∀ x ∈ f.params, wi f.vals.length x = true) := hpr
  have HWI : Hid (∀ b ∈ f.blks, blockP f b = true) := (formP_blocks hform).2
  have hpn : pn ≤ 8 := by have := C.ep; omega
  clear C hform hpr hvl hpl b2 p2
  go_enter Tryd.func46, Tryd.ntmps46
  go_wp2_with fail
  rw [← hw2]
  go_wp2_with fail
  clear hw2 hmk fc0 fc1 fc2 fc3 fc4 fc5
  rw [← hB1]
  clear hB1
  go_loopw [21] (fun v wr => ∃ k : Nat, k ≤ pn ∧ v = .int .i64 k ∧ Hid (PW w wr #[.string s, .slice pa pn pc, .int .i64 r, .slice va vn vc, .slice ba bn bc, .slice fa fn fc] B1 vn (plL (-1, 0) (f.params.take k) (List.replicate vn (0, 0))))) (fun v _ => pn - (intOf v).toNat)
  case atStart => exact ⟨0, by omega, rfl, HW0.out⟩
  case round =>
    clear HW0
    obtain ⟨k, hk, rfl, HW⟩ := hrel
    by_cases hlt : k < pn
    · have hk2 : k < f.params.length := by have := HC.out.ep; omega
      obtain ⟨b1, o1, rfl, kx⟩ := (HC.out.hp.below HW.out.low (by have := HB1.out; omega)).at hk2
      have hx := HPR.out f.params[k] (List.getElem_mem hk2)
      simp only [wi, decide_eq_true_eq] at hx
      obtain ⟨p, hp⟩ : ∃ p : Nat, f.params[k] = p := ⟨f.params[k].toNat, by omega⟩
      have hpv : p < vn := by have := HC.out.ev; omega
      have HNEXT : Hid (∀ P, plL (-1, 0) (f.params.take (k + 1)) P = (plL (-1, 0) (f.params.take k) P).set p (-1, 0)) := fun P => by rw [plL_take _ _ _ hk2, hp, Int.toNat_natCast]
      rw [hp] at kx
      obtain ⟨⟨z1, q1⟩, ⟨z2, q2⟩, q3, q4, q5⟩ := HW.out.pl.cell hpv
      have HP2 : Hid _ := HW.out.put hpv (-1) 0
      clear hx hp HW
      go_wp2_with fail
      go_roundw
      case rel => exact ⟨k + 1, by omega, by go_num, by rw [HNEXT.out]; exact HP2.out⟩
      case measure => simp [intOf]; omega
    · have hkn : k = pn := by omega
      subst hkn
      have hW := HW.out
      have e0 : plL (-1, 0) (f.params.take k) (List.replicate vn (0, 0)) = plK f 0 := by
        rw [List.take_of_length_le (by have := HC.out.ep; omega), HC.out.ev]; rfl
      rw [e0] at hW
      obtain ⟨fc0, fc1, fc2, fc3, fc4, fc5⟩ := fcells hW.fo
      have HW' : Hid _ := hW
      clear HW hW e0
      go_wp2_with fail
      clear fc0 fc1 fc2 fc3 fc4 fc5
      go_loopw [34] (fun v wr => ∃ j : Nat, j ≤ bn ∧ v = .int .i64 j ∧ Hid (PW w wr #[.string s, .slice pa k pc, .int .i64 r, .slice va vn vc, .slice ba bn bc, .slice fa fn fc] B1 vn (plK f j))) (fun v _ => bn - (intOf v).toNat)
      case atStart => exact ⟨0, by omega, rfl, HW'.out⟩
      case round =>
        clear HW'
        obtain ⟨j, hj, rfl, HW⟩ := hrel
        by_cases hjl : j < bn
        · have hj2 : j < f.blks.length := by have := HC.out.eb; omega
          obtain ⟨b, o, ka, kc, la, lc, ma, mc, na, nc, rfl, hlb, c0, c1, c2, c3, c4, c5, i1, i2, i3, i4⟩ := (HC.out.hb.below HW.out.low (by have := HB1.out; omega)).at hj2
          obtain ⟨b', o', ka', kc', la', lc', ma', mc', na', nc', eba, hlb', d0, d1, d2, d3, d4, d5, j1, j2, j3, j4⟩ := HC.out.hb.at hj2
          cases eba
          have e0 := (HW.out.low.cell (p := ⟨b, o + j * 6, none⟩) (by show b < B1; have := HB1.out; omega)).trans d0
          rw [c0] at e0
          cases e0
          have e1 := (HW.out.low.cell (p := ⟨b, o + j * 6 + 1, none⟩) (by show b < B1; have := HB1.out; omega)).trans d1
          rw [c1] at e1
          cases e1
          have HI1 : Hid (Ints w ka kc f.blks[j].phis) := j1
          have HI2 : Hid (Ints w la lc f.blks[j].body) := j2
          have hbp := blockP_ph (HWI.out _ (List.getElem_mem hj2))
          rw [← HC.out.ev] at hbp
          have HNEXT : Hid (plK f (j + 1) = plS j f.blks[j] (plK f j)) := by show _ = _; simp [plK, hj2]
          unfold plS at HNEXT
          obtain ⟨A, hA⟩ : ∃ A, A = f.blks[j].phis := ⟨_, rfl⟩
          obtain ⟨Bo, hBo⟩ : ∃ Bo, Bo = f.blks[j].body := ⟨_, rfl⟩
          rw [← hA] at HI1 hbp c0 HNEXT
          rw [← hBo] at HI2 hbp c1 HNEXT
          have X1 : Hid (∀ x ∈ A, wi vn x = true) := hbp.1
          have X2 : Hid (∀ x ∈ Bo, wi vn x = true) := hbp.2
          obtain ⟨kl, hkl⟩ : ∃ kl, kl = A.length := ⟨_, rfl⟩
          obtain ⟨ll, hll⟩ : ∃ ll, ll = Bo.length := ⟨_, rfl⟩
          rw [← hkl] at c0
          rw [← hll] at c1
          have HKL : Hid (kl = A.length) := hkl
          have HLL : Hid (ll = Bo.length) := hll
          generalize f.blks[j].kind = kd at c2
          generalize f.blks[j].val = vl at c3
          generalize f.blks[j].ways.length = ml at c4
          generalize f.blks[j].preds.length = nl at c5
          have hkx : kl ≤ kc ∧ kc ≤ 9223372036854775807 := by have := j1.le; have := j1.mx; rw [← hA] at *; omega
          have hlx : ll ≤ lc ∧ lc ≤ 9223372036854775807 := by have := j2.le; have := j2.mx; rw [← hBo] at *; omega
          clear d0 d1 d2 d3 d4 d5 j1 j2 j3 j4 i1 i2 i3 i4 hA hBo hbp hkl hll hlb'
          obtain ⟨w5, hw5⟩ : ∃ w5, w5 = wr.alloc (.cells #[.slice ka kl kc, .slice la ll lc, .int .i64 kd, .int .i64 vl, .slice ma ml mc, .slice na nl nc] 33) := ⟨_, rfl⟩
          have HW5 : Hid (PW w w5 #[.string s, .slice pa k pc, .int .i64 r, .slice va vn vc, .slice (some ⟨b, o, none⟩) bn bc, .slice fa fn fc] B1 vn (plK f j)) := by rw [hw5]; exact HW.out.alloc _
          obtain ⟨kb, hkb⟩ : ∃ kb, kb = wr.heap.size := ⟨_, rfl⟩
          have hk5 : w5.heap[kb]? = some (.cells #[.slice ka kl kc, .slice la ll lc, .int .i64 kd, .int .i64 vl, .slice ma ml mc, .slice na nl nc] 33 (0, 0)) := by rw [hw5, hkb]; exact heap_alloc_new _ _
          have hkB : B1 + 1 < kb := by rw [hkb]; exact (Array.getElem?_eq_some_iff.1 HW.out.pl.row).1
          obtain ⟨v0, v1, v2, v3, v4, v5⟩ := bcells hk5
          have HK5 : Hid _ := hk5
          clear hk5
          go_wp2_with fail
          rw [← hw5]
          rw [← hkb]
          clear hw5 hkb c0 c1 c2 c3 c4 c5 HW
          go_wp2_with fail
          clear v0 v1 v2 v3 v4 v5
          go_loopw [42] (fun v wr => ∃ i : Nat, i ≤ kl ∧ v = .int .i64 i ∧ Hid (PW w wr #[.string s, .slice pa k pc, .int .i64 r, .slice va vn vc, .slice (some ⟨b, o, none⟩) bn bc, .slice fa fn fc] B1 vn (plL ((j : Int), -1) (A.take i) (plK f j))) ∧ Hid (wr.heap[kb]? = some (.cells #[.slice ka kl kc, .slice la ll lc, .int .i64 kd, .int .i64 vl, .slice ma ml mc, .slice na nl nc] 33 (0, 0)))) (fun v _ => kl - (intOf v).toNat)
          case atStart => exact ⟨0, by omega, rfl, HW5.out, HK5.out⟩
          case round =>
            clear HW5 HK5
            obtain ⟨i, hi, rfl, HW, HK⟩ := hrel
            by_cases hil : i < kl
            · have hi2 : i < A.length := by have := HKL.out; omega
              obtain ⟨b1, o1, rfl, kx⟩ := (HI1.out.below HW.out.low (by have := HB1.out; omega)).at hi2
              have hx := X1.out A[i] (List.getElem_mem hi2)
              simp only [wi, decide_eq_true_eq] at hx
              obtain ⟨p, hp⟩ : ∃ p : Nat, A[i] = p := ⟨A[i].toNat, by omega⟩
              have hpv : p < vn := by omega
              have HNX : Hid (∀ P, plL ((j : Int), -1) (A.take (i + 1)) P = (plL ((j : Int), -1) (A.take i) P).set p ((j : Int), -1)) := fun P => by rw [plL_take _ _ _ hi2, hp, Int.toNat_natCast]
              rw [hp] at kx
              obtain ⟨⟨z1, q1⟩, ⟨z2, q2⟩, q3, q4, q5⟩ := HW.out.pl.cell hpv
              have HP2 : Hid _ := HW.out.put hpv (j : Int) (-1)
              have HK2 : Hid (((wr.setCell ⟨B1 + 1, p * 2, none⟩ (.int .i64 (j : Int))).setCell ⟨B1 + 1, p * 2 + 1, none⟩ (.int .i64 (-1))).heap[kb]? = _) := (heap_set_other (by omega)).trans ((heap_set_other (by omega)).trans HK.out)
              clear hx hp HW HK
              go_wp2_with fail
              go_roundw
              case rel => exact ⟨i + 1, by omega, by go_num, by rw [HNX.out]; exact HP2.out, HK2.out⟩
              case measure => simp [intOf]; omega
            · have hin : i = kl := by omega
              subst hin
              have hW := HW.out
              rw [List.take_of_length_le (by have := HKL.out; omega)] at hW
              have HW6 : Hid _ := hW
              obtain ⟨v0, v1, v2, v3, v4, v5⟩ := bcells HK.out
              clear hW HW
              go_wp2_with fail
              clear v0 v1 v2 v3 v4 v5
              go_loopw [55] (fun v wr => ∃ i : Nat, i ≤ ll ∧ v = .int .i64 i ∧ Hid (PW w wr #[.string s, .slice pa k pc, .int .i64 r, .slice va vn vc, .slice (some ⟨b, o, none⟩) bn bc, .slice fa fn fc] B1 vn (plB (j : Int) Bo i (plL ((j : Int), -1) A (plK f j))))) (fun v _ => ll - (intOf v).toNat)
              case atStart => exact ⟨0, by omega, rfl, HW6.out⟩
              case round =>
                clear HW6 HK
                obtain ⟨q, hq, rfl, HW⟩ := hrel
                by_cases hql : q < ll
                · have hq2 : q < Bo.length := by have := HLL.out; omega
                  obtain ⟨b1, o1, rfl, kx⟩ := (HI2.out.below HW.out.low (by have := HB1.out; omega)).at hq2
                  have hx := X2.out Bo[q] (List.getElem_mem hq2)
                  simp only [wi, decide_eq_true_eq] at hx
                  obtain ⟨p, hp⟩ : ∃ p : Nat, Bo[q] = p := ⟨Bo[q].toNat, by omega⟩
                  have hpv : p < vn := by omega
                  have HNX : Hid (∀ P, plB (j : Int) Bo (q + 1) P = (plB (j : Int) Bo q P).set p ((j : Int), (q : Int))) := fun P => by simp only [plB]; rw [gn_at hq2, hp, Int.toNat_natCast]
                  rw [hp] at kx
                  obtain ⟨⟨z1, q1⟩, ⟨z2, q2⟩, q3, q4, q5⟩ := HW.out.pl.cell hpv
                  have HP2 : Hid _ := HW.out.put hpv (j : Int) (q : Int)
                  clear hx hp HW
                  go_wp2_with fail
                  go_roundw
                  case rel => exact ⟨q + 1, by omega, by go_num, by rw [HNX.out]; exact HP2.out⟩
                  case measure => simp [intOf]; omega
                · have hqn : q = ll := by omega
                  subst hqn
                  have hW := HW.out
                  rw [HLL.out, ← HNEXT.out] at hW
                  have HW9 : Hid _ := hW
                  clear hW HW
                  go_wp2_with fail
                  go_roundw
                  case rel => exact ⟨j + 1, by omega, by go_num, HW9.out⟩
                  case measure => simp [intOf]; omega
        · have hjn : j = bn := by omega
          subst hjn
          have hW := HW.out
          rw [HC.out.eb] at hW
          have HR : Hid (Pl wr (B1 + 1) vn 78 (placesP f)) := hW.pl
          have HL : Hid (Below w.heap.size w wr) := by have := hW.low; rw [HB1.out] at this; exact this
          clear hW HW
          go_wp2_with fail
          go_ret
          exact ⟨_, rfl, HR.out, HL.out⟩
end Go.Proofs.YtdbkjjelaipcfaaDoor
