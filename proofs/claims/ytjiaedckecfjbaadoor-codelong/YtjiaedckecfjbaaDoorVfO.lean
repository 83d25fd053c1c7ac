import Derived.Test.YtjiaedckecfjbaaDoorCyI
set_option linter.unusedVariables false
set_option linter.unusedSimpArgs false
namespace Go.Proofs.YtjiaedckecfjbaaDoor
open Go.ChangeShapes Go.WideShapes Go.ChangeAt Go.RowKit Go.Maps Go.WideMaps

theorem Met.moved {w w' : World} {mb k M rb} {u : Value} (h : Met w mb k M) (hne : mb ≠ rb) (hb : Below w.heap.size (w.setCell ⟨rb, 1, none⟩ u) w') : Met w' mb k M := by
  obtain ⟨D, d1, d2⟩ := h.out
  refine ⟨D, own_map_moveN d1 ((hb.block _ d1.lt).trans (heap_set_other hne)), d2⟩
theorem Rd.grown {w0 W W' rb ao n cap B next mb} (h : Rd w0 W rb ao n cap B next) (g : W.grownBy W' (some mb)) (hmb : w0.heap.size ≤ mb) (hne : mb ≠ rb) : Rd w0 W' rb ao n cap B next :=
  ⟨(g.block rb (Array.getElem?_eq_some_iff.1 h.box).1 (fun e => by injection e with e; exact hne e.symm)).trans h.box, h.by_, h.low.grown g h.low.size (fun j hj => by cases hj; exact hmb), h.ge, h.cap, h.le⟩
theorem only_moved {w w' : World} {rb : Nat} (mb : Nat) {u : Value} (b : Below w.heap.size (w.setCell ⟨rb, 1, none⟩ u) w') : Only (fun q => q = rb ∨ q = mb) w w' := by
  have sz : (w.setCell ⟨rb, 1, none⟩ u).heap.size = w.heap.size := by simp [World.setCell]
  have b2 : Below (w.setCell ⟨rb, 1, none⟩ u).heap.size (w.setCell ⟨rb, 1, none⟩ u) w' := by rw [sz]; exact b
  exact ((Only.of_set w ⟨rb, 1, none⟩ u).mono fun i _ e => .inl e).trans (Only.of_below b2 (fun q => q = rb ∨ q = mb)) fun _ _ h => h
theorem Only.on {F : Nat → Prop} {a b c : World} (h : Only F a b) (k : Only F b c) : Only F a c := h.trans k fun _ _ e => e
/-- A name is read: it, or the place of the fault. -/
def rdNm (B : List Int) (M : List (List UInt8)) (next : Nat) : Except Nat (List UInt8) :=
  match rdN B 1 1 64 next with
  | .error p => .error p
  | .ok k => if B.length < next + 1 + k.toNat then .error B.length else if nmOk (fldT B (next + 1) k.toNat) = true ∧ ¬ fldT B (next + 1) k.toNat ∈ M then .ok (fldT B (next + 1) k.toNat) else .error (next + 1)
/-- What name answers. -/
structure NamP (w0 w w' : World) (rb : Nat) (ao : Option Addr) (n cap : Nat) (B : List Int) (mb c : Nat) (M : List (List UInt8)) (next : Nat) (e : Ending) : Prop where
  ok : ∀ s, rdNm B M next = .ok s → e = .returned (.string (bs s)) ∧ Rd w0 w' rb ao n cap B (next + 1 + s.length) ∧ Met w' mb (c + 1) (M ++ [s])
  bad : ∀ p, rdNm B M next = .error p → e = thrC (p : Int)
  low : Below w0.heap.size w0 w'
  only : ∀ s, rdNm B M next = .ok s → Only (fun q => q = rb ∨ q = mb) w w'
theorem NamP.thr {w0 w w' rb ao n cap B mb c M next p} (h : rdNm B M next = .error p) (b : Below w0.heap.size w0 w') : NamP w0 w w' rb ao n cap B mb c M next (thrC (p : Int)) :=
  ⟨fun v hv => (by rw [h] at hv; cases hv), fun q hq => (by rw [h] at hq; cases hq; rfl), b, fun v hv => (by rw [h] at hv; cases hv)⟩
theorem rdN_range {B k least most next v} (h : rdN B k least most next = .ok v) : least ≤ v ∧ v ≤ most := by
  unfold rdN at h
  split at h
  · cases h
  · split at h
    · next q => cases h; exact q
    · cases h
set_option maxRecDepth 100000 in
set_option maxHeartbeats 4000000 in
theorem rName_any {w0 w : World} {rb : Nat} {ao : Option Addr} {n cap next mb c : Nat} {B : List Int} {M : List (List UInt8)} (h : Rd w0 w rb ao n cap B next) (hm : Met w mb c M) (hmb : w0.heap.size ≤ mb) (hne : mb ≠ rb) (hT : Tab w0) (hc : c < 10000000000000) :
    Calls Tryd.prog 52 #[.pointer (some ⟨rb, 0, none⟩), .map (some mb)] w fun e w' => NamP w0 w w' rb ao n cap B mb c M next e := by
  have HC : Hid (Calls Tryd.prog 29 #[.pointer (some ⟨rb, 0, none⟩), .int .i64 1, .int .i64 1, .int .i64 64] w fun e w' => NumP w0 w w' rb ao n cap B 1 1 64 next e) := rNumber_any h 1 (by omega) 1 64
  have HM : Hid (Met w mb c M ∧ w0.heap.size ≤ mb ∧ mb ≠ rb ∧ Tab w0 ∧ c < 10000000000000) := ⟨hm, hmb, hne, hT, hc⟩
  clear h hm hmb hne hT hc
  cases hr : rdN B 1 1 64 next with
  | error p =>
    have HE : Hid (rdNm B M next = .error p) := by show _ = _; unfold rdNm; rw [hr]
    have HR : Hid _ := hr
    clear hr
    go_enter Tryd.func52, Tryd.ntmps52
    go_wp2_with fail
    refine Calls.mono HC.out ?_
    intro e w1 q
    have HB : Hid _ := q.low
    have hq := q.bad p HR.out
    subst hq
    clear q HC
    unfold thrC
    go_wp2_with fail
    exact ⟨rfl, NamP.thr HE.out HB.out⟩
  | ok kz =>
    obtain ⟨k, rfl⟩ : ∃ k : Nat, kz = (k : Int) := ⟨kz.toNat, by have := (rdN_range hr).1; omega⟩
    have HK : Hid (1 ≤ k ∧ k ≤ 64) := by have := rdN_range hr; exact ⟨by omega, by omega⟩
    have HE : Hid (rdNm B M next = if B.length < next + 1 + k then .error B.length else if nmOk (fldT B (next + 1) k) = true ∧ ¬ fldT B (next + 1) k ∈ M then .ok (fldT B (next + 1) k) else .error (next + 1)) := by
      show _ = _; unfold rdNm; rw [hr]; rfl
    have HR : Hid _ := hr
    clear hr
    go_enter Tryd.func52, Tryd.ntmps52
    go_wp2_with fail
    refine Calls.mono HC.out ?_
    intro e w1 q
    have hq := q.ok _ HR.out
    have HB : Hid _ := hq.2
    have HM1 : Hid (Met w1 mb c M) := HM.out.1.moved HM.out.2.2.1 (q.far _ HR.out)
    have HO1 : Hid (Only (fun q => q = rb ∨ q = mb) w w1) := only_moved mb (q.far _ HR.out)
    have hq := hq.1
    subst hq
    clear q HC
    have x1 : w1.cell? ⟨rb, 1, none⟩ = some (.int .i64 ((next + 1 : Nat) : Int)) := cell_arr HB.out.box rfl
    have lr := (Array.getElem?_eq_some_iff.1 HB.out.box).1
    obtain ⟨at1, hat1⟩ : ∃ at1, at1 = next + 1 := ⟨_, rfl⟩
    rw [← hat1] at x1
    have HB : Hid (Rd w0 w1 rb ao n cap B at1) := by rw [hat1]; exact HB.out
    have HE : Hid (rdNm B M next = if B.length < at1 + k then .error B.length else if nmOk (fldT B at1 k) = true ∧ ¬ fldT B at1 k ∈ M then .ok (fldT B at1 k) else .error at1) := by rw [hat1]; exact HE.out
    have HAT : Hid (at1 = next + 1) := hat1
    clear hat1
    by_cases hs : n < at1 + k
    · have HC : Hid _ := field_no w1 HB.out.box HB.out.cap HB.out.le hs (by have := HK.out; omega)
      have HE2 : Hid (rdNm B M next = .error n) := by show _ = _; rw [HE.out, ← HB.out.by_.len, if_pos hs]
      clear hs
      go_wp2_with fail
      refine Calls.mono HC.out ?_
      rintro e w2 ⟨rfl, b1⟩
      have HB2 : Hid (Below w0.heap.size w0 w2) := HB.out.low.trans (b1.mono HB.out.low.size)
      clear b1 HC
      unfold thrC
      go_wp2_with fail
      exact ⟨rfl, NamP.thr HE2.out HB2.out⟩
    · have hs2 : at1 + k ≤ n := by omega
      obtain ⟨b, o, ha, -, -⟩ := HB.out.by_.out (by have := HK.out; omega)
      have HA : Hid (ao = some ⟨b, o, none⟩) := ha
      have HC : Hid _ := field_yes w1 HB.out.box HB.out.cap HB.out.le hs2 HK.out.1 b o ha
      have HS : Hid (at1 + k ≤ n) := hs2
      have HE : Hid (rdNm B M next = if nmOk (fldT B at1 k) = true ∧ ¬ fldT B at1 k ∈ M then .ok (fldT B at1 k) else .error at1) := by show _ = _; rw [HE.out, ← HB.out.by_.len, if_neg hs]
      clear hs hs2 ha
      go_wp2_with fail
      refine Calls.mono HC.out ?_
      rintro e w2 ⟨rfl, b1⟩
      have HB2 : Hid (Rd w0 w2 rb ao n cap B (at1 + k)) := HB.out.moved HS.out b1
      have HM2 : Hid (Met w2 mb c M) := HM1.out.moved HM.out.2.2.1 b1
      have HO2 : Hid (Only (fun q => q = rb ∨ q = mb) w w2) := HO1.out.on (only_moved mb b1)
      have hcv := HB.out.text HS.out HK.out.1 HA.out b1
      obtain ⟨T, hT⟩ : ∃ T, T = fldT B at1 k := ⟨_, rfl⟩
      obtain ⟨s, hs⟩ : ∃ s, s = bs T := ⟨_, rfl⟩
      rw [← hT, ← hs] at hcv
      rw [← hT] at HE
      have HTL : Hid (T.length = k) := by show _ = _; rw [hT]; unfold fldT; rw [List.length_map, fldB_len B (by rw [← HB.out.by_.len]; exact HS.out)]
      have HSS : Hid (s = bs T ∧ nml s = T ∧ s.size ≤ 64) := ⟨hs, by rw [hs]; simp [nml, bs], by rw [hs, bs_size, HTL.out]; exact HK.out.2⟩
      have HFT : Hid (Calls Tryd.prog 48 #[.string s] w2 fun e w' => e = .returned (.bool (nmOk T)) ∧ Below w2.heap.size w2 w') := by
        rw [hs]; exact fits_any w2 (HM.out.2.2.2.1.below HB2.out.low HM.out.2.2.2.1.1) T
      clear b1 HC hT hs
      go_wp2_with fail
      refine Calls.mono HFT.out ?_
      rintro e w3 ⟨rfl, b1⟩
      have HB3 : Hid (Rd w0 w3 rb ao n cap B (at1 + k)) := HB2.out.keep b1
      have HM3 : Hid (Met w3 mb c M) := HM2.out.keep b1
      have HO3 : Hid (Only (fun q => q = rb ∨ q = mb) w w3) := HO2.out.on (Only.of_below b1 _)
      clear b1 HFT hcv
      cases hok : nmOk T with
      | false =>
        have HE2 : Hid (rdNm B M next = .error at1) := by show _ = _; rw [HE.out, if_neg (fun z => by rw [hok] at z; cases z.1)]
        go_wp2_with fail
        refine (hold_no _ _).mono ?_
        rintro e w4 ⟨rfl, rfl⟩
        unfold thrC
        go_wp2_with fail
        exact ⟨rfl, NamP.thr HE2.out HB3.out.low⟩
      | true =>
        have hlk := HM3.out.look HSS.out.2.2
        rw [HSS.out.2.1] at hlk
        by_cases hin : T ∈ M
        · have HE2 : Hid (rdNm B M next = .error at1) := by show _ = _; rw [HE.out, if_neg (fun z => z.2 hin)]
          rw [if_pos hin] at hlk
          clear hin
          go_wp2_with fail
          refine (hold_no _ _).mono ?_
          rintro e w4 ⟨rfl, rfl⟩
          unfold thrC
          go_wp2_with fail
          exact ⟨rfl, NamP.thr HE2.out HB3.out.low⟩
        · have HE2 : Hid (rdNm B M next = .ok T) := by show _ = _; rw [HE.out, if_pos ⟨hok, hin⟩]
          rw [if_neg hin] at hlk
          clear hin
          obtain ⟨w5, hup, hm5, g5⟩ := HM3.out.put HSS.out.2.2 HM.out.2.2.2.2
          rw [HSS.out.2.1] at hm5
          have HM5 : Hid (Met w5 mb (c + 1) (M ++ [T])) := hm5
          have HB5 : Hid (Rd w0 w5 rb ao n cap B (at1 + k)) := HB3.out.grown g5 HM.out.2.1 HM.out.2.2.1
          have HO5 : Hid (Only (fun q => q = rb ∨ q = mb) w w5) := HO3.out.on ((Only.of_grown g5).mono fun i _ e => .inr (by injection e with e; exact e.symm))
          clear hm5 g5
          go_wp2_with fail
          refine (hold_yes _ _).mono ?_
          rintro e w4 ⟨rfl, rfl⟩
          go_wp2_with fail
          go_ret
          refine ⟨fun u hu => ?_, fun p hp => ?_, HB5.out.low, fun _ _ => HO5.out⟩
          · rw [HE2.out] at hu
            cases hu
            refine ⟨by rw [HSS.out.1]; rfl, ?_, HM5.out⟩
            rw [HTL.out, ← HAT.out]
            exact HB5.out
          · rw [HE2.out] at hp
            cases hp
end Go.Proofs.YtjiaedckecfjbaaDoor
