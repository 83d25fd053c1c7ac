import Derived.Test.YtjiaedckecfjbaaDoorVfJ
set_option linter.unusedVariables false
set_option linter.unusedSimpArgs false
namespace Go.Proofs.YtjiaedckecfjbaaDoor
open Go.ChangeShapes Go.WideShapes Go.ChangeAt Go.RowKit Go.Maps

/-- Bytes as they lie. -/
structure IBy (w : World) (ao : Option Addr) (n : Nat) (B : List Int) : Prop where
  len : n = B.length
  by_ : ∀ x ∈ B, 0 ≤ x ∧ x < 256
  out : 0 < n → ∃ b o, ao = some ⟨b, o, none⟩ ∧ b < w.heap.size ∧ ∀ i (hi : i < B.length), w.cell? ⟨b, o + i, none⟩ = some (.int .u8 B[i])
/-- A reader at a place of bytes that lie below w0. -/
structure Rd (w0 W : World) (rb : Nat) (ao : Option Addr) (n cap : Nat) (B : List Int) (next : Nat) : Prop where
  box : RdB W rb ao n cap next
  by_ : IBy w0 ao n B
  low : Below w0.heap.size w0 W
  ge : w0.heap.size ≤ rb
  cap : n ≤ cap ∧ cap ≤ 9223372036854775807 ∧ n ≤ 1000000000000000000
  le : next ≤ n
theorem Rd.keep {w0 W W' rb ao n cap B next} (h : Rd w0 W rb ao n cap B next) (b : Below W.heap.size W W') : Rd w0 W' rb ao n cap B next :=
  ⟨h.box.below b, h.by_, h.low.trans (b.mono h.low.size), h.ge, h.cap, h.le⟩
theorem Rd.moved {w0 W W' rb ao n cap B next k} (h : Rd w0 W rb ao n cap B next) (hk : next + k ≤ n) (b : Below W.heap.size (W.setCell ⟨rb, 1, none⟩ (.int .i64 ((next + k : Nat) : Int))) W') : Rd w0 W' rb ao n cap B (next + k) :=
  ⟨h.box.moved b, h.by_, (h.low.setCell h.ge _).trans (b.mono h.low.size), h.ge, h.cap, hk⟩
/-- The bytes of a field, its number. -/
def fldB (B : List Int) (next k : Nat) : List Int := (B.drop next).take k
def fldV (B : List Int) (next k : Nat) : Int := wrap64 (valN (fldB B next k) : Int)
/-- A number is read: it, or the place of the fault. -/
def rdN (B : List Int) (k : Nat) (least most : Int) (next : Nat) : Except Nat Int :=
  if B.length < next + k then .error B.length else if least ≤ fldV B next k ∧ fldV B next k ≤ most then .ok (fldV B next k) else .error next
theorem only_rb {w w' : World} {rb : Nat} {u : Value} (b : Below w.heap.size (w.setCell ⟨rb, 1, none⟩ u) w') : Only (fun q => q = rb) w w' := by
  have sz : (w.setCell ⟨rb, 1, none⟩ u).heap.size = w.heap.size := by simp [World.setCell]
  have b2 : Below (w.setCell ⟨rb, 1, none⟩ u).heap.size (w.setCell ⟨rb, 1, none⟩ u) w' := by rw [sz]; exact b
  exact (Only.of_set w ⟨rb, 1, none⟩ u).trans (Only.of_below b2 (fun q => q = rb)) fun _ _ h => h
/-- What number answers. -/
structure NumP (w0 w w' : World) (rb : Nat) (ao : Option Addr) (n cap : Nat) (B : List Int) (k : Nat) (least most : Int) (next : Nat) (e : Ending) : Prop where
  ok : ∀ v, rdN B k least most next = .ok v → e = .returned (.int .i64 v) ∧ Rd w0 w' rb ao n cap B (next + k)
  bad : ∀ p, rdN B k least most next = .error p → e = thrC (p : Int)
  low : Below w0.heap.size w0 w'
  far : ∀ v, rdN B k least most next = .ok v → Below w.heap.size (w.setCell ⟨rb, 1, none⟩ (.int .i64 ((next + k : Nat) : Int))) w'
  on : Only (fun q => q = rb) w w'
theorem fldB_len (B : List Int) {next k : Nat} (h : next + k ≤ B.length) : (fldB B next k).length = k := by
  unfold fldB
  simp
  omega
theorem fldB_in {B : List Int} (hB : ∀ x ∈ B, 0 ≤ x ∧ x < 256) (next k : Nat) : ∀ x ∈ fldB B next k, 0 ≤ x ∧ x < 256 := fun x hx => hB x (List.mem_of_mem_drop (List.mem_of_mem_take hx))
theorem Rd.cells {w0 W W' : World} {rb : Nat} {ao : Option Addr} {n cap next k b o : Nat} {B : List Int} {u : Value} (h : Rd w0 W rb ao n cap B next) (hk : next + k ≤ n) (h1 : 1 ≤ k) (ha : ao = some ⟨b, o, none⟩) (bb : Below W.heap.size (W.setCell ⟨rb, 1, none⟩ u) W') :
    b < W'.heap.size ∧ ∀ i (hi : i < (fldB B next k).length), W'.cell? ⟨b, (o + next) + i, none⟩ = some (.int .u8 (fldB B next k)[i]) := by
  obtain ⟨b', o', e, hlt, hc⟩ := h.by_.out (by omega)
  rw [ha] at e
  cases e
  have sz : (W.setCell ⟨rb, 1, none⟩ u).heap.size = W.heap.size := by simp [World.setCell]
  have l1 : b < W.heap.size := Nat.lt_of_lt_of_le hlt h.low.size
  have hne : b ≠ rb := by have := h.ge; omega
  have l2 := bb.size
  rw [sz] at l2
  refine ⟨Nat.lt_of_lt_of_le l1 l2, fun i hi => ?_⟩
  have hL : (fldB B next k).length = k := fldB_len B (by rw [← h.by_.len]; exact hk)
  have hi2 : next + i < B.length := by rw [← h.by_.len]; omega
  have c0 := hc (next + i) hi2
  rw [← Nat.add_assoc] at c0
  have c1 : W.cell? ⟨b, (o + next) + i, none⟩ = some (.int .u8 B[next + i]) := (h.low.cell hlt).trans c0
  have c2 : (W.setCell ⟨rb, 1, none⟩ u).cell? ⟨b, (o + next) + i, none⟩ = some (.int .u8 B[next + i]) := by
    rw [← c1]
    simp only [World.cell?, heap_set_other hne]
  have c3 := (bb.cell (p := ⟨b, (o + next) + i, none⟩) l1).trans c2
  rw [c3]
  simp [fldB]
set_option maxRecDepth 100000 in
set_option maxHeartbeats 4000000 in
theorem rNumber_any {w0 w : World} {rb : Nat} {ao : Option Addr} {n cap next : Nat} {B : List Int} (h : Rd w0 w rb ao n cap B next) (k : Nat) (hk : 1 ≤ k ∧ k ≤ 8) (least most : Int) :
    Calls Tryd.prog 29 #[.pointer (some ⟨rb, 0, none⟩), .int .i64 (k : Int), .int .i64 least, .int .i64 most] w fun e w' => NumP w0 w w' rb ao n cap B k least most next e := by
  have HR : Hid _ := h
  have HK : Hid (1 ≤ k ∧ k ≤ 8) := hk
  have x1 : w.cell? ⟨rb, 1, none⟩ = some (.int .i64 (next : Int)) := cell_arr h.box rfl
  have lr := (Array.getElem?_eq_some_iff.1 h.box).1
  by_cases hs : n < next + k
  · have HC : Hid _ := field_no w h.box h.cap h.le hs (by omega)
    have HE : Hid (rdN B k least most next = .error n) := by show _ = _; unfold rdN; rw [← h.by_.len, if_pos hs]
    clear h hk hs
    go_enter Tryd.func29, Tryd.ntmps29
    go_wp2_with fail
    refine Calls.mono HC.out ?_
    rintro e w1 ⟨rfl, b1⟩
    have HB : Hid (Below w0.heap.size w0 w1) := HR.out.low.trans (b1.mono HR.out.low.size)
    have HO : Hid (Only (fun q => q = rb) w w1) := Only.of_below b1 _
    clear b1 HC
    unfold thrC
    go_wp2_with fail
    exact ⟨rfl, ⟨fun v hv => (by rw [HE.out] at hv; cases hv), fun p hp => (by rw [HE.out] at hp; cases hp; rfl), HB.out, fun v hv => (by rw [HE.out] at hv; cases hv), HO.out⟩⟩
  · have hs2 : next + k ≤ n := by omega
    obtain ⟨b, o, ha, -, -⟩ := h.by_.out (by omega)
    have HA : Hid (ao = some ⟨b, o, none⟩) := ha
    have HC : Hid _ := field_yes w h.box h.cap h.le hs2 hk.1 b o ha
    have HS : Hid (next + k ≤ n) := hs2
    obtain ⟨v, hv⟩ : ∃ v, v = fldV B next k := ⟨_, rfl⟩
    have HV : Hid (v = fldV B next k) := hv
    have HE : Hid (rdN B k least most next = if least ≤ v ∧ v ≤ most then .ok v else .error next) := by show _ = _; unfold rdN; rw [← h.by_.len, if_neg hs, ← hv]
    clear h hk hs hs2 ha hv
    go_enter Tryd.func29, Tryd.ntmps29
    go_wp2_with fail
    refine Calls.mono HC.out ?_
    rintro e w1 ⟨rfl, b1⟩
    have HB : Hid (Rd w0 w1 rb ao n cap B (next + k)) := HR.out.moved HS.out b1
    have HF : Hid _ := b1
    have HO : Hid (Only (fun q => q = rb) w w1) := only_rb b1
    have HN : Hid (Calls Tryd.prog 42 #[.slice (some ⟨b, o + next, none⟩) k k] w1 fun e w' => e = .returned (.int .i64 v) ∧ w1 = w') := by
      obtain ⟨l1, hc⟩ := HR.out.cells HS.out HK.out.1 HA.out b1
      have q := numIn_any w1 (b := b) (o := o + next) (k := k) (fldB B next k) (fldB_len B (by rw [← HR.out.by_.len]; exact HS.out)).symm HK.out.2 (fldB_in HR.out.by_.by_ _ _) l1 hc
      rw [HV.out]
      exact q
    clear b1 HC
    go_wp2_with fail
    refine Calls.mono HN.out ?_
    rintro e w2 ⟨rfl, rfl⟩
    clear HN
    by_cases c1 : least ≤ v
    · have t1 : decide (least ≤ v) = true := decide_eq_true c1
      by_cases c2 : v ≤ most
      · have t2 : decide (v ≤ most) = true := decide_eq_true c2
        have HE2 : Hid (rdN B k least most next = .ok v) := by show _ = _; rw [HE.out, if_pos ⟨c1, c2⟩]
        go_wp2_with fail
        refine (hold_yes _ _).mono ?_
        rintro e w3 ⟨rfl, rfl⟩
        go_wp2_with fail
        go_ret
        exact ⟨fun u hu => (by rw [HE2.out] at hu; cases hu; exact ⟨rfl, HB.out⟩), fun p hp => (by rw [HE2.out] at hp; cases hp), HB.out.low, fun v hv => HF.out, HO.out⟩
      · have t2 : decide (v ≤ most) = false := decide_eq_false c2
        have HE2 : Hid (rdN B k least most next = .error next) := by show _ = _; rw [HE.out, if_neg (fun c => c2 c.2)]
        go_wp2_with fail
        refine (hold_no _ _).mono ?_
        rintro e w3 ⟨rfl, rfl⟩
        unfold thrC
        go_wp2_with fail
        exact ⟨rfl, ⟨fun u hu => (by rw [HE2.out] at hu; cases hu), fun p hp => (by rw [HE2.out] at hp; cases hp; rfl), HB.out.low, fun v hv => (by rw [HE2.out] at hv; cases hv), HO.out⟩⟩
    · have t1 : decide (least ≤ v) = false := decide_eq_false c1
      have HE2 : Hid (rdN B k least most next = .error next) := by show _ = _; rw [HE.out, if_neg (fun c => c1 c.1)]
      go_wp2_with fail
      refine (hold_no _ _).mono ?_
      rintro e w3 ⟨rfl, rfl⟩
      unfold thrC
      go_wp2_with fail
      exact ⟨rfl, ⟨fun u hu => (by rw [HE2.out] at hu; cases hu), fun p hp => (by rw [HE2.out] at hp; cases hp; rfl), HB.out.low, fun v hv => (by rw [HE2.out] at hv; cases hv), HO.out⟩⟩
end Go.Proofs.YtjiaedckecfjbaaDoor
