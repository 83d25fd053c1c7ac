import Derived.Test.YtjiaedckecfjbaaDoorVfL
set_option linter.unusedVariables false
set_option linter.unusedSimpArgs false
namespace Go.Proofs.YtjiaedckecfjbaaDoor
open Go.ChangeShapes Go.WideShapes Go.ChangeAt Go.RowKit Go.Maps

/-- Is it an operation here. -/
def opIs (last : Bool) (v : Int) : Bool := !decide (rcnt v = -1) && (!last || lastF v)
/-- An operation is read: it, or the place of the fault. -/
def rdOp (B : List Int) (last : Bool) (next : Nat) : Except Nat Int :=
  if B.length < next + 1 then .error B.length else if opIs last (fldV B next 1) = true then .ok (fldV B next 1) else .error next
/-- What a method of the reader answers that reads a value. -/
structure ValP (w0 w w' : World) (rb : Nat) (ao : Option Addr) (n cap : Nat) (B : List Int) (r : Except Nat Int) (next k : Nat) (e : Ending) : Prop where
  ok : ∀ v, r = .ok v → e = .returned (.int .i64 v) ∧ Rd w0 w' rb ao n cap B (next + k)
  bad : ∀ p, r = .error p → e = thrC (p : Int)
  low : Below w0.heap.size w0 w'
  far : ∀ v, r = .ok v → Below w.heap.size (w.setCell ⟨rb, 1, none⟩ (.int .i64 ((next + k : Nat) : Int))) w'
  on : Only (fun q => q = rb) w w'
set_option maxRecDepth 100000 in
set_option maxHeartbeats 4000000 in
theorem rOp_any {w0 w : World} {rb : Nat} {ao : Option Addr} {n cap next : Nat} {B : List Int} (h : Rd w0 w rb ao n cap B next) (last : Bool) :
    Calls Tryd.prog 53 #[.pointer (some ⟨rb, 0, none⟩), .bool last] w fun e w' => ValP w0 w w' rb ao n cap B (rdOp B last next) next 1 e := by
  have HR : Hid _ := h
  have x1 : w.cell? ⟨rb, 1, none⟩ = some (.int .i64 (next : Int)) := cell_arr h.box rfl
  have lr := (Array.getElem?_eq_some_iff.1 h.box).1
  by_cases hs : n < next + 1
  · have HC : Hid _ := field_no w h.box h.cap h.le hs (by omega)
    have HE : Hid (rdOp B last next = .error n) := by show _ = _; unfold rdOp; rw [← h.by_.len, if_pos hs]
    clear h hs
    go_enter Tryd.func53, Tryd.ntmps53
    go_wp2_with fail
    refine Calls.mono HC.out ?_
    rintro e w1 ⟨rfl, b1⟩
    have HB : Hid (Below w0.heap.size w0 w1) := HR.out.low.trans (b1.mono HR.out.low.size)
    have HO : Hid (Only (fun q => q = rb) w w1) := Only.of_below b1 _
    clear b1 HC
    unfold thrC
    go_wp2_with fail
    exact ⟨rfl, ⟨fun v hv => (by rw [HE.out] at hv; cases hv), fun p hp => (by rw [HE.out] at hp; cases hp; rfl), HB.out, fun v hv => (by rw [HE.out] at hv; cases hv), HO.out⟩⟩
  · have hs2 : next + 1 ≤ n := by omega
    obtain ⟨b, o, ha, -, -⟩ := h.by_.out (by omega)
    have HA : Hid (ao = some ⟨b, o, none⟩) := ha
    have HC : Hid _ := field_yes w h.box h.cap h.le hs2 (by omega) b o ha
    have HS : Hid (next + 1 ≤ n) := hs2
    obtain ⟨v, hv⟩ : ∃ v, v = fldV B next 1 := ⟨_, rfl⟩
    have HV : Hid (v = fldV B next 1) := hv
    have HE : Hid (rdOp B last next = if opIs last v = true then .ok v else .error next) := by show _ = _; unfold rdOp; rw [← h.by_.len, if_neg hs, ← hv]
    obtain ⟨m, hm⟩ : ∃ m, rcnt v = m := ⟨_, rfl⟩
    have HM : Hid (rcnt v = m) := hm
    have HG : Hid (∀ W, Calls Tryd.prog 22 #[.int .i64 v] W fun e w' => e = .returned (.int .i64 m) ∧ w' = W) := fun W => regsOf_any W v hm
    have HLA : Hid (∀ W, Calls Tryd.prog 51 #[.int .i64 v] W fun e w' => e = .returned (.bool (lastF v)) ∧ w' = W) := fun W => isLastR W v
    obtain ⟨l, hl⟩ : ∃ l, l = lastF v := ⟨_, rfl⟩
    have HL : Hid (l = lastF v) := hl
    rw [← hl] at HLA
    clear h hs hs2 ha hv hm hl
    go_enter Tryd.func53, Tryd.ntmps53
    go_wp2_with fail
    refine Calls.mono HC.out ?_
    rintro e w1 ⟨rfl, b1⟩
    have HB : Hid (Rd w0 w1 rb ao n cap B (next + 1)) := HR.out.moved HS.out b1
    have HF : Hid _ := b1
    have HO : Hid (Only (fun q => q = rb) w w1) := only_rb b1
    have HN : Hid (Calls Tryd.prog 42 #[.slice (some ⟨b, o + next, none⟩) 1 1] w1 fun e w' => e = .returned (.int .i64 v) ∧ w1 = w') := by
      obtain ⟨l1, hc⟩ := HR.out.cells HS.out (by omega) HA.out b1
      have q := numIn_any w1 (b := b) (o := o + next) (k := 1) (fldB B next 1) (fldB_len B (by rw [← HR.out.by_.len]; exact HS.out)).symm (by omega) (fldB_in HR.out.by_.by_ _ _) l1 hc
      rw [HV.out]
      exact q
    clear b1 HC
    go_wp2_with fail
    refine Calls.mono HN.out ?_
    rintro e w2 ⟨rfl, rfl⟩
    clear HN
    by_cases c1 : m = -1
    · subst c1
      have HE2 : Hid (rdOp B last next = .error next) := by show _ = _; rw [HE.out]; unfold opIs; rw [HM.out]; rfl
      go_wp2_with (go_at_call 22; refine Calls.mono (HG.out _) ?_; rintro e w3 ⟨rfl, rfl⟩)
      refine (hold_no _ _).mono ?_
      rintro e w3 ⟨rfl, rfl⟩
      unfold thrC
      go_wp2_with fail
      exact ⟨rfl, ⟨fun u hu => (by rw [HE2.out] at hu; cases hu), fun p hp => (by rw [HE2.out] at hp; cases hp; rfl), HB.out.low, fun v hv => (by rw [HE2.out] at hv; cases hv), HO.out⟩⟩
    · have t1 : decide (m = -1) = false := decide_eq_false c1
      have t2 : (m != (-1 : Int)) = true := by simpa using c1
      have HE1 : Hid (rdOp B last next = if (!last || l) = true then .ok v else .error next) := by
        show _ = _; rw [HE.out]; unfold opIs; rw [HM.out, t1, ← HL.out]; rfl
      cases last with
      | false =>
        have HE2 : Hid (rdOp B false next = .ok v) := HE1.out
        go_wp2_with (first
          | (go_at_call 22; refine Calls.mono (HG.out _) ?_; rintro e w3 ⟨rfl, rfl⟩)
          | (go_at_call 32; refine (hold_yes _ _).mono ?_; rintro e w3 ⟨rfl, rfl⟩))
        go_ret
        exact ⟨fun u hu => (by rw [HE2.out] at hu; cases hu; exact ⟨rfl, HB.out⟩), fun p hp => (by rw [HE2.out] at hp; cases hp), HB.out.low, fun v hv => HF.out, HO.out⟩
      | true =>
        cases l with
        | true =>
          have HE2 : Hid (rdOp B true next = .ok v) := HE1.out
          go_wp2_with (first
            | (go_at_call 22; refine Calls.mono (HG.out _) ?_; rintro e w3 ⟨rfl, rfl⟩)
            | (go_at_call 51; refine Calls.mono (HLA.out _) ?_; rintro e w3 ⟨rfl, rfl⟩)
            | (go_at_call 32; refine (hold_yes _ _).mono ?_; rintro e w3 ⟨rfl, rfl⟩))
          go_ret
          exact ⟨fun u hu => (by rw [HE2.out] at hu; cases hu; exact ⟨rfl, HB.out⟩), fun p hp => (by rw [HE2.out] at hp; cases hp), HB.out.low, fun v hv => HF.out, HO.out⟩
        | false =>
          have HE2 : Hid (rdOp B true next = .error next) := HE1.out
          go_wp2_with (first
            | (go_at_call 22; refine Calls.mono (HG.out _) ?_; rintro e w3 ⟨rfl, rfl⟩)
            | (go_at_call 51; refine Calls.mono (HLA.out _) ?_; rintro e w3 ⟨rfl, rfl⟩))
          refine (hold_no _ _).mono ?_
          rintro e w3 ⟨rfl, rfl⟩
          unfold thrC
          go_wp2_with fail
          exact ⟨rfl, ⟨fun u hu => (by rw [HE2.out] at hu; cases hu), fun p hp => (by rw [HE2.out] at hp; cases hp; rfl), HB.out.low, fun v hv => (by rw [HE2.out] at hv; cases hv), HO.out⟩⟩
end Go.Proofs.YtjiaedckecfjbaaDoor
namespace Go.Proofs.YtjiaedckecfjbaaDoor
open Go.ChangeShapes Go.WideShapes Go.ChangeAt Go.RowKit Go.Maps Go.WideMaps

/-- The map of the names that were met. -/
structure Met (w : World) (mb k : Nat) (M : List (List UInt8)) : Prop where
  out : ∃ D : DataW Value, w.ownsMap Tryd.prog 9 (plainElem Tryd.prog 3) mb k D ∧ ∀ s : List UInt8, D.atKey (.string s) (.lit (.int .i64 0)) = .lit (.int .i64 (if s ∈ M then 1 else 0))
theorem Met.start (w : World) : Met (w.alloc (.map #[] 0)) w.heap.size 0 [] :=
  ⟨.map [], World.ownsMap_made _ _ _ _, fun s => by simp [DataW.atKey]⟩
theorem Met.keep {w w' : World} {mb k M} (h : Met w mb k M) (hb : Below w.heap.size w w') : Met w' mb k M := by
  obtain ⟨D, d1, d2⟩ := h.out
  exact ⟨D, own_map_moveN d1 (hb.block _ d1.lt), d2⟩
theorem Met.lt {w : World} {mb k M} (h : Met w mb k M) : mb < w.heap.size := by
  obtain ⟨D, d1, d2⟩ := h.out
  exact d1.lt
set_option maxRecDepth 100000 in
theorem Met.look {w : World} {mb k M} (h : Met w mb k M) {s : ByteArray} (hs : s.size ≤ 64) : (Instr.lookup 80 (.map (some mb)) (.string s) false).run Tryd.prog w = .ok (.int .i64 (if nml s ∈ M then 1 else 0)) w := by
  obtain ⟨D, d1, d2⟩ := h.out
  obtain ⟨c, hr, hat, -⟩ := d1.lookup_int law9 Tryd.underlying80 Tryd.underlying3 (zeroI w) (key9 hs)
  rw [d2] at hat
  have e : (if nml s ∈ M then (1 : Int) else 0) = c := (Lit.int.inj (DataW.lit.inj hat)).2
  rw [e]
  exact hr
set_option maxRecDepth 100000 in
theorem Met.put {w : World} {mb k M} (h : Met w mb k M) {s : ByteArray} (hs : s.size ≤ 64) (hk : k < 10000000000000) : ∃ w', (Instr.mapUpdate 80 (.map (some mb)) (.string s) (.int .i64 1)).run Tryd.prog w = .ok () w' ∧ Met w' mb (k + 1) (M ++ [nml s]) ∧ w.grownBy w' (some mb) := by
  obtain ⟨D, d1, d2⟩ := h.out
  obtain ⟨w', hr, own, gr⟩ := d1.update law9 Tryd.underlying80 (by unfold maxLen; omega) (key9 hs) (plainElem_int Tryd.underlying3 (show (Lit.int .i64 1).wf = true by decide))
  refine ⟨w', hr, ⟨_, own, fun y => ?_⟩, gr⟩
  by_cases e : y = nml s
  · subst e
    rw [atKey_put_same d1.isMap (show WideAt.IsKeyLit (Lit.string _) from trivial)]
    simp
  · have hne : (Lit.string y) ≠ .string (nml s) := fun q => e (by injection q)
    rw [atKey_put_other hne, d2 y]
    simp [e]
/-- A field's bytes as a text. -/
def fldT (B : List Int) (next k : Nat) : List UInt8 := (fldB B next k).map fun x => UInt8.ofNat x.toNat
theorem Rd.text {w0 W W' : World} {rb : Nat} {ao : Option Addr} {n cap next k b o : Nat} {B : List Int} {u : Value} (h : Rd w0 W rb ao n cap B next) (hk : next + k ≤ n) (h1 : 1 ≤ k) (ha : ao = some ⟨b, o, none⟩) (bb : Below W.heap.size (W.setCell ⟨rb, 1, none⟩ u) W') :
    (convert 28 9 (.slice (some ⟨b, o + next, none⟩) k k)).run Tryd.prog W' = .ok (.string (bs (fldT B next k))) W' := by
  obtain ⟨l1, hc⟩ := h.cells hk h1 ha bb
  have hL : (fldB B next k).length = k := fldB_len B (by rw [← h.by_.len]; exact hk)
  have hT : (fldT B next k).length = k := by unfold fldT; rw [List.length_map, hL]
  have hA : At W' b (o + next) (fldT B next k) := ⟨l1, fun i hi => by
    have hi2 : i < (fldB B next k).length := by omega
    have hx := fldB_in h.by_.by_ next k _ (List.getElem_mem hi2)
    rw [hc i hi2]
    have e : (fldT B next k)[i] = UInt8.ofNat ((fldB B next k)[i].toNat) := List.getElem_map _
    rw [e]
    congr 2
    rw [UInt8.toNat_ofNat']
    omega⟩
  have q := hA.conv k
  rw [hT] at q
  exact q
end Go.Proofs.YtjiaedckecfjbaaDoor
