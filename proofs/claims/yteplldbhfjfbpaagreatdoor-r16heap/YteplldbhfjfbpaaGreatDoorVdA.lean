import Derived.Test.YteplldbhfjfbpaaGreatDoorVcO
import Derived.Test.YteplldbhfjfbpaaGreatDoorVcK
set_option linter.unusedVariables false
set_option linter.unusedSimpArgs false
namespace Go.Proofs.YteplldbhfjfbpaaGreatDoor
open Go.ChangeShapes Go.WideShapes Go.ChangeAt Go.RowKit Go.Maps

/-- A run of R16Heap's programs. -/
def hq (pos r2 r3 r4 r5 r6 tk : Int) (ln : Int → Option Int) (mm : Int → Int) (hc : Nat) (E : List (Int × Int)) (t : Int) : Rv :=
  ⟨pos, [0, 0, r2, r3, r4, r5, r6, 0, 0, 0, 0, 0, 0, 0, 0, 0], fun y => if y = 1 then -1 else if y = 0 then -1 else 0, 2, 0, 2, 1, tk, ln, mm, hc, [], E, 0, 0, 0, t, tk, 1, false⟩
theorem hq_at {P : List Ri} {p : Nat} {x : Ri} (h : P[p]? = some x) {r2 r3 r4 r5 r6 tk ln mm hc E t} : (hq (p : Int) r2 r3 r4 r5 r6 tk ln mm hc E t).at P = x := by
  show P.getD ((p : Int)).toNat riZ = x
  rw [Int.toNat_natCast]
  unfold List.getD
  rw [h]
  rfl
section
variable {P : List Ri} {p : Nat} {room : Int} {r2 r3 r4 r5 r6 tk : Int} {ln : Int → Option Int} {mm : Int → Int} {hc : Nat} {E : List (Int × Int)} {t : Int}
theorem hq_ldi2 {n : Int} (h : P[p]? = some ⟨1, 2, 0, 0, n⟩) : (hq (p : Int) r2 r3 r4 r5 r6 tk ln mm hc E t).stp P (oneF P 2) 2 room = (true, hq ((p + 1 : Nat) : Int) n r3 r4 r5 r6 tk ln mm hc E (t + 1)) :=
  stp_ok (R1 := hq ((p + 1 : Nat) : Int) n r3 r4 r5 r6 tk ln mm hc E t) rfl (hq_at h) rfl rfl rfl
theorem hq_ldi5 {n : Int} (h : P[p]? = some ⟨1, 5, 0, 0, n⟩) : (hq (p : Int) r2 r3 r4 r5 r6 tk ln mm hc E t).stp P (oneF P 2) 2 room = (true, hq ((p + 1 : Nat) : Int) r2 r3 r4 n r6 tk ln mm hc E (t + 1)) :=
  stp_ok (R1 := hq ((p + 1 : Nat) : Int) r2 r3 r4 n r6 tk ln mm hc E t) rfl (hq_at h) rfl rfl rfl
theorem hq_alloc (h : P[p]? = some ⟨28, 3, 2, 0, 0⟩) (h0 : 0 ≤ r2) (hr : ¬ r2 ≥ room - tk) : (hq (p : Int) r2 r3 r4 r5 r6 tk ln mm hc E t).stp P (oneF P 2) 2 room = (true, hq ((p + 1 : Nat) : Int) r2 (tk + 1) r4 r5 r6 (tk + r2 + 1) (upd ln (tk + 1) (some r2)) mm (hc + 1) E (t + 1)) :=
  stp_ok (R1 := hq ((p + 1 : Nat) : Int) r2 (tk + 1) r4 r5 r6 (tk + r2 + 1) (upd ln (tk + 1) (some r2)) mm (hc + 1) E t) rfl (hq_at h) (by
    show (if r2 < 0 then some 1 else none) = none
    exact if_neg (by omega)) (by
    show (if r2 ≥ room - tk then _ else _) = _
    rw [if_neg hr]
    rfl) rfl
theorem hq_full (h : P[p]? = some ⟨28, 3, 2, 0, 0⟩) (h0 : 0 ≤ r2) (hr : r2 ≥ room - tk) : (hq (p : Int) r2 r3 r4 r5 r6 tk ln mm hc E t).stp P (oneF P 2) 2 room = (true, { (hq ((p + 1 : Nat) : Int) r2 r3 r4 r5 r6 tk ln mm hc E t).panic 8 0 with steps := t + 1 }) :=
  stp_ok (R1 := (hq ((p + 1 : Nat) : Int) r2 r3 r4 r5 r6 tk ln mm hc E t).panic 8 0) rfl (hq_at h) (by
    show (if r2 < 0 then some 1 else none) = none
    exact if_neg (by omega)) (by
    show (if r2 ≥ room - tk then _ else _) = _
    rw [if_pos hr]
    rfl) rfl
theorem hq_tell {k v : Int} {pos : Int} (hE : E.length ≠ 1048576) : (hq pos r2 r3 r4 r5 r6 tk ln mm hc E t).tell k v = hq pos r2 r3 r4 r5 r6 tk ln mm hc (E ++ [(k, v)]) t := by
  unfold Rv.tell
  rw [if_neg (show ¬ (hq pos r2 r3 r4 r5 r6 tk ln mm hc E t).ev.length = 1048576 from hE)]
  rfl
theorem hq_out3 (h : P[p]? = some ⟨37, 3, 0, 0, 0⟩) (hE : E.length ≠ 1048576) : (hq (p : Int) r2 r3 r4 r5 r6 tk ln mm hc E t).stp P (oneF P 2) 2 room = (true, hq ((p + 1 : Nat) : Int) r2 r3 r4 r5 r6 tk ln mm hc (E ++ [(1, r3)]) (t + 1)) :=
  stp_ok (R1 := hq ((p + 1 : Nat) : Int) r2 r3 r4 r5 r6 tk ln mm hc (E ++ [(1, r3)]) t) rfl (hq_at h) rfl (hq_tell hE) rfl
theorem hq_out4 (h : P[p]? = some ⟨37, 4, 0, 0, 0⟩) (hE : E.length ≠ 1048576) : (hq (p : Int) r2 r3 r4 r5 r6 tk ln mm hc E t).stp P (oneF P 2) 2 room = (true, hq ((p + 1 : Nat) : Int) r2 r3 r4 r5 r6 tk ln mm hc (E ++ [(1, r4)]) (t + 1)) :=
  stp_ok (R1 := hq ((p + 1 : Nat) : Int) r2 r3 r4 r5 r6 tk ln mm hc (E ++ [(1, r4)]) t) rfl (hq_at h) rfl (hq_tell hE) rfl
theorem hq_out6 (h : P[p]? = some ⟨37, 6, 0, 0, 0⟩) (hE : E.length ≠ 1048576) : (hq (p : Int) r2 r3 r4 r5 r6 tk ln mm hc E t).stp P (oneF P 2) 2 room = (true, hq ((p + 1 : Nat) : Int) r2 r3 r4 r5 r6 tk ln mm hc (E ++ [(1, r6)]) (t + 1)) :=
  stp_ok (R1 := hq ((p + 1 : Nat) : Int) r2 r3 r4 r5 r6 tk ln mm hc (E ++ [(1, r6)]) t) rfl (hq_at h) rfl (hq_tell hE) rfl
theorem hq_len {k : Int} (h : P[p]? = some ⟨29, 4, 3, 0, 0⟩) (hl : ln r3 = some k) : (hq (p : Int) r2 r3 r4 r5 r6 tk ln mm hc E t).stp P (oneF P 2) 2 room = (true, hq ((p + 1 : Nat) : Int) r2 r3 k r5 r6 tk ln mm hc E (t + 1)) :=
  stp_ok (R1 := hq ((p + 1 : Nat) : Int) r2 r3 k r5 r6 tk ln mm hc E t) rfl (hq_at h) (by
    show (if r3 = 0 ∨ (ln r3).isSome then none else some 1) = none
    rw [if_pos (Or.inr (by rw [hl]; rfl))]) (by
    show (hq ((p + 1 : Nat) : Int) r2 r3 ((ln r3).getD 0) r5 r6 tk ln mm hc E t) = _
    rw [hl]
    rfl) rfl
theorem hq_why {k : Int} {op a : Int} {pos : Int} (ho : op = 30 ∨ op = 31) (h3 : ¬ r3 = 0) (hl : ln r3 = some k) (h5 : 0 ≤ r5 ∧ r5 < k) : (hq pos r2 r3 r4 r5 r6 tk ln mm hc E t).why ⟨op, a, 3, 5, 0⟩ = none := by
  have e : (hq pos r2 r3 r4 r5 r6 tk ln mm hc E t).why ⟨op, a, 3, 5, 0⟩ = (if r3 = 0 then (some 1 : Option Int) else match ln r3 with | none => (some 1 : Option Int) | some k => if r5 < 0 ∨ r5 ≥ k then (some 2 : Option Int) else none) := by
    rcases ho with rfl | rfl <;> rfl
  rw [e, if_neg h3, hl]
  simp only
  rw [if_neg (by omega)]
theorem hq_get {k : Int} (h : P[p]? = some ⟨30, 6, 3, 5, 0⟩) (h3 : ¬ r3 = 0) (hl : ln r3 = some k) (h5 : 0 ≤ r5 ∧ r5 < k) {v : Int} (hv : mm (r3 + 1 + r5) = v) : (hq (p : Int) r2 r3 r4 r5 r6 tk ln mm hc E t).stp P (oneF P 2) 2 room = (true, hq ((p + 1 : Nat) : Int) r2 r3 r4 r5 v tk ln mm hc E (t + 1)) :=
  stp_ok (R1 := hq ((p + 1 : Nat) : Int) r2 r3 r4 r5 v tk ln mm hc E t) rfl (hq_at h) (hq_why (Or.inl rfl) h3 hl h5) (by
    show hq ((p + 1 : Nat) : Int) r2 r3 r4 r5 (mm (r3 + 1 + r5)) tk ln mm hc E t = _
    rw [hv]) rfl
theorem hq_set {k : Int} (h : P[p]? = some ⟨31, 2, 3, 5, 0⟩) (h3 : ¬ r3 = 0) (hl : ln r3 = some k) (h5 : 0 ≤ r5 ∧ r5 < k) : (hq (p : Int) r2 r3 r4 r5 r6 tk ln mm hc E t).stp P (oneF P 2) 2 room = (true, hq ((p + 1 : Nat) : Int) r2 r3 r4 r5 r6 tk ln (upd mm (r3 + 1 + r5) r2) (hc + 1) E (t + 1)) :=
  stp_ok (R1 := hq ((p + 1 : Nat) : Int) r2 r3 r4 r5 r6 tk ln (upd mm (r3 + 1 + r5) r2) (hc + 1) E t) rfl (hq_at h) (hq_why (Or.inr rfl) h3 hl h5) rfl rfl
end
/-- The instructions for a block, and what they tell. -/
def hpA (n : Int) : List Ri := [⟨1, 2, 0, 0, n⟩, ⟨28, 3, 2, 0, 0⟩]
def hpB : List Ri := [⟨37, 3, 0, 0, 0⟩, ⟨29, 4, 3, 0, 0⟩, ⟨37, 4, 0, 0, 0⟩]
def hpC (n : Int) : List Ri := [⟨1, 5, 0, 0, n - 1⟩, ⟨30, 6, 3, 5, 0⟩, ⟨37, 6, 0, 0, 0⟩, ⟨31, 2, 3, 5, 0⟩, ⟨30, 6, 3, 5, 0⟩, ⟨37, 6, 0, 0, 0⟩]
def hpI (n : Int) : List Ri := hpA n ++ (hpB ++ (if n > 0 then hpC n else []))
def hpE (tk n : Int) : List (Int × Int) := [(1, tk + 1), (1, n)] ++ (if n > 0 then [(1, 0), (1, n)] else [])
theorem hp_block {P : List Ri} {room n : Int} (hn : 0 ≤ n) {p : Nat} (hP : ∀ i, i < (hpI n).length → P[p + i]? = (hpI n)[i]?) {r2 r3 r4 r5 r6 tk : Int} {ln : Int → Option Int} {mm : Int → Int} {hc : Nat} {E : List (Int × Int)} {t : Int} (ht : 0 ≤ tk) (hr : ¬ n ≥ room - tk) (hm : ∀ a, tk < a → mm a = 0) (hE : E.length + 4 < 1048576) :
    ∃ r2' r3' r4' r5' r6' ln' mm' hc', Wy P (oneF P 2) 2 room (hpI n).length (hq (p : Int) r2 r3 r4 r5 r6 tk ln mm hc E t) (hq ((p + (hpI n).length : Nat) : Int) r2' r3' r4' r5' r6' (tk + n + 1) ln' mm' hc' (E ++ hpE tk n) (t + ((hpI n).length : Nat))) ∧ ∀ a, tk + n + 1 < a → mm' a = 0 := by
  by_cases h0 : n > 0
  · have eI : hpI n = [⟨1, 2, 0, 0, n⟩, ⟨28, 3, 2, 0, 0⟩, ⟨37, 3, 0, 0, 0⟩, ⟨29, 4, 3, 0, 0⟩, ⟨37, 4, 0, 0, 0⟩, ⟨1, 5, 0, 0, n - 1⟩, ⟨30, 6, 3, 5, 0⟩, ⟨37, 6, 0, 0, 0⟩, ⟨31, 2, 3, 5, 0⟩, ⟨30, 6, 3, 5, 0⟩, ⟨37, 6, 0, 0, 0⟩] := by
      unfold hpI hpA hpB hpC
      rw [if_pos h0]
      rfl
    have eE : hpE tk n = [(1, tk + 1), (1, n), (1, 0), (1, n)] := by unfold hpE; rw [if_pos h0]; rfl
    rw [eI] at hP ⊢
    rw [eE]
    have q : ∀ i, i < 11 → P[p + i]? = _ := fun i hi => hP i hi
    have hl : upd ln (tk + 1) (some n) (tk + 1) = some n := by unfold upd; simp
    have ea : tk + 1 + 1 + (n - 1) = tk + n + 1 := by omega
    have g0 : mm (tk + 1 + 1 + (n - 1)) = 0 := hm _ (by omega)
    have g1 : upd mm (tk + 1 + 1 + (n - 1)) n (tk + 1 + 1 + (n - 1)) = n := by unfold upd; simp
    refine ⟨n, tk + 1, n, n - 1, n, upd ln (tk + 1) (some n), upd mm (tk + 1 + 1 + (n - 1)) n, hc + 1 + 1, ?_, fun a ha => ?_⟩
    · refine Wy.cons (hq_ldi2 (q 0 (by omega))) (Wy.cons (hq_alloc (q 1 (by omega)) hn hr) (Wy.cons (hq_out3 (q 2 (by omega)) (by omega)) (Wy.cons (hq_len (q 3 (by omega)) hl) (Wy.cons (hq_out4 (q 4 (by omega)) (by simp; omega)) (Wy.cons (hq_ldi5 (q 5 (by omega))) (Wy.cons (hq_get (q 6 (by omega)) (by omega) hl (by omega) g0) (Wy.cons (hq_out6 (q 7 (by omega)) (by simp; omega)) (Wy.cons (hq_set (q 8 (by omega)) (by omega) hl (by omega)) (Wy.cons (hq_get (q 9 (by omega)) (by omega) hl (by omega) g1) (Wy.one ?_))))))))))
      have h := hq_out6 (P := P) (room := room) (p := p + 10) (r2 := n) (r3 := tk + 1) (r4 := n) (r5 := n - 1) (r6 := n) (tk := tk + n + 1) (ln := upd ln (tk + 1) (some n)) (mm := upd mm (tk + 1 + 1 + (n - 1)) n) (hc := hc + 1 + 1) (E := E ++ [(1, tk + 1)] ++ [(1, n)] ++ [(1, 0)]) (t := t + 1 + 1 + 1 + 1 + 1 + 1 + 1 + 1 + 1 + 1) (q 10 (by omega)) (by simp; omega)
      refine h.trans ?_
      congr 2
      · simp
      · simp; omega
    · unfold upd
      rw [if_neg (by omega)]
      exact hm a (by omega)
  · have hn0 : n = 0 := by omega
    subst hn0
    have eI : hpI 0 = [⟨1, 2, 0, 0, 0⟩, ⟨28, 3, 2, 0, 0⟩, ⟨37, 3, 0, 0, 0⟩, ⟨29, 4, 3, 0, 0⟩, ⟨37, 4, 0, 0, 0⟩] := rfl
    have eE : hpE tk 0 = [(1, tk + 1), (1, 0)] := rfl
    rw [eI] at hP ⊢
    rw [eE]
    have q : ∀ i, i < 5 → P[p + i]? = _ := fun i hi => hP i hi
    have hl : upd ln (tk + 1) (some 0) (tk + 1) = some 0 := by unfold upd; simp
    refine ⟨0, tk + 1, 0, r5, r6, upd ln (tk + 1) (some 0), mm, hc + 1, ?_, fun a ha => hm a (by omega)⟩
    refine Wy.cons (hq_ldi2 (q 0 (by omega))) (Wy.cons (hq_alloc (q 1 (by omega)) hn hr) (Wy.cons (hq_out3 (q 2 (by omega)) (by omega)) (Wy.cons (hq_len (q 3 (by omega)) hl) (Wy.one ?_))))
    have h := hq_out4 (P := P) (room := room) (p := p + 4) (r2 := 0) (r3 := tk + 1) (r4 := 0) (r5 := r5) (r6 := r6) (tk := tk + 0 + 1) (ln := upd ln (tk + 1) (some 0)) (mm := mm) (hc := hc + 1) (E := E ++ [(1, tk + 1)]) (t := t + 1 + 1 + 1 + 1) (q 4 (by omega)) (by simp; omega)
    refine h.trans ?_
    congr 2
    · simp
    · simp; omega
end Go.Proofs.YteplldbhfjfbpaaGreatDoor
