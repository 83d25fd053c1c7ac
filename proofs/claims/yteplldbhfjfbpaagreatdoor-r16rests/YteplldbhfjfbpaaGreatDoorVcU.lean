import Derived.Test.YteplldbhfjfbpaaGreatDoorVcO
import Derived.Test.YteplldbhfjfbpaaGreatDoorVcK
set_option linter.unusedVariables false
set_option linter.unusedSimpArgs false
namespace Go.Proofs.YteplldbhfjfbpaaGreatDoor
open Go.ChangeShapes Go.WideShapes Go.ChangeAt Go.RowKit Go.Maps

/-- Run, and what it leaves as it was. -/
theorem mRunR_keep {s d W R} {n K Bn : Nat} (h : StR s d W W R) (ho : R.over = false) (hP : PgR s) (hR : RI s n R) {fuel : Nat} (hn : n + K ≤ 100000000) (hf : fuel ≤ 1099511627776) (hK : K = fuel ∨ K ≤ fuel ∧ (smG s.C s.FS s.S s.room K R).over = true) {RF : Rv} (hRF : smG s.C s.FS s.S s.room K R = RF) (hft : ∀ k, footR s d k → Bn ≤ k) (hB : Bn ≤ W.heap.size) :
    Calls Tryz.prog 12 #[.pointer (some ⟨s.mb, 0, none⟩), .int .i64 fuel] W fun e w' => ∃ ao c, e = .returned (.tuple #[.agg #[.slice ao RF.ev.length c, .int .i64 RF.fin, .int .i64 RF.kd, .int .i64 RF.vl, .int .i64 RF.steps, .int .i64 RF.words, .int .i64 RF.deep], .int .i64 0]) ∧ (∃ d', StR s d' w' w' RF ∧ ∀ k, footR s d' k → Bn ≤ k) ∧ RI s (n + K) RF ∧ Evs w' ao c RF.ev ∧ Below Bn W w' ∧ ∀ (k : Nat) (A : Array Value), W.heap[k]? = some (Obj.cells A 40 (0, 0)) → w'.heap[k]? = W.heap[k]? := by
  obtain ⟨d1, hm, hov, f1⟩ := h.out
  have hmW := hm ho
  have hst : StR s d1 W W R := ⟨d1, fun _ => hmW, hov, FooR.refl _ _ _⟩
  have hft1 : ∀ k, footR s d1 k → Bn ≤ k := fun k hk => by
    rcases f1.new k hk with q | q
    · exact hft k q
    · omega
  refine (mRunR_st hst hP hR hn hf hK hRF).mono ?_
  rintro e w' ⟨ao, c, B, rfl, hs2, hRI, hB2, hRow⟩
  obtain ⟨d2, hm2, ho2, f2⟩ := hs2.out
  obtain ⟨ao', c', ee, hE⟩ := evs_of hRow
  cases ee
  have sz := f2.only.size
  refine ⟨ao, c, rfl, ⟨d2, ⟨d2, hm2, ho2, FooR.refl _ _ _⟩, fun k hk => ?_⟩, hRI, hE, f2.only.below hB hft1, fun k A hk => f2.only.block k (Array.getElem?_eq_some_iff.1 hk).1 (hmW.not_foot hk)⟩
  rcases f2.new k hk with q | q
  · exact hft1 k q
  · omega
theorem not_over {R : Rv} (h1 : R.fin = 0) (h2 : R.rests = false) : R.over = false := by
  unfold Rv.over
  rw [h1, h2]
  rfl
/-- R16Rests: its program. -/
def rsC (op : Int) : List Ri := [⟨op, 1, 0, 0, 0⟩, ⟨op, 1, 0, 0, 0⟩, ⟨21, 0, 0, 0, 0⟩]
def rs0 : Rv := (Rv.zero []).call 2 ⟨⟨#[109, 97, 105, 110]⟩, 2, 0, 3, 0⟩ (-1)
/-- A run that has told so many. -/
structure RsS (nx : Int) (n t : Nat) (R : Rv) : Prop where
  nx : R.nx = nx
  fin : R.fin = 0
  rests : R.rests = false
  ev : R.ev.length = n
  r1 : R.reg 1 = 0
  steps : R.steps = (t : Int)
theorem rs_at {op : Int} {R : Rv} {i : Nat} {x : Ri} (h : R.nx = (i : Int)) (hx : (rsC op)[i]? = some x) : R.at (rsC op) = x := by
  unfold Rv.at
  rw [h]
  show (rsC op).getD i riZ = x
  unfold List.getD
  rw [hx]
  rfl
theorem rs_tell {op : Int} (ho : op = 37 ∨ op = 38) {R : Rv} (h1 : R.reg 1 = 0) (FS : List Rf) (S room : Int) : R.why ⟨op, 1, 0, 0, 0⟩ = none ∧ ∃ k, R.does FS S room ⟨op, 1, 0, 0, 0⟩ = R.tell k 0 := by
  rcases ho with rfl | rfl
  · refine ⟨rfl, 1, ?_⟩
    show R.tell 1 (R.reg 1) = _
    rw [h1]
  · refine ⟨?_, 2, ?_⟩
    · show (if bad01 (R.reg 1) then some 5 else none) = none
      rw [if_neg (by rw [h1]; unfold bad01; simp)]
    · show R.tell 2 (R.reg 1) = _
      rw [h1]
theorem rs_one {op : Int} (ho : op = 37 ∨ op = 38) {i : Nat} (hi : i = 0 ∨ i = 1) {n t : Nat} {R : Rv} (h : RsS (i : Int) n t R) (hn : n < 1048576) : ∃ R', R.stp (rsC op) (oneF (rsC op) 2) 2 0 = (true, R') ∧ RsS ((i : Int) + 1) (n + 1) (t + 1) R' := by
  have hx : (rsC op)[i]? = some ⟨op, 1, 0, 0, 0⟩ := by rcases hi with rfl | rfl <;> rfl
  obtain ⟨hw, k, hd⟩ := rs_tell ho (R := R.on) h.r1 (oneF (rsC op) 2) 2 0
  have ht : R.on.tell k 0 = { R.on with ev := R.ev ++ [(k, 0)] } := by
    unfold Rv.tell
    have e : R.on.ev = R.ev := rfl
    rw [if_neg (by rw [e, h.ev]; omega)]
    rfl
  refine ⟨_, stp_ok (not_over h.fin h.rests) (rs_at h.nx hx) hw (hd.trans ht) h.rests, ?_⟩
  refine ⟨by show R.nx + 1 = _; rw [h.nx], h.fin, h.rests, by show (R.ev ++ [(k, 0)]).length = _; rw [List.length_append, h.ev]; rfl, h.r1, by show R.steps + 1 = _; rw [h.steps]; omega⟩
theorem rs_jump {op : Int} {n t : Nat} {R : Rv} (h : RsS 2 n t R) : ∃ R', R.stp (rsC op) (oneF (rsC op) 2) 2 0 = (true, R') ∧ RsS 0 n (t + 1) R' := by
  refine ⟨_, stp_ok (x := ⟨21, 0, 0, 0, 0⟩) (R1 := { R.on with nx := 0 }) (not_over h.fin h.rests) (rs_at (i := 2) h.nx rfl) rfl rfl h.rests, ?_⟩
  exact ⟨rfl, h.fin, h.rests, h.ev, h.r1, by show R.steps + 1 = _; rw [h.steps]; omega⟩
theorem rs_two {op : Int} (ho : op = 37 ∨ op = 38) {n t : Nat} {R : Rv} (h : RsS 0 n t R) (hn : n + 2 ≤ 1048576) : ∃ R', Wy (rsC op) (oneF (rsC op) 2) 2 0 2 R R' ∧ RsS 2 (n + 2) (t + 2) R' := by
  obtain ⟨R1, s1, h1⟩ := rs_one ho (i := 0) (Or.inl rfl) h (by omega)
  obtain ⟨R2, s2, h2⟩ := rs_one ho (i := 1) (Or.inr rfl) h1 (by omega)
  exact ⟨R2, Wy.cons s1 (Wy.one s2), h2⟩
theorem rs_path {op : Int} (ho : op = 37 ∨ op = 38) : ∀ j : Nat, j ≤ 524288 → ∃ R, Wy (rsC op) (oneF (rsC op) 2) 2 0 (3 * j) rs0 R ∧ RsS 0 (2 * j) (3 * j) R
  | 0, _ => ⟨rs0, Wy.none _, ⟨rfl, rfl, rfl, rfl, rfl, rfl⟩⟩
  | j + 1, hj => by
    obtain ⟨R, w, h⟩ := rs_path ho j (by omega)
    obtain ⟨R2, w2, h2⟩ := rs_two ho h (by omega)
    obtain ⟨R3, s3, h3⟩ := rs_jump (op := op) h2
    refine ⟨R3, ?_, ?_⟩
    · rw [show 3 * (j + 1) = 3 * j + (2 + 1) by omega]
      exact w.trans (w2.trans (Wy.one s3))
    · rw [show 3 * (j + 1) = 3 * j + 2 + 1 by omega, show 2 * (j + 1) = 2 * j + 2 by omega]
      exact h3
/-- Behind the first Run; behind the second one. -/
theorem rs_go {op : Int} (ho : op = 37 ∨ op = 38) : ∃ R2 R4, smG (rsC op) (oneF (rsC op) 2) 2 0 1572863 rs0 = R2 ∧ RsS 2 1048576 1572863 R2 ∧ smG (rsC op) (oneF (rsC op) 2) 2 0 1000 R2 = R4 ∧ R4.over = true ∧ R4.ev.length = 1048576 ∧ R4.steps = 1572864 ∧ R4.fin = 0 := by
  obtain ⟨N, hN⟩ : ∃ N : Nat, N = 524287 := ⟨_, rfl⟩
  obtain ⟨R, w, h⟩ := rs_path ho N (by omega)
  obtain ⟨R2, w2, h2⟩ := rs_two ho h (by omega)
  obtain ⟨R3, s3, h3⟩ := rs_jump (op := op) h2
  obtain ⟨hw, k, hd⟩ := rs_tell ho (R := R3.on) h3.r1 (oneF (rsC op) 2) 2 0
  have e3 : R3.ev.length = 1048576 := by rw [h3.ev]; omega
  have ha : R3.adv (rsC op) (oneF (rsC op) 2) 2 0 = { R3.on with rests := true } := by
    unfold Rv.adv Rv.ins
    rw [rs_at (i := 0) (x := ⟨op, 1, 0, 0, 0⟩) h3.nx rfl, hw]
    show R3.on.does _ _ _ _ = _
    rw [hd]
    unfold Rv.tell
    have e : R3.on.ev = R3.ev := rfl
    rw [if_pos (by rw [e]; exact e3)]
  have s4 : R3.stp (rsC op) (oneF (rsC op) 2) 2 0 = (false, { R3.on with rests := true }) := by
    unfold Rv.stp
    rw [if_neg (by rw [not_over h3.fin h3.rests]; simp), ha]
    rfl
  refine ⟨R2, { R3.on with rests := true }, ?_, ?_, ?_, ?_, e3, ?_, h3.fin⟩
  · obtain ⟨M, hM⟩ : ∃ M : Nat, M = 1572863 := ⟨_, rfl⟩
    rw [← hM, show M = (3 * N + 2) + 0 by omega, (w.trans w2)]
    rfl
  · have := h2
    rw [show 2 * N + 2 = 1048576 by omega, show 3 * N + 2 = 1572863 by omega] at this
    exact this
  · rw [show (1000 : Nat) = 1 + (998 + 1) from rfl, Wy.one s3]
    show (if _ then _ else _) = _
    rw [s4, if_neg (by simp)]
  · rfl
  · show R3.steps = _
    rw [h3.steps]
    omega
theorem rs_form {op : Int} (ho : op = 37 ∨ op = 38) : formR (rsC op) (oneF (rsC op) 2) 0 = true := by
  refine form_one (by show 0 < 3; omega) (by omega) ?_ rfl
  intro x hx
  unfold rsC at hx
  simp only [List.mem_cons, List.not_mem_nil, or_false] at hx
  rcases ho with rfl | rfl <;> rcases hx with rfl | rfl | rfl <;> exact ⟨rfl, rfl⟩
end Go.Proofs.YteplldbhfjfbpaaGreatDoor
