import Derived.Test.YtddcpbidlbiamaaHpP
import Derived.Test.YtddcpbidlbiamaaHpQ
import Derived.Test.YtddcpbidlbiamaaHpR
import Derived.Test.YtddcpbidlbiamaaHpS
import Derived.Test.YtddcpbidlbiamaaHpT
set_option linter.unusedVariables false
set_option linter.unusedSimpArgs false
namespace Go.Proofs.Ytddcpbidlbiamaa
open Go.ChangeShapes Go.WideShapes Go.ChangeAt Go.RowKit

theorem plays_any (w : World) {B S c} (H : PS w B S c) (hB : B ≤ w.heap.size) (hc : c < 1000000000) (k who near oa i v : Int) (ho : O.Ok ⟨k, who, near, oa, i, v⟩) :
    Calls Try.prog 12 #[.pointer (some ⟨S.p, 0, none⟩), .agg #[.int .i64 k, .int .i64 who, .int .i64 near, .int .i64 oa, .int .i64 i, .int .i64 v]] w fun e w' => e = .returned (.bool true) ∧ ∃ S', Goes w w' B S S' (c + 1) := by
  by_cases h1 : k = 1
  · subst h1; exact make_case w H hB hc who near oa i v ho
  by_cases h2 : k = 2
  · subst h2; exact set_case w H hB hc who near oa i v ho
  by_cases h3 : k = 3
  · subst h3; exact len_case w H hB hc who near oa i v ho
  by_cases h4 : k = 4
  · subst h4; exact get_case w H hB hc who near oa i v ho
  by_cases h5 : k = 5
  · subst h5; exact words_case w H hB hc who near oa i v ho
  exact other_case w H hB hc k who near oa i v ho h1 h2 h3 h4 h5

/-- A list of calls in memory. -/
structure Scr (w : World) (b off len : Nat) (s : Nat → O) : Prop where
  lt : b < w.heap.size
  c : ∀ j, j < len → w.cell? ⟨b, off + j * 6, none⟩ = some (.int .i64 (s j).k) ∧ w.cell? ⟨b, off + j * 6 + 1, none⟩ = some (.int .i64 (s j).who) ∧ w.cell? ⟨b, off + j * 6 + 2, none⟩ = some (.int .i64 (s j).near) ∧ w.cell? ⟨b, off + j * 6 + 3, none⟩ = some (.int .i64 (s j).a) ∧ w.cell? ⟨b, off + j * 6 + 4, none⟩ = some (.int .i64 (s j).i) ∧ w.cell? ⟨b, off + j * 6 + 5, none⟩ = some (.int .i64 (s j).v)
  ok : ∀ j, j < len → (s j).Ok
theorem Scr.block {w w' b off len s} (h : Scr w b off len s) (hk : w'.heap[b]? = w.heap[b]?) : Scr w' b off len s :=
  ⟨by
    have h1 : w.heap[b]? = some (w.heap[b]'h.lt) := Array.getElem?_eq_getElem h.lt
    rw [h1] at hk
    exact (Array.getElem?_eq_some_iff.1 hk).1, fun j hj => by
    have e : ∀ q, w'.cell? ⟨b, q, none⟩ = w.cell? ⟨b, q, none⟩ := fun q => World.cell?_of_block (w := w) hk
    simp only [e]
    exact h.c j hj, h.ok⟩

theorem Goes.start {w B S c} (H : PS w B S c) : Goes w w B S S c := ⟨H, rfl, Only.refl _ _, fun q h => .inl h⟩
theorem Goes.more {w w' B S S' c c'} (h : Goes w w' B S S' c) (hc : c ≤ c') : Goes w w' B S S' c' := ⟨h.ps.mono hc, h.p, h.o, h.f⟩
theorem Goes.below {w w' B S S' c c0} (h : Goes w w' B S S' c) (H : PS w B S c0) (hB : B ≤ w.heap.size) : Below B w w' := h.o.below hB (fun k hk => (H.lt k hk).1)

def six : List O := [⟨1, 0, 0, 2, 0, 0⟩, ⟨1, 0, 0, 1, 0, 0⟩, ⟨2, 0, 0, 1, 1, 7⟩, ⟨4, 0, 0, 1, 1, 0⟩, ⟨3, 0, 0, 4, 0, 0⟩, ⟨5, 0, 0, 0, 0, 0⟩]
def sixOf (j : Nat) : O := six.getD j ⟨0, 0, 0, 0, 0, 0⟩
theorem six_scr {w : World} {C : Array Value} (hC : C.toList = six.flatMap fun o => [.int .i64 o.k, .int .i64 o.who, .int .i64 o.near, .int .i64 o.a, .int .i64 o.i, .int .i64 o.v]) : Scr (w.alloc (.cells C 30)) w.heap.size 0 6 sixOf := by
  have hb := heap_alloc_new w (.cells C 30)
  have hc : C = #[.int .i64 1, .int .i64 0, .int .i64 0, .int .i64 2, .int .i64 0, .int .i64 0, .int .i64 1, .int .i64 0, .int .i64 0, .int .i64 1, .int .i64 0, .int .i64 0, .int .i64 2, .int .i64 0, .int .i64 0, .int .i64 1, .int .i64 1, .int .i64 7, .int .i64 4, .int .i64 0, .int .i64 0, .int .i64 1, .int .i64 1, .int .i64 0, .int .i64 3, .int .i64 0, .int .i64 0, .int .i64 4, .int .i64 0, .int .i64 0, .int .i64 5, .int .i64 0, .int .i64 0, .int .i64 0, .int .i64 0, .int .i64 0] := by
    apply Array.ext'
    rw [hC]
    rfl
  subst hc
  refine ⟨by simp, fun j hj => ?_, fun j hj => ?_⟩
  · match j, hj with
    | 0, _ => exact ⟨cell_arr hb rfl, cell_arr hb rfl, cell_arr hb rfl, cell_arr hb rfl, cell_arr hb rfl, cell_arr hb rfl⟩
    | 1, _ => exact ⟨cell_arr hb rfl, cell_arr hb rfl, cell_arr hb rfl, cell_arr hb rfl, cell_arr hb rfl, cell_arr hb rfl⟩
    | 2, _ => exact ⟨cell_arr hb rfl, cell_arr hb rfl, cell_arr hb rfl, cell_arr hb rfl, cell_arr hb rfl, cell_arr hb rfl⟩
    | 3, _ => exact ⟨cell_arr hb rfl, cell_arr hb rfl, cell_arr hb rfl, cell_arr hb rfl, cell_arr hb rfl, cell_arr hb rfl⟩
    | 4, _ => exact ⟨cell_arr hb rfl, cell_arr hb rfl, cell_arr hb rfl, cell_arr hb rfl, cell_arr hb rfl, cell_arr hb rfl⟩
    | 5, _ => exact ⟨cell_arr hb rfl, cell_arr hb rfl, cell_arr hb rfl, cell_arr hb rfl, cell_arr hb rfl, cell_arr hb rfl⟩
  · match j, hj with
    | 0, _ => exact ⟨by unfold Fits sixOf six; decide, by unfold Fits sixOf six; decide, by unfold Fits sixOf six; decide, by unfold Fits sixOf six; decide⟩
    | 1, _ => exact ⟨by unfold Fits sixOf six; decide, by unfold Fits sixOf six; decide, by unfold Fits sixOf six; decide, by unfold Fits sixOf six; decide⟩
    | 2, _ => exact ⟨by unfold Fits sixOf six; decide, by unfold Fits sixOf six; decide, by unfold Fits sixOf six; decide, by unfold Fits sixOf six; decide⟩
    | 3, _ => exact ⟨by unfold Fits sixOf six; decide, by unfold Fits sixOf six; decide, by unfold Fits sixOf six; decide, by unfold Fits sixOf six; decide⟩
    | 4, _ => exact ⟨by unfold Fits sixOf six; decide, by unfold Fits sixOf six; decide, by unfold Fits sixOf six; decide, by unfold Fits sixOf six; decide⟩
    | 5, _ => exact ⟨by unfold Fits sixOf six; decide, by unfold Fits sixOf six; decide, by unfold Fits sixOf six; decide, by unfold Fits sixOf six; decide⟩

/-- A list that lies outside the pair. -/
theorem Goes.scr {w w' B S S' c b off len s} (h : Goes w w' B S S' c) (hs : Scr w b off len s) (hb : ¬ Foot S b) : Scr w' b off len s := hs.block (h.o.block b hs.lt hb)

set_option maxHeartbeats 4000000 in
set_option maxRecDepth 100000 in
theorem alive_any (w : World) : Calls Try.prog 10 #[] w fun e w' => e = .returned (.bool true) ∧ Below w.heap.size w w' := by
  go_enter Try.func10, Try.ntmps10
  go_wp2_with fail
  refine (made_any _).mono ?_
  rintro e w1 ⟨rfl, hP, hb1, hs1⟩
  obtain ⟨p, hp⟩ : ∃ p, p = w.heap.size + 1 + 1 + 1 + 1 := ⟨_, rfl⟩
  rw [← hp]
  have HP := show Hid (PS w1 w.heap.size (SP.new w.heap.size) 0) from hP _ (Nat.le_refl _)
  have HPP := show Hid ((SP.new w.heap.size).p = p) from by rw [hp]; rfl
  clear hP hp
  go_wp2_with fail
  generalize hw2 : w1.alloc (.cells _ 30) = w2
  have HSC : Hid (Scr w2 w1.heap.size 0 6 sixOf) := by
    rw [← hw2]
    exact six_scr rfl
  have HP2 : Hid (PS w2 w.heap.size (SP.new w.heap.size) 0) := by
    rw [← hw2]
    exact HP.out.keep ((Below.refl _ _).alloc (Nat.le_refl _) _)
  have HB2 : Hid (Below w.heap.size w w2) := by
    rw [← hw2]
    exact hb1.alloc hb1.size _
  have HNF : Hid (¬ Foot (SP.new w.heap.size) w1.heap.size) := fun h => by
    have := (HP.out.lt _ h).2
    omega
  clear hw2
  go_loopw [2, 4] (fun ok jv wr => ∃ (j : Nat) (S' : SP), j ≤ 6 ∧ jv = .int .i64 j ∧ ok = .bool true ∧ Goes w2 wr w.heap.size (SP.new w.heap.size) S' j) (fun _ jv _ => 6 - (intOf jv).toNat)
  case atStart => exact ⟨0, _, by omega, rfl, rfl, Goes.start HP2.out⟩
  case round =>
    obtain ⟨j, S', hj, rfl, rfl, hG⟩ := hrel
    have hBr : w.heap.size ≤ wr.heap.size := Nat.le_trans HB2.out.size hG.o.size
    have HG := show Hid _ from hG
    clear hG
    by_cases hlt : j < 6
    · have hS := HG.out.scr HSC.out HNF.out
      obtain ⟨q0, q1, q2, q3, q4, q5⟩ := hS.c j hlt
      have hpl := plays_any wr HG.out.ps hBr (by omega) (sixOf j).k (sixOf j).who (sixOf j).near (sixOf j).a (sixOf j).i (sixOf j).v (hS.ok j hlt)
      rw [HG.out.p, HPP.out] at hpl
      simp only [Nat.zero_add] at q0 q1 q2 q3 q4 q5
      clear hS
      generalize (sixOf j).k = a0 at *
      generalize (sixOf j).who = a1 at *
      generalize (sixOf j).near = a2 at *
      generalize (sixOf j).a = a3 at *
      generalize (sixOf j).i = a4 at *
      generalize (sixOf j).v = a5 at *
      go_wp2_with fail
      refine hpl.mono ?_
      rintro e w3 ⟨rfl, S3, hG3⟩
      clear hpl
      go_wp2_with fail
      go_roundw
      case rel => exact ⟨j + 1, S3, by omega, by go_num, rfl, HG.out.trans hG3⟩
      case measure => simp [intOf]; omega
    · go_wp2_with fail
      go_ret
      exact ⟨rfl, HB2.out.trans (HG.out.below HP2.out HB2.out.size)⟩
end Go.Proofs.Ytddcpbidlbiamaa
