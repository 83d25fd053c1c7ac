import Derived.Test.YteiambniddddpaaDoorLxI
import Derived.Deep.OwnRows
import Derived.Laws.AppendOwnNone
import Derived.Lib.SmallJoins
set_option linter.unusedVariables false
namespace Go.Proofs.YteiambniddddpaaDoor
open Go.ChangeShapes Go.WideShapes Go.ChangeAt Go.RowKit
theorem cell_arr {w : World} {g i : Nat} {A : Array Value} {t : TypeId} {v : Value} (h : w.heap[g]? = some (.cells A t (0, 0))) (hv : A[i]? = some v) : w.cell? ⟨g, i, none⟩ = some v := by
  simp [World.cell?, h, hv]
theorem ret_int {k : IntKind} {a b : Int} (h : a = b) : Ending.returned (.int k a) = .returned (.int k b) := by rw [h]
theorem valOf_snoc (a : Nat) (l : List UInt8) (c : UInt8) : valOf a (l ++ [c]) = 10 * valOf a l + (c.toNat - 48) := by simp [valOf]

theorem num_any (z : Int) (w : World) : Calls Tryd.prog 23 #[.int .i64 z] w fun e w' => e = .returned (.int .i64 z) ∧ w = w' := by
  go_enter Tryd.func23, Tryd.ntmps23
  go_wp2
  go_ret
  exact ⟨rfl, rfl⟩

/-- A slice of tokens that holds ts. -/
structure TokV (w : World) (ao : Option Addr) (ts : List T) : Prop where
  out : ts ≠ [] → ∃ g, ao = some ⟨g, 0, none⟩ ∧ g < w.heap.size ∧ ∀ i (h : i < ts.length), w.cell? ⟨g, i * 4, none⟩ = some (.int .i64 ts[i].kind) ∧ w.cell? ⟨g, i * 4 + 1, none⟩ = some (.int .i64 ts[i].pos) ∧ w.cell? ⟨g, i * 4 + 2, none⟩ = some (.int .i64 ts[i].val) ∧ w.cell? ⟨g, i * 4 + 3, none⟩ = some (.string (bs ts[i].name))

theorem tcs_at (ts : List T) : ∀ i (h : i < ts.length) (j : Nat), j < 4 → (tcs ts)[i * 4 + j]? = (tc ts[i])[j]? := by
  induction ts with
  | nil => intro i h; simp at h
  | cons t ts ih =>
    intro i h j hj
    have e : tcs (t :: ts) = tc t ++ tcs ts := by simp [tcs]
    rw [e]
    cases i with
    | zero => rw [List.getElem?_append_left (by simp [tc]; omega)]; simp
    | succ i =>
      rw [List.getElem?_append_right (by simp [tc]; omega)]
      have := ih i (by simpa using h) j hj
      rw [show (i + 1) * 4 + j - (tc t).length = i * 4 + j by simp [tc]; omega, this]
      simp

theorem Own.view {w B v ts} (h : Own w B v ts) : ∃ ao cap, v = .slice ao ts.length cap ∧ ts.length ≤ cap ∧ cap ≤ 9223372036854775807 ∧ TokV w ao ts := by
  have hh := h.out
  rcases hh.2 with ⟨rfl, hn⟩ | ⟨g, cap, cur, rfl, e2, e3, e4, e5, e6, e7⟩
  · have : ts = [] := List.length_eq_zero_iff.1 hn
    subst this
    exact ⟨none, 0, rfl, by simp, by omega, ⟨fun h => absurd rfl h⟩⟩
  · refine ⟨_, cap, rfl, e4, e5, ⟨fun _ => ⟨g, rfl, (Array.getElem?_eq_some_iff.1 e3).1, fun i hi => ?_⟩⟩⟩
    have hc : ∀ j, j < 4 → w.cell? ⟨g, i * 4 + j, none⟩ = (tc ts[i])[j]? := by
      intro j hj
      have h1 := tcs_at ts i hi j hj
      rw [← e7, List.getElem?_take, if_pos (by omega)] at h1
      have h2 : (tc ts[i])[j]? = some ((tc ts[i])[j]'(by simp [tc]; omega)) := List.getElem?_eq_getElem _
      rw [h2] at h1 ⊢
      exact cell_arr e3 (by rw [← h1]; simp)
    exact ⟨hc 0 (by omega), hc 1 (by omega), hc 2 (by omega), hc 3 (by omega)⟩

theorem TokV.below {w w' ao ts B} (h : TokV w ao ts) (hb : Below B w w') (hB : w.heap.size ≤ B) : TokV w' ao ts := ⟨fun hn => by
  obtain ⟨g, e, hg, hc⟩ := h.out hn
  have hs := hb.size
  refine ⟨g, e, by omega, fun i hi => ?_⟩
  obtain ⟨a, b, c, d⟩ := hc i hi
  rw [hb.cell (p := ⟨g, _, none⟩) (by show g < B; omega), hb.cell (p := ⟨g, _, none⟩) (by show g < B; omega), hb.cell (p := ⟨g, _, none⟩) (by show g < B; omega), hb.cell (p := ⟨g, _, none⟩) (by show g < B; omega)]
  exact ⟨a, b, c, d⟩⟩


theorem tokens_at (w : World) (hTab : Tab w) (ao : Option Addr) (cap n : Nat) (L : List UInt8) (hn : n = L.length) (hT : Txt w ao cap L) (hl : n ≤ 4194304) :
    Calls Tryd.prog 10 #[.slice ao n cap] w fun e w' => Said w L e w' := by
  subst hn; exact tokens_any w hTab ao cap L hT hl

def aliveL : List UInt8 := [120, 49, 32, 60, 61, 32, 55, 32, 58]
def aliveT : List T := [⟨1, 0, 0, [120, 49]⟩, ⟨52, 3, 0, []⟩, ⟨2, 6, 7, []⟩]
theorem alive_lexes : Lexes 0 aliveL aliveT 8 20 := by
  refine .tok (n := 0) (m := 2) (t := ⟨1, 0, [120, 49]⟩) (by decide) (by decide) (by rfl) ?_
  refine .tok (k := 2) (n := 1) (m := 2) (t := ⟨52, 0, []⟩) (by decide) (by decide) (by kernel_rfl) ?_
  refine .tok (k := 5) (n := 1) (m := 1) (t := ⟨2, 7, []⟩) (by decide) (by decide) (by rfl) ?_
  exact .err (k := 7) (n := 1) (by decide) (by decide) (by kernel_rfl)

theorem alloc_at (w : World) (A : Array Value) (t : TypeId) (fr : Nat × Nat) (M : List UInt8) (h : A.toList = M.map fun c => Value.int .u8 (c.toNat : Int)) : At (w.alloc (.cells A t fr)) w.heap.size 0 M := by
  refine ⟨by simp, fun i hi => ?_⟩
  rw [World.cell?_alloc_mark, ← Array.getElem?_toList, h]
  simp [hi]

theorem Txt.of_at {w b o cap L} (h : At w b o L) (h1 : L.length ≤ cap) (h2 : cap ≤ 9223372036854775807) : Txt w (some ⟨b, o, none⟩) cap L := ⟨h1, h2, fun _ => ⟨b, o, rfl, h⟩⟩

def aliveA : Array Value := #[.int .u8 120, .int .u8 49, .int .u8 32, .int .u8 60, .int .u8 61, .int .u8 32, .int .u8 55, .int .u8 32, .int .u8 58]

set_option maxRecDepth 10000 in
set_option maxHeartbeats 1000000 in
theorem alive_any (w : World) (hTab : Tab w) : Calls Tryd.prog 9 #[] w fun e w' => e = .returned (.bool true) ∧ Below w.heap.size w w' := by
  have hcv := Joins.run_convert_bytes_const_at (P := Tryd.prog) w 23 5 #[.int .u8 120, .int .u8 49, .int .u8 32, .int .u8 60, .int .u8 61, .int .u8 32, .int .u8 55, .int .u8 32, .int .u8 58] 9 9 w.heap.size rfl Tryd.underlying23 Tryd.underlying5
  go_enter Tryd.func9, Tryd.ntmps9
  go_wp2_with (first
    | (go_at_call 10; refine (tokens_at _ (hTab.alloc _) _ 9 9 aliveL rfl (Txt.of_at (alloc_at w aliveA 5 _ aliveL rfl) (by decide) (by omega)) (by omega)).mono ?_
       rintro e u ⟨ts, p, er, v, hL, rfl, hown, hbl⟩
       obtain ⟨rfl, rfl, rfl⟩ := hL.one alive_lexes
       obtain ⟨ao, cap, rfl, hc1, hc2, hv⟩ := hown.view
       obtain ⟨g, rfl, hg, hc⟩ := hv.out (by decide)
       have hlen : aliveT.length = 3 := rfl
       obtain ⟨s, hs⟩ : ∃ s, s = bs [120, 49] := ⟨_, rfl⟩
       have k0 : u.cell? ⟨g, 3, none⟩ = some (.string s) := by rw [hs]; exact (hc 0 (by decide)).2.2.2
       have hs1 : (s.toList == [120, 49]) = true := by rw [hs, bs_toList]; rfl
       have k1 : u.cell? ⟨g, 4, none⟩ = some (.int .i64 52) := (hc 1 (by decide)).1
       have k2 : u.cell? ⟨g, 10, none⟩ = some (.int .i64 7) := (hc 2 (by decide)).2.2.1
       clear hc hs)
    | (go_at_call 23; refine (num_any _ _).mono ?_; rintro e w' ⟨rfl, rfl⟩))
  go_ret
  exact ⟨rfl, ((Below.refl _ _).alloc (Nat.le_refl _) _).trans (hbl.mono (by simp))⟩

end Go.Proofs.YteiambniddddpaaDoor
