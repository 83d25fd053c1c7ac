import Derived.Test.YteiambniddddpaaDoorLxC
import Derived.Deep.WholeRow
set_option linter.unusedVariables false
namespace Go.Proofs.YteiambniddddpaaDoor
open Go.ChangeShapes Go.WideShapes Go.ChangeAt Go.RowKit

/-- The two tables of package lex as they lie. -/
def Tab (w : World) : Prop := 2 ≤ w.heap.size ∧ (∀ i, i < 18 → w.cell? ⟨1, i, none⟩ = some (.string (bs (WORDS.getD i [])))) ∧ (∀ i, i < 29 → w.cell? ⟨0, i, none⟩ = some (.string (bs (SIGNS.getD i []))))

def tv (t : Tk) (k : Int) : Value := .agg #[.int .i64 t.kind, .int .i64 k, .int .i64 t.val, .string (bs t.name)]
def tz : Value := .agg #[.int .i64 0, .int .i64 0, .int .i64 0, .string .empty]

theorem nameTk_hit {S : List UInt8} {j : Nat} (hj : j < 18) (h : ∀ i, i < j → WORDS.getD i [] ≠ S) (e : WORDS.getD j [] = S) : nameTk S = ⟨10 + (j : Int), 0, []⟩ := by
  have : WORDS.findIdx? (· == S) = some j := by
    rw [List.findIdx?_eq_some_iff_getElem]
    have hl : j < WORDS.length := hj
    refine ⟨hl, ?_, fun i hi => ?_⟩
    · simp [List.getD, List.getElem?_eq_getElem hl] at e
      simp [e]
    · have := h i hi
      have hl' : i < WORDS.length := by omega
      simp [List.getD, List.getElem?_eq_getElem hl'] at this
      simp [this]
  simp [nameTk, this]
theorem nameTk_miss {S : List UInt8} (h : ∀ i, i < 18 → WORDS.getD i [] ≠ S) : nameTk S = ⟨1, 0, S⟩ := by
  have : WORDS.findIdx? (· == S) = none := by
    rw [List.findIdx?_eq_none_iff]
    intro x hx
    obtain ⟨i, hi, rfl⟩ := List.mem_iff_getElem.1 hx
    have := h i hi
    simp [List.getD, List.getElem?_eq_getElem hi] at this
    simp [this]
  simp [nameTk, this]

theorem ret_val {a b : Value} (h : a = b) : Ending.returned a = .returned b := by rw [h]

theorem nameTok_any (w : World) (hT : Tab w) (S : List UInt8) (k : Int) :
    Calls Tryd.prog 61 #[.string (bs S), .int .i64 k] w fun e w' => e = .returned (tv (nameTk S) k) ∧ Below w.heap.size w w' := by
  have HT : Hid (Tab w) := hT
  have hsz : 1 < w.heap.size := hT.1
  have hsz0 : 0 < w.heap.size := by omega
  clear hT
  obtain ⟨s, hs⟩ : ∃ s, s = bs S := ⟨_, rfl⟩
  obtain ⟨r, hr⟩ : ∃ r, r = tv (nameTk S) k := ⟨_, rfl⟩
  rw [← hs, ← hr]
  have HS : Hid (s = bs S ∧ r = tv (nameTk S) k) := ⟨hs, hr⟩
  clear hs hr
  go_enter Tryd.func61, Tryd.ntmps61
  go_wp2
  go_loop [6] (fun v => ∃ j : Nat, j ≤ 18 ∧ v = .int .i64 j ∧ Hid (∀ i, i < j → WORDS.getD i [] ≠ S)) (fun v => 18 - (intOf v).toNat)
  case atStart => exact ⟨0, by omega, rfl, fun i hi => by omega⟩
  case round =>
    obtain ⟨j, hj, rfl, HJ⟩ := hrel
    by_cases hlt : j < 18
    · have hcell := HT.out.2.1 j hlt
      obtain ⟨x, hx⟩ : ∃ x, x = bs (WORDS.getD j []) := ⟨_, rfl⟩
      rw [← hx] at hcell
      have HX : Hid (x = bs (WORDS.getD j [])) := hx
      clear hx
      by_cases he : (x.toList == s.toList) = true
      · have HE : Hid (nameTk S = ⟨10 + (j : Int), 0, []⟩) := by
          rw [HX.out, HS.out.1, bs_toList, bs_toList] at he
          exact nameTk_hit hlt HJ.out (by simpa using he)
        go_wp2
        refine bodyPost_ret (v := tv ⟨10 + (j : Int), 0, []⟩ k) (by simp [results, Tryd.results61, go_sem]; rfl) rfl ⟨ret_val ?_, (Below.refl _ _).alloc (Nat.le_refl _) _⟩
        rw [HS.out.2, HE.out]
      · have HE : Hid (∀ i, i < j + 1 → WORDS.getD i [] ≠ S) := by
          rw [HX.out, HS.out.1, bs_toList, bs_toList] at he
          intro i hi
          rcases Nat.lt_succ_iff_lt_or_eq.1 hi with h | rfl
          · exact HJ.out i h
          · simpa using he
        go_wp2
        go_round
        case rel => exact ⟨j + 1, by omega, by go_num, HE⟩
        case measure => simp [intOf]; omega
    · have hj : j = 18 := by omega
      subst hj
      go_wp2
      refine bodyPost_ret (v := .agg #[.int .i64 1, .int .i64 k, .int .i64 0, .string s]) (by simp [results, Tryd.results61, go_sem]) rfl ⟨ret_val ?_, (Below.refl _ _).alloc (Nat.le_refl _) _⟩
      rw [HS.out.2, nameTk_miss HJ.out, HS.out.1]; rfl
end Go.Proofs.YteiambniddddpaaDoor
