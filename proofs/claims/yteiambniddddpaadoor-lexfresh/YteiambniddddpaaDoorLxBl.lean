import Derived.Test.YteiambniddddpaaDoorLxBk
set_option linter.unusedVariables false
namespace Go.Proofs.YteiambniddddpaaDoor
open Go.ChangeShapes Go.WideShapes Go.ChangeAt Go.RowKit

theorem results_tok2 {fn : Func} {p q : Tmp} (h : fn.results = #[.cell p 31, .tmp q]) (tmps : Array Value) (w : World) (g : Nat) (t : TypeId) (cs : Array Value) (fr : Nat × Nat) (v1 : Value)
    (hp : tmps.getD p undef = .pointer (some ⟨g, 0, none⟩)) (hq : tmps.getD q undef = v1) (hg : w.heap[g]? = some (.cells cs t fr)) (hi : cs.size = 4) :
    (results fn tmps).run Tryd.prog w = .ok (.tuple #[.agg cs, v1]) w := by
  have hp' : tmps[p]?.getD undef = .pointer (some ⟨g, 0, none⟩) := by simpa using hp
  have hq' : tmps[q]?.getD undef = v1 := by simpa using hq
  simp [results, h, hp', hq', asAddr, run_loadVar_row w g t 31 cs fr _ hg Tryd.underlying31 rfl (by rw [hi]; exact info33)]

/-- What token answers. -/
structure Tells (e : Ending) : Prop where
  out : ∃ (t : Tk) (S : List UInt8) (s u : ByteArray), e = .returned (.tuple #[.agg #[.int .i64 t.kind, .int .i64 0, .int .i64 t.val, .string u], .string s]) ∧ s = bs S ∧ u = bs t.name ∧ Spell S t ∧ S.length ≤ 32

theorem name_new {P S : List UInt8} (v : Nat) (hS : S = P ++ dec v) : nameTk S = ⟨1, 0, S⟩ := by
  refine nameTk_miss (fun i hi e => ?_)
  obtain ⟨_, _, h3, _, _⟩ := word_facts i hi
  cases hd : dec v with
  | nil => exact absurd hd (dec_ne v)
  | cons c l =>
    have h7 := dec_dg v c (by rw [hd]; simp)
    exact h3 c (by rw [e, hS, hd]; simp) h7
theorem spell_v {P : List UInt8} {c : UInt8} {l : List UInt8} (hP : P = c :: l) (h6 : cl c = 6) (hall : ∀ x ∈ P, isNm x = true) (hl : P.length ≤ 8) (v : Nat) (hv : v ≤ 9223372036854775807) : Spell (P ++ dec v) ⟨1, 0, P ++ dec v⟩ ∧ (P ++ dec v).length ≤ 32 := by
  have h19 := dec_len v 19 (by omega) (by omega)
  have := spell_name (S := P ++ dec v) (c := c) (l := l ++ dec v) (by rw [hP]; rfl) h6 (fun x hx => by
    rcases List.mem_append.1 hx with h | h
    · exact hall x h
    · simp [isNm, dec_dg v x h]) (by simp; omega)
  rw [name_new v rfl] at this
  exact ⟨this, by simp; omega⟩
theorem bs_append (A B : List UInt8) : bs A ++ bs B = bs (A ++ B) := by
  unfold bs
  apply ByteArray.ext
  simp [ByteArray.data_append]

end Go.Proofs.YteiambniddddpaaDoor
