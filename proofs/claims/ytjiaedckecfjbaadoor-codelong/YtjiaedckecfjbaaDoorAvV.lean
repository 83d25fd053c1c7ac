import Derived.Test.YtjiaedckecfjbaaDoorCyA
import Derived.Deep.Slices
import Derived.OpenShut
import Derived.ChangeOld
import Derived.Carry
import Derived.LaidMore
import Derived.SevenTiedAt
import Derived.Stop.Joined
import Derived.Test.YtjiaedckecfjbaaDoorTie
import Derived.Test.YtjiaedckecfjbaaDoorCards
import Derived.Lib.LaidTab
set_option linter.unusedVariables false
namespace Go.Proofs.YtjiaedckecfjbaaDoor
open Go.ChangeShapes Go.WideShapes Go.ChangeAt Go.RowKit

theorem own : ownKnob Tryd.prog.godebug = none := by kernel_rfl
theorem laidOut : laidOutB Tryd.prog = true := by kernel_rfl

theorem cells_of_strs {P : Program} {w : World} {fuel : Nat} {t e : TypeId} {n : Nat} {cs : List Value} {ss : List (List UInt8)} {p : List MemPlace}
    (ht : P.underlying t = some (.array n e)) (he : P.underlying e = some .string) (hce : P.cellsOf e = 1) (hct : P.cellsOf t = n)
    (h : DataW.trod (fun _ => ()) P w 0 (fun _ => true) false fuel t cs = some (.agg (ss.map fun s => .lit (.string s)), p)) : ∀ i, i < ss.length → cs[i]? = some (.string (bs (ss.getD i []))) := by
  intro i hi
  cases fuel with
  | zero => simp [DataW.trod] at h
  | succ fuel =>
    simp only [DataW.trod, ht, hce, hct, Nat.mul_one] at h
    split at h
    · obtain ⟨xs, hm, hx⟩ := Option.map_eq_some_iff.1 h
      have hxs : xs.map (·.1) = ss.map fun s => (DataW.lit (.string s) : DataW Unit) := by
        have := congrArg Prod.fst hx
        simpa using this
      have hxl : xs.length = n := by simpa using Lib.mapM_length hm
      have hzl : ss.length = n := by
        have := congrArg List.length hxs
        simp at this
        omega
      have hin : i < n := by omega
      obtain ⟨b, hb, hf⟩ := Lib.mapM_at hm i i (by simp [hin])
      obtain ⟨s, hc, hz, _⟩ := DataW.trod_string he hf
      have h1 : cs[i]? = some (.string s) := by
        have := congrArg (·[0]?) hc
        simpa [List.getElem?_take, List.getElem?_drop] using this
      have h2 : (xs.map (·.1))[i]? = some (DataW.lit (.string s.data.toList) : DataW Unit) := by simp [hb, hz]
      rw [hxs] at h2
      simp only [List.getElem?_map, Option.map_eq_some_iff, DataW.lit.injEq, Lit.string.injEq] at h2
      obtain ⟨z', hz', e⟩ := h2
      rw [h1]
      simp [List.getD, hz', e, bs]
    · cases h

theorem tab_of_laid {W : World} (hL : laidMetH Tryd.prog [("quern/lex.words", Rows.laid_quern_lex_words), ("quern/lex.signs", Rows.laid_quern_lex_signs)] W) : Tab W := by
  have h : laidMet Tryd.prog [("quern/lex.words", Rows.laid_quern_lex_words), ("quern/lex.signs", Rows.laid_quern_lex_signs)] W := hL
  obtain ⟨ps, ⟨g1, t1, cs1, f1, p1, q1, hg1, ht1, hv1, hd1, ⟨g2, t2, cs2, f2, p2, q2, hg2, ht2, hv2, hd2, _, _⟩, _⟩, _⟩ := h
  have e1 : Tryd.prog.globalNamed "quern/lex.words" = some 1 := by kernel_rfl
  have e2 : Tryd.prog.globalNamed "quern/lex.signs" = some 0 := by kernel_rfl
  obtain rfl := Option.some.inj (e1.symm.trans hg1)
  obtain rfl := Option.some.inj (e2.symm.trans hg2)
  obtain rfl := Option.some.inj ((show (Tryd.prog.globals[1]?).map (·.type) = some 109 by kernel_rfl).symm.trans ht1)
  obtain rfl := Option.some.inj ((show (Tryd.prog.globals[0]?).map (·.type) = some 108 by kernel_rfl).symm.trans ht2)
  have k1 : ∀ i, i < 18 → W.cell? ⟨1, i, none⟩ = some (.string (bs (WORDS.getD i []))) := fun i hi => by
    rw [World.var?_cell hg1 hv1, ← Array.getElem?_toList]
    exact cells_of_strs (ss := WORDS) Tryd.underlying109 Tryd.underlying9 (by kernel_rfl) (by kernel_rfl) hd1 i hi
  have k2 : ∀ i, i < 29 → W.cell? ⟨0, i, none⟩ = some (.string (bs (SIGNS.getD i []))) := fun i hi => by
    rw [World.var?_cell hg2 hv2, ← Array.getElem?_toList]
    exact cells_of_strs (ss := SIGNS) Tryd.underlying108 Tryd.underlying9 (by kernel_rfl) (by kernel_rfl) hd2 i hi
  have b1 : 1 < W.heap.size := block_lt_of_cell (k1 0 (by omega))
  have b2 : 0 < W.heap.size := block_lt_of_cell (k2 0 (by omega))
  exact ⟨by omega, k1, k2⟩

theorem byte_wf {n : Int} (h : (Lit.int .u8 n).wf = true) : ∃ x : UInt8, n = (x.toNat : Int) := by
  have h1 : 0 ≤ n ∧ n < 256 := by
    simp [Lit.wf] at h
    have a : (0 : Int) ≤ n := h.1
    have b : n ≤ 255 := h.2
    omega
  refine ⟨UInt8.ofNat n.toNat, ?_⟩
  rw [UInt8.toNat_ofNat']
  omega

/-- A slice of bytes that came in. -/
theorem bytes_view {H : Type} {enc : TypeId × Value → H} {W : World} {fuel : Nat} {cs : List Value} {x : DataW H × List MemPlace} (h : DataW.trod enc Tryd.prog W 0 (fun _ => true) true fuel 28 cs = some x) :
    ∃ (ao : Option Addr) (cap : Nat) (L : List UInt8), cs = [.slice ao L.length cap] ∧ (ao = none → cap = 0) ∧ Txt W ao cap L := by
  rcases Deep.open_slice Tryd.underlying28 h with ⟨h0, _⟩ | ⟨a, len, cap, m, n, D, Pl, rfl, _, hl, hm, hmm, _, hx⟩
  · exact ⟨none, 0, [], h0, fun _ => rfl, by simp, by omega, fun h => absurd rfl h⟩
  · have c5 : Tryd.prog.cellsOf 5 = 1 := by kernel_rfl
    rw [c5] at hx
    have hml : len ≤ m := by rw [hmm]; simp; exact hl
    have each : ∀ i, i < len → ∃ q : UInt8, W.cell? (a.add i) = some (.int .u8 (q.toNat : Int)) := by
      intro i hi
      obtain ⟨cs', h1, h2⟩ := hx i (by omega)
      obtain ⟨_, hlen, hcell⟩ := World.cells?_some h1
      obtain ⟨n0, e0, _, z0⟩ := DataW.trod_int Tryd.underlying5 h2
      subst e0
      obtain ⟨x, rfl⟩ := byte_wf z0
      have q0 := hcell 0 (by omega)
      rw [Deep.add_add] at q0
      exact ⟨x, by simpa using q0⟩
    obtain ⟨q, hq⟩ := Deep.choose_lt each
    refine ⟨some a, cap, (List.range len).map q, by simp, (fun h => by cases h), by simpa using hl, hm, fun hne => ?_⟩
    have hl0 : 0 < len := by
      rcases Nat.eq_zero_or_pos len with h | h
      · subst h; simp at hne
      · exact h
    obtain ⟨b, off, spot⟩ := a
    have hspot : spot = none := by simpa [Addr.add] using World.cell?_spot (hq 0 hl0)
    subst hspot
    refine ⟨b, off, rfl, block_lt_of_cell (hq 0 hl0), fun i hi => ?_⟩
    have hi' : i < len := by simpa using hi
    have := hq i hi'
    rw [add_plain] at this
    rw [this]; simp

theorem below_same {W w' : World} (h : Below W.heap.size W w') {p : MemPlace} (hp : p.block < W.heap.size) : W.sameAt w' p := h.same hp
end Go.Proofs.YtjiaedckecfjbaaDoor
