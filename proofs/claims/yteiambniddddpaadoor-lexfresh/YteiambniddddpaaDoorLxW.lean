import Derived.Test.YteiambniddddpaaDoorLxN
import Derived.Test.YteiambniddddpaaDoorLxV
import Derived.SizedLaws
set_option linter.unusedVariables false
namespace Go.Proofs.YteiambniddddpaaDoor
open Go.ChangeShapes Go.WideShapes Go.ChangeAt Go.RowKit

theorem weightsAll_mem {H : Type} {P : Program} {e : TypeId} {d : DataW H} {n : Nat} : ∀ {l : List (DataW H)}, d ∈ l → n ∈ d.weights P e → n ∈ DataW.weightsAll P e l
  | [], h, _ => by cases h
  | x :: l, h, hn => by
    simp only [DataW.weightsAll, List.mem_append]
    rcases List.mem_cons.1 h with rfl | h
    · exact .inl hn
    · exact .inr (weightsAll_mem h hn)

theorem bytes_weight {H : Type} {enc : TypeId × Value → H} {W : World} {fuel : Nat} {ao : Option Addr} {len cap : Nat} {x : DataW H × List MemPlace} (h : DataW.trod enc Tryd.prog W 0 (fun _ => true) true fuel 23 [.slice ao len cap] = some x) (hl : 0 < len)
    (hw : ∀ n ∈ x.1.weights Tryd.prog 23, n ≤ reachBytes) : len ≤ 140737488351232 := by
  rcases Deep.open_slice Tryd.underlying23 h with ⟨h0, _⟩ | ⟨a, len', cap', m, n, D, Pl, e, _, _, _, _, rfl, _⟩
  · cases h0; omega
  · simp at e
    obtain ⟨rfl, rfl, rfl⟩ := e
    have b5 : Tryd.prog.bytesOf 5 = 1 := by kernel_rfl
    have := hw (((List.range len).map D).length * 1 + (m - len) * 1) (by simp [DataW.weights, Tryd.underlying23, b5])
    simp [reachBytes] at this
    omega

theorem texts_view {H : Type} {enc : TypeId × Value → H} {W : World} {fuel : Nat} {ao : Option Addr} {len cap : Nat} {x : DataW H × List MemPlace} (h : DataW.trod enc Tryd.prog W 0 (fun _ => true) true fuel 22 [.slice ao len cap] = some x)
    (hw : ∀ n ∈ x.1.weights Tryd.prog 22, n ≤ reachBytes) :
    len ≤ 9223372036854775807 ∧ ∃ (A : Nat → Option Addr) (C : Nat → Nat) (L : Nat → List UInt8), 0 < len → ∃ b o, ao = some ⟨b, o, none⟩ ∧ Txts W b o len A C L := by
  rcases Deep.open_slice Tryd.underlying22 h with ⟨h0, _⟩ | ⟨a, len', cap', m, n, D, Pl, e, _, hl, hm, hmm, rfl, hx⟩
  · cases h0
    exact ⟨by omega, fun _ => none, fun _ => 0, fun _ => [], fun h => by omega⟩
  · simp at e
    obtain ⟨rfl, rfl, rfl⟩ := e
    have hcap : cap ≤ 9223372036854775807 := hm
    have c5 : Tryd.prog.cellsOf 23 = 1 := by kernel_rfl
    rw [c5] at hx
    have hml : len ≤ m := by rw [hmm]; simp; exact hl
    have each : ∀ i, i < len → ∃ q : Option Addr × Nat × List UInt8, W.cell? (a.add i) = some (.slice q.1 q.2.2.length q.2.1) ∧ (q.1 = none → q.2.1 = 0) ∧ Txt W q.1 q.2.1 q.2.2 ∧ q.2.2.length ≤ 140737488351232 := by
      intro i hi
      obtain ⟨cs', h1, h2⟩ := hx i (by omega)
      obtain ⟨_, hlen, hcell⟩ := World.cells?_some h1
      obtain ⟨ao', c', L', rfl, hnil, hT⟩ := bytes_view h2
      have q0 := hcell 0 (by omega)
      rw [Deep.add_add] at q0
      refine ⟨(ao', c', L'), by simpa using q0, hnil, hT, ?_⟩
      rcases Nat.eq_zero_or_pos L'.length with h0 | h0
      · show L'.length ≤ _; omega
      · refine bytes_weight h2 h0 (fun k hk => hw k ?_)
        simp only [DataW.weights, Tryd.underlying22, List.mem_cons, List.mem_append]
        refine .inr (.inl (weightsAll_mem (d := D i) ?_ hk))
        exact List.mem_map.2 ⟨i, by simpa using hi, rfl⟩
    obtain ⟨q, hq⟩ := Deep.choose_lt each
    refine ⟨by omega, fun i => (q i).1, fun i => (q i).2.1, fun i => (q i).2.2, fun h0 => ?_⟩
    obtain ⟨b, off, spot⟩ := a
    have hspot : spot = none := by simpa [Addr.add] using World.cell?_spot (hq 0 h0).1
    subst hspot
    refine ⟨b, off, rfl, block_lt_of_cell (hq 0 h0).1, fun i hi => ?_, fun i hi => (hq i hi).2.1, fun i hi => (hq i hi).2.2.1, fun i hi => (hq i hi).2.2.2⟩
    have := (hq i hi).1
    rwa [add_plain] at this
end Go.Proofs.YteiambniddddpaaDoor
