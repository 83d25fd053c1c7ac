import Derived.Test.YtmddjfofedpggaaDoorLxV
import Derived.SizedLaws
set_option linter.unusedVariables false
namespace Go.Proofs.YtmddjfofedpggaaDoor
open Go.ChangeShapes Go.WideShapes Go.ChangeAt Go.RowKit

theorem bytes_heavy {H : Type} {enc : TypeId × Value → H} {W : World} {fuel : Nat} {ao : Option Addr} {len cap : Nat} {x : DataW H × List MemPlace} (h : DataW.trod enc Tryd.prog W 0 (fun _ => true) true fuel 22 [.slice ao len cap] = some x) (hl : 0 < len)
    (hw : ∀ n ∈ x.1.weights Tryd.prog 22, n ≤ reachBytes) : len ≤ 140737488351232 := by
  rcases Deep.open_slice Tryd.underlying22 h with ⟨h0, _⟩ | ⟨a, len', cap', m, n, D, Pl, e, _, _, _, _, rfl, _⟩
  · cases h0; omega
  · simp at e
    obtain ⟨rfl, rfl, rfl⟩ := e
    have b5 : Tryd.prog.bytesOf 5 = 1 := by kernel_rfl
    have := hw (((List.range len).map D).length * 1 + (m - len) * 1) (by simp [DataW.weights, Tryd.underlying22, b5])
    simp [reachBytes] at this
    omega

theorem bytes_reach {H : Type} {enc : TypeId × Value → H} {W : World} {fuel : Nat} {ao : Option Addr} {len cap : Nat} {x : DataW H × List MemPlace} (h : DataW.trod enc Tryd.prog W 0 (fun _ => true) true fuel 22 [.slice ao len cap] = some x)
    (hw : ∀ n ∈ x.1.weights Tryd.prog 22, n ≤ reachBytes) : len ≤ 140737488351232 := by
  rcases Nat.eq_zero_or_pos len with h0 | h0
  · omega
  · exact bytes_heavy h h0 hw
end Go.Proofs.YtmddjfofedpggaaDoor
