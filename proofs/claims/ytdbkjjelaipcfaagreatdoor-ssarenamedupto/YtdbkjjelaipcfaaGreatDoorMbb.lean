import Derived.Test.YtdbkjjelaipcfaaGreatDoorMay
import Derived.Test.YtdbkjjelaipcfaaGreatDoorMba
set_option linter.unusedVariables false
set_option linter.unusedSimpArgs false
namespace Go.Proofs.YtdbkjjelaipcfaaGreatDoor
open Go.ChangeShapes Go.WideShapes Go.ChangeAt Go.RowKit Go.Maps
structure TB (W X : World) (P Q : Nat) (z : Obj) : Prop where
 bel : Below W.heap.size W X
 kf : X.heap[P]? = some z
 kg : X.heap[Q]? = some z
 ne : Q ≠ P
 hp : W.heap.size <= P
 hq : W.heap.size <= Q
theorem TB.of (W : World) (z : Obj) : TB W ((W.alloc z).drew.alloc z) W.heap.size (W.alloc z).drew.heap.size z := by
 have h : (W.alloc z).drew.heap.size = W.heap.size + 1 := by simp
 refine ⟨(below_new _ _).drew.alloc (by omega) _, ?_, heap_alloc_new _ _, by omega, by omega, by omega⟩
 rw [heap_alloc_old _ _ (by omega)]
 exact heap_alloc_new W z
theorem led_l {P : Program} {ops : Array Oper} {Q : Exit -> Act -> World -> Prop} {S : World -> Prop} {z k : Nat} {l l' : Array Bool} {a : Act} {w : World} (h : l = l') (g : led P ops Q S z k l' a w) : led P ops Q S z k l a w := h ▸ g
theorem led_startS {P : Program} {id : Nat} {ops : Array Oper} {Q : Exit -> Act -> World -> Prop} {S : World -> Prop} {W w : World} {B z : Nat} {a : Act} (hS : ∀ w', Below B W w' -> S w') (hm : P.follows .mixedOrders = true) (h : led P ops Q S z ops.size (Array.replicate ops.size false) a w.drew) : (Code.region id ops true).wp P Q a w := led_start hm h
end Go.Proofs.YtdbkjjelaipcfaaGreatDoor
