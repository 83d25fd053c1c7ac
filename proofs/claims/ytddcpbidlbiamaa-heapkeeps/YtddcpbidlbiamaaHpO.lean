import Derived.Test.YtddcpbidlbiamaaHpN
import Derived.Test.YtddcpbidlbiamaaHpJ
set_option linter.unusedVariables false
set_option linter.unusedSimpArgs false
namespace Go.Proofs.Ytddcpbidlbiamaa
open Go.ChangeShapes Go.WideShapes Go.ChangeAt Go.RowKit

theorem rset_yes (w : World) {B r tk v L c} (H : RH w B r tk v L c) (hL : Lay 0 L tk) (hB : B ≤ w.heap.size) (hc : c ≤ 1000000000) (k : Nat) (hk : k < L.length) (he : (L[k]).ks.length = (L[k]).ws.length) (a i y : Int) (ha : (L[k]).a = a) (hi0 : 0 ≤ i) (hi1 : i < (L[k]).n) :
    Calls Try.prog 23 #[.pointer (some ⟨r, 0, none⟩), .int .i64 a, .int .i64 i, .int .i64 y] w fun e w' => e = .returned (.bool true) ∧ ∃ x, Sets w w' B r tk v L c k L[k] i y x := by
  subst ha
  by_cases h : i < 4096
  · obtain ⟨m, rfl⟩ : ∃ m : Nat, i = m := ⟨i.toNat, by omega⟩
    exact rset_near w H hL hB hc k hk he m y hi1 (by omega)
  · exact rset_far w H hL hB hc k hk he i y (by omega) hi1

/-- The pair's box and the call's. -/
structure Bx (w : World) (p h r bo : Nat) (ad : Value) (o : O) : Prop where
  pb : w.heap[p]? = some (.cells #[.pointer (some ⟨h, 0, none⟩), .pointer (some ⟨r, 0, none⟩), ad] 50 (0, 0))
  ob : w.heap[bo]? = some (.cells #[.int .i64 o.k, .int .i64 o.who, .int .i64 o.near, .int .i64 o.a, .int .i64 o.i, .int .i64 o.v] 30 (0, 0))
theorem Bx.cells {w p h r bo ad o} (H : Bx w p h r bo ad o) : w.cell? ⟨p, 0, none⟩ = some (.pointer (some ⟨h, 0, none⟩)) ∧ w.cell? ⟨p, 1, none⟩ = some (.pointer (some ⟨r, 0, none⟩)) ∧ w.cell? ⟨p, 2, none⟩ = some ad ∧
    w.cell? ⟨bo, 0, none⟩ = some (.int .i64 o.k) ∧ w.cell? ⟨bo, 3, none⟩ = some (.int .i64 o.a) ∧ w.cell? ⟨bo, 4, none⟩ = some (.int .i64 o.i) ∧ w.cell? ⟨bo, 5, none⟩ = some (.int .i64 o.v) :=
  ⟨cell_arr (i := 0) H.pb rfl, cell_arr (i := 1) H.pb rfl, cell_arr (i := 2) H.pb rfl, cell_arr (i := 0) H.ob rfl, cell_arr (i := 3) H.ob rfl, cell_arr (i := 4) H.ob rfl, cell_arr (i := 5) H.ob rfl⟩
theorem Bx.first {w w1 B S c o} (H : PS w B S c) (hb : Below (w.alloc (.cells #[.int .i64 o.k, .int .i64 o.who, .int .i64 o.near, .int .i64 o.a, .int .i64 o.i, .int .i64 o.v] 30)).heap.size (w.alloc (.cells #[.int .i64 o.k, .int .i64 o.who, .int .i64 o.near, .int .i64 o.a, .int .i64 o.i, .int .i64 o.v] 30)) w1) : PS w1 B S c ∧ Bx w1 S.p S.h S.r w.heap.size S.ad o ∧ Below w.heap.size w w1 := by
  have hb' : Below w.heap.size w w1 := ((Below.refl _ _).alloc (Nat.le_refl _) _).trans (hb.mono (by simp))
  have h1 := H.keep hb'
  exact ⟨h1, ⟨h1.box, (hb.block _ (by simp)).trans (heap_alloc_new _ _)⟩, hb'⟩

end Go.Proofs.Ytddcpbidlbiamaa
