import Derived.Test.YtjepkcebfojiaaaDoorTrC
set_option linter.unusedVariables false
set_option linter.unusedSimpArgs false
namespace Go.Proofs.YtjepkcebfojiaaaDoor
open Go.ChangeShapes Go.WideShapes Go.ChangeAt Go.RowKit

/-- A node as a value. -/
def nv (n : Nd) (ka : Option Addr) (kc : Nat) : Value := .agg #[.int .i64 n.kind, .int .i64 n.at_, .int .i64 n.wh, .int .i64 n.close, .int .i64 n.decl, .int .i64 n.typ, .int .i64 n.op, .int .i64 n.val, .string (bs n.name), .slice ka n.kids.length kc]

theorem cell_below {w w' : World} {b q K : Nat} {v : Value} (hb : Below K w w') (hK : b < K) (h : w.cell? ⟨b, q, none⟩ = some v) : w'.cell? ⟨b, q, none⟩ = some v := by
  rw [hb.cell (p := ⟨b, q, none⟩) hK]; exact h

end Go.Proofs.YtjepkcebfojiaaaDoor
namespace Go.Proofs.YtjepkcebfojiaaaDoor
open Go.ChangeShapes Go.WideShapes Go.ChangeAt Go.RowKit

structure KF (N : List Nd) (n : Nd) (R : Bool) : Prop where
  out : R = kfit N n
theorem Ints.takeI {w ao c L} (h : Ints w ao c L) (k : Nat) : Ints w ao c (L.take k) :=
  ⟨by have := h.le; simp; omega, h.mx, fun hn => by
    obtain ⟨b, o, e, hA⟩ := h.out (by rintro rfl; simp at hn)
    exact ⟨b, o, e, hA.take k⟩⟩
theorem Ints.dropI {w b o c L} (h : Ints w (some ⟨b, o, none⟩) c L) (k : Nat) : Ints w (some ⟨b, o + k, none⟩) (c - k) (L.drop k) :=
  ⟨by have := h.le; simp; omega, by have := h.mx; omega, fun hn => by
    obtain ⟨b', o', e, hA⟩ := h.out (by rintro rfl; simp at hn)
    cases e
    exact ⟨b, o + k, rfl, hA.drop k⟩⟩
theorem Ints.ofNil {w a c L} (hL : L = []) (h : c ≤ 9223372036854775807) : Ints w a c L := ⟨by simp [hL], h, fun hn => absurd hL hn⟩
theorem mem_take {L : List Int} {k : Nat} {x : Int} (h : x ∈ L.take k) : x ∈ L := List.mem_of_mem_take h
theorem mem_drop {L : List Int} {k : Nat} {x : Int} (h : x ∈ L.drop k) : x ∈ L := List.mem_of_mem_drop h

end Go.Proofs.YtjepkcebfojiaaaDoor
