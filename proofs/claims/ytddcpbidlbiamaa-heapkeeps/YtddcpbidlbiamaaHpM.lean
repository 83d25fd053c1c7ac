import Derived.Test.YtddcpbidlbiamaaHpL
import Derived.Test.YtddcpbidlbiamaaHpI
set_option linter.unusedVariables false
set_option linter.unusedSimpArgs false
namespace Go.Proofs.Ytddcpbidlbiamaa
open Go.ChangeShapes Go.WideShapes Go.ChangeAt Go.RowKit

/-- Set, of both. -/
theorem PS.set {w w1 w2 B S c} (H : PS w B S c) {k : Nat} (hk : k < S.L.length) (i y : Int) (hi0 : 0 ≤ i) (hi1 : i < (S.L[k]).n)
    (hC : CH w1 S.h S.m S.n S.tk (lnOf S.L) (upd S.f ((S.L[k]).a + 1 + i) y) (c + 1)) (hO1 : Only (CF S.h S.m S.n) w w1)
    {x} (hS : Sets w1 w2 B S.r S.tk S.v S.L c k S.L[k] i y x) :
    Goes w w2 B S ⟨S.p, S.h, S.m, S.n, S.r, S.tk, S.v, S.ad, S.L.set k x, upd S.f ((S.L[k]).a + 1 + i) y⟩ (c + 1) := by
  obtain ⟨b1, r1, a1⟩ := H.s1 hO1
  obtain ⟨b2, c2, a2⟩ := ps_s2 b1 hC r1 a1 H.apt hS.o
  have hset : lnOf (S.L.set k x) = lnOf S.L := lnOf_set k hk x hS.a hS.n
  refine ⟨⟨b2, ?_, hS.h, ?_, ?_, H.bas, H.wd.set hk i y hi0 hi1 x hS.a hS.n hS.e hS.v⟩, rfl, ?_, ?_⟩
  · show CH _ S.h S.m S.n S.tk (lnOf (S.L.set k x)) _ _
    rw [hset]
    exact c2
  · have e : (S.L.set k x).map RB.a = S.L.map RB.a := by
      rw [List.map_set]
      exact set_same (by simp [hk, hS.a])
    show OwnI w2 B S.ad (S.L.set k x).length ((S.L.set k x).map RB.a)
    rw [e]
    simpa using a2
  · intro g hg hm
    rcases hS.f g (.inr (.inr hm)) with h | h
    · exact ad_rf r1 a1 H.apt hg h
    · have := (own_block a1.out hg).2
      omega
  · refine (hO1.mono ?_).trans hS.o ?_
    · intro q _ h; exact .inr (.inl h)
    · intro q _ h; exact .inr (.inr (.inl h))
  · rintro q (h | h | h | h)
    · exact .inl (.inl h)
    · exact .inl (.inr (.inl h))
    · rcases hS.f q h with h | h
      · exact .inl (.inr (.inr (.inl h)))
      · exact .inr (Nat.le_trans hO1.size h)
    · exact .inl (.inr (.inr (.inr h)))

/-- A pair at its beginning, from block B on. -/
def SP.new (B : Nat) : SP := ⟨B + 1 + 1 + 1 + 1, B + 1 + 1, B, B + 1, B + 1 + 1 + 1, 0, .slice none 0 0, .slice none 0 0, [], fun _ => 0⟩
theorem made_any (w : World) : Calls Try.prog 11 #[] w fun e w' => e = .returned (.tuple #[.pointer (some ⟨w.heap.size + 1 + 1 + 1 + 1, 0, none⟩), .bool true]) ∧ (∀ B, B ≤ w.heap.size → PS w' B (SP.new w.heap.size) 0) ∧ Below w.heap.size w w' ∧ w.heap.size < w'.heap.size := by
  go_enter Try.func11, Try.ntmps11
  go_wp2_with fail
  refine (new_any _).mono ?_
  rintro e w1 ⟨rfl, hC, hb1, hs1⟩
  go_wp2_with fail
  refine (rnew_any _).mono ?_
  rintro e w2 ⟨rfl, hR, hb2, hs2⟩
  have HS := show Hid (w1.heap.size = w.heap.size + 1 + 1 + 1) from hs1
  rw [hs1] at hR hb2 hs2 ⊢
  go_wp2_with fail
  go_ret2
  have hb2' : Below w.heap.size w w2 := hb1.trans (hb2.mono (by omega))
  refine ⟨?_, fun B hB => ?_, hb2'.alloc (by omega) _, by simp; omega⟩
  · simp [hs2]
  · refine ⟨?_, ?_, ?_, OwnI.nil _ _, fun g hg => by simp [SP.new, Value.ownBlock] at hg, ?_, ⟨rfl, by simp [SP.new], by simp [SP.new], fun _ _ => rfl⟩⟩
    · have := heap_alloc_new w2 (.cells #[.pointer (some ⟨w.heap.size + 1 + 1, 0, none⟩), .pointer (some ⟨w.heap.size + 1 + 1 + 1, 0, none⟩), .slice none 0 0] 50)
      rw [hs2] at this
      exact this
    · exact hC.move fun q hq => by
        have := hC.lt q hq
        have := HS.out
        rw [heap_alloc_old _ _ (by omega)]
        exact hb2.block q (by omega)
    · exact (hR B (by omega)).move fun q hq => heap_alloc_old _ _ ((hR B (by omega)).lt q hq).2
    · simp only [SP.new]; omega
end Go.Proofs.Ytddcpbidlbiamaa
