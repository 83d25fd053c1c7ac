import Derived.Test.YtjegnmbidhpegaaDo
namespace Go.Proofs.Ytjegnmbidhpegaa
open Go.ChangeShapes Go.WideShapes Go.ChangeAt Go.RowKit

theorem alive_any (w : World) : Calls Try.prog 9 #[] w fun e w' => e = .returned (.bool true) ∧ Grown w w' := by
  have n1 : wrap64 (2 + 3) = 5 := by unfold wrap64; decide
  have n2 : wrap64 (-1) = -1 := by unfold wrap64; decide
  have n3 : bits .xor .i64 (-1) 0 = -1 := by decide
  go_enter Try.func9, Try.ntmps9
  go_wp2_with fail
  refine (do_2 _ _ _).mono ?_
  rintro e w1 ⟨rfl, g1⟩
  go_wp2_with fail
  refine (do_17 _ _ _).mono ?_
  rintro e w2 ⟨rfl, g2⟩
  go_wp2_with (first | (go_at_call 11; refine (add_any _ _ _).mono ?_; rintro e w' ⟨rfl, rfl⟩) | (go_at_call 20; refine (inv_any _ _).mono ?_; rintro e w' ⟨rfl, rfl⟩))
  go_ret
  exact ⟨rfl, grown_trans g1 g2⟩
end Go.Proofs.Ytjegnmbidhpegaa
