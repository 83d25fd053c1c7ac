import Derived.Test.YtdbkjjelaipcfaaDoorSuP
set_option linter.unusedVariables false
set_option linter.unusedSimpArgs false
namespace Go.Proofs.YtdbkjjelaipcfaaDoor
open Go.ChangeShapes Go.WideShapes Go.ChangeAt Go.RowKit Go.Maps

/-- The first fault of a function. -/
def faultP (FS : List Fu) (f : Fu) : Int := if predsP f = false then 91 else if reachedP f = false then 92 else if phisP f = false then 93 else if onceP f = false then 94 else if typesP FS f = false then 95 else if usesP f = false then 96 else 0
set_option maxRecDepth 100000 in
set_option maxHeartbeats 4000000 in
theorem fault_any (w : World) {s : ByteArray} {pa : Option Addr} {pn pc : Nat} {r : Int} {va : Option Addr} {vn vc : Nat} {ba : Option Addr} {bn bc : Nat} {fa : Option Addr} {fn fc : Nat} {f : Fu} {FS : List Fu} (C : Ctx w s pa pn pc r va vn vc ba bn bc fa fn fc f FS) (hfs : ∀ G ∈ FS, formP FS G = true) (hform : formP FS f = true) (hbn : bn ≤ 1000000) (hbulk : totK f f.blks.length ≤ 1000000000) :
    Calls Tryd.prog 9 #[.agg #[.string s, .slice pa pn pc, .int .i64 r, .slice va vn vc, .slice ba bn bc, .slice fa fn fc]] w fun e w' => e = .returned (.int .i64 (faultP FS f)) ∧ Below w.heap.size w w' := by
  have A0 : Af1 w (.cells #[.string s, .slice pa pn pc, .int .i64 r, .slice va vn vc, .slice ba bn bc, .slice fa fn fc] 47) (w.alloc (.cells #[.string s, .slice pa pn pc, .int .i64 r, .slice va vn vc, .slice ba bn bc, .slice fa fn fc] 47)) := Af1.refl _ _
  have H0 : Hid (∀ W, Af1 w (.cells #[.string s, .slice pa pn pc, .int .i64 r, .slice va vn vc, .slice ba bn bc, .slice fa fn fc] 47) W → ∀ T, predsP f = T → Calls Tryd.prog 16 #[.agg #[.string s, .slice pa pn pc, .int .i64 r, .slice va vn vc, .slice ba bn bc, .slice fa fn fc]] W fun e w' => e = .returned (.bool T) ∧ Below W.heap.size W w') := fun W h T hT => by
    subst hT
    exact predsFit_any W (C.below h.low (Nat.le_refl _)) hform hbn
  have H1 : Hid (∀ W, Af1 w (.cells #[.string s, .slice pa pn pc, .int .i64 r, .slice va vn vc, .slice ba bn bc, .slice fa fn fc] 47) W → ∀ T, reachedP f = T → Calls Tryd.prog 17 #[.agg #[.string s, .slice pa pn pc, .int .i64 r, .slice va vn vc, .slice ba bn bc, .slice fa fn fc]] W fun e w' => e = .returned (.bool T) ∧ Below W.heap.size W w') := fun W h T hT => by
    subst hT
    exact allReached_any W (C.below h.low (Nat.le_refl _)) (by omega)
  have H2 : Hid (∀ W, Af1 w (.cells #[.string s, .slice pa pn pc, .int .i64 r, .slice va vn vc, .slice ba bn bc, .slice fa fn fc] 47) W → ∀ T, phisP f = T → Calls Tryd.prog 18 #[.agg #[.string s, .slice pa pn pc, .int .i64 r, .slice va vn vc, .slice ba bn bc, .slice fa fn fc]] W fun e w' => e = .returned (.bool T) ∧ Below W.heap.size W w') := fun W h T hT => by
    subst hT
    exact phisFit_any W (C.below h.low (Nat.le_refl _)) hform
  have H3 : Hid (∀ W, Af1 w (.cells #[.string s, .slice pa pn pc, .int .i64 r, .slice va vn vc, .slice ba bn bc, .slice fa fn fc] 47) W → ∀ T, onceP f = T → Calls Tryd.prog 19 #[.agg #[.string s, .slice pa pn pc, .int .i64 r, .slice va vn vc, .slice ba bn bc, .slice fa fn fc]] W fun e w' => e = .returned (.bool T) ∧ Below W.heap.size W w') := fun W h T hT => by
    subst hT
    exact eachOnce_any W (C.below h.low (Nat.le_refl _)) hform hbulk
  have H4 : Hid (∀ W, Af1 w (.cells #[.string s, .slice pa pn pc, .int .i64 r, .slice va vn vc, .slice ba bn bc, .slice fa fn fc] 47) W → ∀ T, typesP FS f = T → Calls Tryd.prog 20 #[.agg #[.string s, .slice pa pn pc, .int .i64 r, .slice va vn vc, .slice ba bn bc, .slice fa fn fc]] W fun e w' => e = .returned (.bool T) ∧ Below W.heap.size W w') := fun W h T hT => by
    subst hT
    exact typesFit_any W (C.below h.low (Nat.le_refl _)) hfs hform
  have H5 : Hid (∀ W, Af1 w (.cells #[.string s, .slice pa pn pc, .int .i64 r, .slice va vn vc, .slice ba bn bc, .slice fa fn fc] 47) W → phisP f = true → reachedP f = true → ∀ T, usesP f = T → Calls Tryd.prog 21 #[.agg #[.string s, .slice pa pn pc, .int .i64 r, .slice va vn vc, .slice ba bn bc, .slice fa fn fc]] W fun e w' => e = .returned (.bool T) ∧ Below W.heap.size W w') := fun W h hph hre T hT => by
    subst hT
    exact usesFit_any W (C.below h.low (Nat.le_refl _)) hform hph hre hbn
  unfold faultP
  clear C hfs hform hbn hbulk
  cases q0 : predsP f with
  | false =>
    go_enter Tryd.func9, Tryd.ntmps9
    go_wp2_with (first
      | (go_at_call 16; refine (H0.out _ A0 _ q0).mono ?_; rintro e w0 ⟨rfl, hb0⟩; have A1 := A0.next hb0; obtain ⟨y0, y1, y2, y3, y4, y5⟩ := fcells A1.one))
    go_ret
    exact ⟨by simp, A1.low⟩
  | true =>
  cases q1 : reachedP f with
  | false =>
    go_enter Tryd.func9, Tryd.ntmps9
    go_wp2_with (first
      | (go_at_call 17; refine (H1.out _ A1 _ q1).mono ?_; rintro e w1 ⟨rfl, hb1⟩; have A2 := A1.next hb1; obtain ⟨y0, y1, y2, y3, y4, y5⟩ := fcells A2.one)
      | (go_at_call 16; refine (H0.out _ A0 _ q0).mono ?_; rintro e w0 ⟨rfl, hb0⟩; have A1 := A0.next hb0; obtain ⟨y0, y1, y2, y3, y4, y5⟩ := fcells A1.one))
    go_ret
    exact ⟨by simp, A2.low⟩
  | true =>
  cases q2 : phisP f with
  | false =>
    go_enter Tryd.func9, Tryd.ntmps9
    go_wp2_with (first
      | (go_at_call 18; refine (H2.out _ A2 _ q2).mono ?_; rintro e w2 ⟨rfl, hb2⟩; have A3 := A2.next hb2; obtain ⟨y0, y1, y2, y3, y4, y5⟩ := fcells A3.one)
      | (go_at_call 17; refine (H1.out _ A1 _ q1).mono ?_; rintro e w1 ⟨rfl, hb1⟩; have A2 := A1.next hb1; obtain ⟨y0, y1, y2, y3, y4, y5⟩ := fcells A2.one)
      | (go_at_call 16; refine (H0.out _ A0 _ q0).mono ?_; rintro e w0 ⟨rfl, hb0⟩; have A1 := A0.next hb0; obtain ⟨y0, y1, y2, y3, y4, y5⟩ := fcells A1.one))
    go_ret
    exact ⟨by simp, A3.low⟩
  | true =>
  cases q3 : onceP f with
  | false =>
    go_enter Tryd.func9, Tryd.ntmps9
    go_wp2_with (first
      | (go_at_call 19; refine (H3.out _ A3 _ q3).mono ?_; rintro e w3 ⟨rfl, hb3⟩; have A4 := A3.next hb3; obtain ⟨y0, y1, y2, y3, y4, y5⟩ := fcells A4.one)
      | (go_at_call 18; refine (H2.out _ A2 _ q2).mono ?_; rintro e w2 ⟨rfl, hb2⟩; have A3 := A2.next hb2; obtain ⟨y0, y1, y2, y3, y4, y5⟩ := fcells A3.one)
      | (go_at_call 17; refine (H1.out _ A1 _ q1).mono ?_; rintro e w1 ⟨rfl, hb1⟩; have A2 := A1.next hb1; obtain ⟨y0, y1, y2, y3, y4, y5⟩ := fcells A2.one)
      | (go_at_call 16; refine (H0.out _ A0 _ q0).mono ?_; rintro e w0 ⟨rfl, hb0⟩; have A1 := A0.next hb0; obtain ⟨y0, y1, y2, y3, y4, y5⟩ := fcells A1.one))
    go_ret
    exact ⟨by simp, A4.low⟩
  | true =>
  cases q4 : typesP FS f with
  | false =>
    go_enter Tryd.func9, Tryd.ntmps9
    go_wp2_with (first
      | (go_at_call 20; refine (H4.out _ A4 _ q4).mono ?_; rintro e w4 ⟨rfl, hb4⟩; have A5 := A4.next hb4; obtain ⟨y0, y1, y2, y3, y4, y5⟩ := fcells A5.one)
      | (go_at_call 19; refine (H3.out _ A3 _ q3).mono ?_; rintro e w3 ⟨rfl, hb3⟩; have A4 := A3.next hb3; obtain ⟨y0, y1, y2, y3, y4, y5⟩ := fcells A4.one)
      | (go_at_call 18; refine (H2.out _ A2 _ q2).mono ?_; rintro e w2 ⟨rfl, hb2⟩; have A3 := A2.next hb2; obtain ⟨y0, y1, y2, y3, y4, y5⟩ := fcells A3.one)
      | (go_at_call 17; refine (H1.out _ A1 _ q1).mono ?_; rintro e w1 ⟨rfl, hb1⟩; have A2 := A1.next hb1; obtain ⟨y0, y1, y2, y3, y4, y5⟩ := fcells A2.one)
      | (go_at_call 16; refine (H0.out _ A0 _ q0).mono ?_; rintro e w0 ⟨rfl, hb0⟩; have A1 := A0.next hb0; obtain ⟨y0, y1, y2, y3, y4, y5⟩ := fcells A1.one))
    go_ret
    exact ⟨by simp, A5.low⟩
  | true =>
  cases q5 : usesP f with
  | false =>
    go_enter Tryd.func9, Tryd.ntmps9
    go_wp2_with (first
      | (go_at_call 21; refine (H5.out _ A5 q2 q1 _ q5).mono ?_; rintro e w5 ⟨rfl, hb5⟩; have A6 := A5.next hb5; obtain ⟨y0, y1, y2, y3, y4, y5⟩ := fcells A6.one)
      | (go_at_call 20; refine (H4.out _ A4 _ q4).mono ?_; rintro e w4 ⟨rfl, hb4⟩; have A5 := A4.next hb4; obtain ⟨y0, y1, y2, y3, y4, y5⟩ := fcells A5.one)
      | (go_at_call 19; refine (H3.out _ A3 _ q3).mono ?_; rintro e w3 ⟨rfl, hb3⟩; have A4 := A3.next hb3; obtain ⟨y0, y1, y2, y3, y4, y5⟩ := fcells A4.one)
      | (go_at_call 18; refine (H2.out _ A2 _ q2).mono ?_; rintro e w2 ⟨rfl, hb2⟩; have A3 := A2.next hb2; obtain ⟨y0, y1, y2, y3, y4, y5⟩ := fcells A3.one)
      | (go_at_call 17; refine (H1.out _ A1 _ q1).mono ?_; rintro e w1 ⟨rfl, hb1⟩; have A2 := A1.next hb1; obtain ⟨y0, y1, y2, y3, y4, y5⟩ := fcells A2.one)
      | (go_at_call 16; refine (H0.out _ A0 _ q0).mono ?_; rintro e w0 ⟨rfl, hb0⟩; have A1 := A0.next hb0; obtain ⟨y0, y1, y2, y3, y4, y5⟩ := fcells A1.one))
    go_ret
    exact ⟨by simp, A6.low⟩
  | true =>
  go_enter Tryd.func9, Tryd.ntmps9
  go_wp2_with (first
    | (go_at_call 21; refine (H5.out _ A5 q2 q1 _ q5).mono ?_; rintro e w5 ⟨rfl, hb5⟩; have A6 := A5.next hb5; obtain ⟨y0, y1, y2, y3, y4, y5⟩ := fcells A6.one)
    | (go_at_call 20; refine (H4.out _ A4 _ q4).mono ?_; rintro e w4 ⟨rfl, hb4⟩; have A5 := A4.next hb4; obtain ⟨y0, y1, y2, y3, y4, y5⟩ := fcells A5.one)
    | (go_at_call 19; refine (H3.out _ A3 _ q3).mono ?_; rintro e w3 ⟨rfl, hb3⟩; have A4 := A3.next hb3; obtain ⟨y0, y1, y2, y3, y4, y5⟩ := fcells A4.one)
    | (go_at_call 18; refine (H2.out _ A2 _ q2).mono ?_; rintro e w2 ⟨rfl, hb2⟩; have A3 := A2.next hb2; obtain ⟨y0, y1, y2, y3, y4, y5⟩ := fcells A3.one)
    | (go_at_call 17; refine (H1.out _ A1 _ q1).mono ?_; rintro e w1 ⟨rfl, hb1⟩; have A2 := A1.next hb1; obtain ⟨y0, y1, y2, y3, y4, y5⟩ := fcells A2.one)
    | (go_at_call 16; refine (H0.out _ A0 _ q0).mono ?_; rintro e w0 ⟨rfl, hb0⟩; have A1 := A0.next hb0; obtain ⟨y0, y1, y2, y3, y4, y5⟩ := fcells A1.one))
  go_ret
  exact ⟨by simp, A6.low⟩
end Go.Proofs.YtdbkjjelaipcfaaDoor
