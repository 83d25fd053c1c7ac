import Derived.Test.YtjiaedckecfjbaaDoorVfK
set_option linter.unusedVariables false
set_option linter.unusedSimpArgs false
namespace Go.Proofs.YtjiaedckecfjbaaDoor
open Go.ChangeShapes Go.WideShapes Go.ChangeAt Go.RowKit Go.Maps

/-- The bytes of the mark. -/
def mkB : List Int := [113, 114, 49, 54]
/-- The mark is read: where it ends, or the place of the fault. -/
def rdMk (B : List Int) : List Int → Nat → Except Nat Nat
  | [], next => .ok next
  | m :: L, next => match rdN B 1 m m next with
    | .error p => .error p
    | .ok _ => rdMk B L (next + 1)
/-- What a method of the reader answers that only moves. -/
structure MovP (w0 w w' : World) (rb : Nat) (ao : Option Addr) (n cap : Nat) (B : List Int) (r : Except Nat Nat) (e : Ending) : Prop where
  ok : ∀ q, r = .ok q → e = .returned (.tuple #[]) ∧ Rd w0 w' rb ao n cap B q ∧ Only (fun q => q = rb) w w'
  bad : ∀ p, r = .error p → e = thrC (p : Int)
  low : Below w0.heap.size w0 w'
theorem rNumber_ok {w0 w : World} {rb : Nat} {ao : Option Addr} {n cap next : Nat} {B : List Int} (h : Rd w0 w rb ao n cap B next) (k : Nat) (hk : 1 ≤ k ∧ k ≤ 8) (least most v : Int) (hv : rdN B k least most next = .ok v) :
    Calls Tryd.prog 29 #[.pointer (some ⟨rb, 0, none⟩), .int .i64 (k : Int), .int .i64 least, .int .i64 most] w fun e w' => e = .returned (.int .i64 v) ∧ Rd w0 w' rb ao n cap B (next + k) ∧ Only (fun q => q = rb) w w' :=
  (rNumber_any h k hk least most).mono fun e w' q => ⟨(q.ok v hv).1, (q.ok v hv).2, q.on⟩
theorem rNumber_bad {w0 w : World} {rb : Nat} {ao : Option Addr} {n cap next : Nat} {B : List Int} (h : Rd w0 w rb ao n cap B next) (k : Nat) (hk : 1 ≤ k ∧ k ≤ 8) (least most : Int) (p : Nat) (hv : rdN B k least most next = .error p) :
    Calls Tryd.prog 29 #[.pointer (some ⟨rb, 0, none⟩), .int .i64 (k : Int), .int .i64 least, .int .i64 most] w fun e w' => e = thrC (p : Int) ∧ Below w0.heap.size w0 w' :=
  (rNumber_any h k hk least most).mono fun e w' q => ⟨q.bad p hv, q.low⟩
theorem rdMk_ok (B : List Int) (m : Int) (L : List Int) (next : Nat) (u : Int) (h : rdN B 1 m m next = .ok u) : rdMk B (m :: L) next = rdMk B L (next + 1) := by
  simp only [rdMk, h]
theorem rdMk_bad (B : List Int) (m : Int) (L : List Int) (next p : Nat) (h : rdN B 1 m m next = .error p) : rdMk B (m :: L) next = .error p := by
  simp only [rdMk, h]
set_option maxRecDepth 100000 in
set_option maxHeartbeats 4000000 in
theorem rMark_any {w0 w : World} {rb : Nat} {ao : Option Addr} {n cap next : Nat} {B : List Int} (h : Rd w0 w rb ao n cap B next) :
    Calls Tryd.prog 28 #[.pointer (some ⟨rb, 0, none⟩)] w fun e w' => MovP w0 w w' rb ao n cap B (rdMk B mkB next) e := by
  have HR : Hid _ := h
  clear h
  go_enter Tryd.func28, Tryd.ntmps28
  go_wp2_with fail
  go_loopw [2, 3] (fun v2 v3 wr => ∃ i : Nat, i ≤ 4 ∧ v3 = .int .i64 (i : Int) ∧ Hid (Rd w0 wr rb ao n cap B (next + i) ∧ Only (fun q => q = rb) w wr) ∧ Hid (rdMk B mkB next = rdMk B (mkB.drop i) (next + i))) (fun v2 v3 _ => 4 - (intOf v3).toNat)
  case atStart => exact ⟨0, by omega, rfl, ⟨HR.out, Only.refl _ _⟩, rfl⟩
  case round =>
    clear HR
    obtain ⟨i, hi, rfl, HW, HE⟩ := hrel
    by_cases hlt : i < 4
    · have hi : i = 0 ∨ i = 1 ∨ i = 2 ∨ i = 3 := by omega
      rcases hi with rfl | rfl | rfl | rfl
      · cases hr : rdN B 1 113 113 (next + 0) with
        | ok u =>
          have HC : Hid (Calls Tryd.prog 29 #[.pointer (some ⟨rb, 0, none⟩), .int .i64 1, .int .i64 113, .int .i64 113] wr.drew fun e w' => e = .returned (.int .i64 u) ∧ Rd w0 w' rb ao n cap B (next + 1) ∧ Only (fun q => q = rb) wr.drew w') := rNumber_ok (HW.out.1.keep (Below.refl _ _).drew) 1 (by omega) 113 113 u hr
          have HN : Hid (rdMk B mkB next = rdMk B (mkB.drop 1) (next + 1)) := by
            show _ = _
            rw [HE.out]
            exact rdMk_ok _ _ _ _ _ hr
          have Sz : True := trivial
          clear hr HE hlt
          go_upto_region 3 with fail
          refine lec_start (S := (fun _ => True)) (z := 7) (by kernel_rfl) ?_
          show lec _ _ _ _ _ 8 _ _ _
          try simp only [List.size_toArray, List.length_cons, List.length_nil, Array.replicate]
          refine lec_takeP (i := 0) (v := ?v00y) rfl (by kernel_rfl) (by kernel_rfl) (by kernel_rfl) (by kernel_rfl) (fun _ _ _ h => h) (.inl ⟨by rfl, ?hy00y⟩) Sz ?rest00y
          case hy00y =>
            rintro w' _
            go_simp
            all_goals with_reducible rfl
          try simp only [Act.put, List.getElem_toArray, List.getElem_cons_succ, List.getElem_cons_zero, List.setIfInBounds_toArray, List.set_cons_zero, List.set_cons_succ]
          refine lec_takeP (i := 1) (v := ?v10y) rfl (by kernel_rfl) (by kernel_rfl) (by kernel_rfl) (by kernel_rfl) (fun _ _ _ h => h) (.inl ⟨by rfl, ?hy10y⟩) Sz ?rest10y
          case hy10y =>
            rintro w' _
            go_simp
            all_goals with_reducible rfl
          try simp only [Act.put, List.getElem_toArray, List.getElem_cons_succ, List.getElem_cons_zero, List.setIfInBounds_toArray, List.set_cons_zero, List.set_cons_succ]
          refine lec_takeP (i := 2) (v := ?v20y) rfl (by kernel_rfl) (by kernel_rfl) (by kernel_rfl) (by kernel_rfl) (fun _ _ _ h => h) (.inl ⟨by rfl, ?hy20y⟩) Sz ?rest20y
          case hy20y =>
            rintro w' _
            go_simp
            all_goals with_reducible rfl
          try simp only [Act.put, List.getElem_toArray, List.getElem_cons_succ, List.getElem_cons_zero, List.setIfInBounds_toArray, List.set_cons_zero, List.set_cons_succ]
          refine lec_takeP (i := 3) (v := ?v30y) rfl (by kernel_rfl) (by kernel_rfl) (by kernel_rfl) (by kernel_rfl) (fun _ _ _ h => h) (.inl ⟨by rfl, ?hy30y⟩) Sz ?rest30y
          case hy30y =>
            rintro w' _
            go_simp
            all_goals with_reducible rfl
          try simp only [Act.put, List.getElem_toArray, List.getElem_cons_succ, List.getElem_cons_zero, List.setIfInBounds_toArray, List.set_cons_zero, List.set_cons_succ]
          refine lec_takeP (i := 4) (v := ?v40y) rfl (by kernel_rfl) (by kernel_rfl) (by kernel_rfl) (by kernel_rfl) (fun _ _ _ h => h) (.inl ⟨by rfl, ?hy40y⟩) Sz ?rest40y
          case hy40y =>
            rintro w' _
            go_simp
            all_goals with_reducible rfl
          try simp only [Act.put, List.getElem_toArray, List.getElem_cons_succ, List.getElem_cons_zero, List.setIfInBounds_toArray, List.set_cons_zero, List.set_cons_succ]
          refine lec_takeP (i := 5) (v := ?v50y) rfl (by kernel_rfl) (by kernel_rfl) (by kernel_rfl) (by kernel_rfl) (fun _ _ _ h => h) (.inl ⟨by rfl, ?hy50y⟩) Sz ?rest50y
          case hy50y =>
            rintro w' _
            go_simp
            all_goals with_reducible rfl
          try simp only [Act.put, List.getElem_toArray, List.getElem_cons_succ, List.getElem_cons_zero, List.setIfInBounds_toArray, List.set_cons_zero, List.set_cons_succ]
          refine lec_takeP (i := 6) (v := ?v60y) rfl (by kernel_rfl) (by kernel_rfl) (by kernel_rfl) (by kernel_rfl) (fun _ _ _ h => h) (.inl ⟨by rfl, ?hy60y⟩) Sz ?rest60y
          case hy60y =>
            rintro w' _
            go_simp
            all_goals with_reducible rfl
          try simp only [Act.put, List.getElem_toArray, List.getElem_cons_succ, List.getElem_cons_zero, List.setIfInBounds_toArray, List.set_cons_zero, List.set_cons_succ]
          refine lec_one (i := 7) rfl (by kernel_rfl) ?_
          intro K7 hK7
          rw [if_pos (by rfl)]
          go_simp
          refine (HC.out).mono ?_
          rintro e wX ⟨rfl, bX⟩
          go_simp
          have HX : Hid (Rd w0 wX rb ao n cap B (next + 1) ∧ Only (fun q => q = rb) w wX) := ⟨bX.1, HW.out.2.trans ((Only.of_below (Below.refl _ _).drew (fun q => q = rb)).trans bX.2 fun _ _ e => e) fun _ _ e => e⟩
          clear bX HC
          refine hK7 _ _ (fun _ => trivial) ?_
          clear hK7
          try simp only [Act.put, List.getElem_toArray, List.getElem_cons_succ, List.getElem_cons_zero, List.setIfInBounds_toArray, List.set_cons_zero, List.set_cons_succ]
          refine lec_done (by kernel_rfl) ?_
          go_wp2_with fail
          exact ⟨⟨1, by omega, rfl, HX, HN⟩, by simp [intOf]⟩
        | error p =>
          have HC : Hid (Calls Tryd.prog 29 #[.pointer (some ⟨rb, 0, none⟩), .int .i64 1, .int .i64 113, .int .i64 113] wr.drew fun e w' => e = thrC (p : Int) ∧ Below w0.heap.size w0 w') := rNumber_bad (HW.out.1.keep (Below.refl _ _).drew) 1 (by omega) 113 113 p hr
          have HE2 : Hid (∀ {w'}, Below w0.heap.size w0 w' → MovP w0 w w' rb ao n cap B (rdMk B mkB next) (thrC (p : Int))) := fun bX => by
            have e : rdMk B mkB next = .error p := HE.out.trans (rdMk_bad _ _ _ _ _ hr)
            rw [e]
            exact ⟨fun q hq => (by cases hq), fun q hq => (by cases hq; rfl), bX⟩
          have Sz : True := trivial
          clear hr HE hlt
          go_upto_region 3 with fail
          refine lec_start (S := (fun _ => True)) (z := 7) (by kernel_rfl) ?_
          show lec _ _ _ _ _ 8 _ _ _
          try simp only [List.size_toArray, List.length_cons, List.length_nil, Array.replicate]
          refine lec_takeP (i := 0) (v := ?v00n) rfl (by kernel_rfl) (by kernel_rfl) (by kernel_rfl) (by kernel_rfl) (fun _ _ _ h => h) (.inl ⟨by rfl, ?hy00n⟩) Sz ?rest00n
          case hy00n =>
            rintro w' _
            go_simp
            all_goals with_reducible rfl
          try simp only [Act.put, List.getElem_toArray, List.getElem_cons_succ, List.getElem_cons_zero, List.setIfInBounds_toArray, List.set_cons_zero, List.set_cons_succ]
          refine lec_takeP (i := 1) (v := ?v10n) rfl (by kernel_rfl) (by kernel_rfl) (by kernel_rfl) (by kernel_rfl) (fun _ _ _ h => h) (.inl ⟨by rfl, ?hy10n⟩) Sz ?rest10n
          case hy10n =>
            rintro w' _
            go_simp
            all_goals with_reducible rfl
          try simp only [Act.put, List.getElem_toArray, List.getElem_cons_succ, List.getElem_cons_zero, List.setIfInBounds_toArray, List.set_cons_zero, List.set_cons_succ]
          refine lec_takeP (i := 2) (v := ?v20n) rfl (by kernel_rfl) (by kernel_rfl) (by kernel_rfl) (by kernel_rfl) (fun _ _ _ h => h) (.inl ⟨by rfl, ?hy20n⟩) Sz ?rest20n
          case hy20n =>
            rintro w' _
            go_simp
            all_goals with_reducible rfl
          try simp only [Act.put, List.getElem_toArray, List.getElem_cons_succ, List.getElem_cons_zero, List.setIfInBounds_toArray, List.set_cons_zero, List.set_cons_succ]
          refine lec_takeP (i := 3) (v := ?v30n) rfl (by kernel_rfl) (by kernel_rfl) (by kernel_rfl) (by kernel_rfl) (fun _ _ _ h => h) (.inl ⟨by rfl, ?hy30n⟩) Sz ?rest30n
          case hy30n =>
            rintro w' _
            go_simp
            all_goals with_reducible rfl
          try simp only [Act.put, List.getElem_toArray, List.getElem_cons_succ, List.getElem_cons_zero, List.setIfInBounds_toArray, List.set_cons_zero, List.set_cons_succ]
          refine lec_takeP (i := 4) (v := ?v40n) rfl (by kernel_rfl) (by kernel_rfl) (by kernel_rfl) (by kernel_rfl) (fun _ _ _ h => h) (.inl ⟨by rfl, ?hy40n⟩) Sz ?rest40n
          case hy40n =>
            rintro w' _
            go_simp
            all_goals with_reducible rfl
          try simp only [Act.put, List.getElem_toArray, List.getElem_cons_succ, List.getElem_cons_zero, List.setIfInBounds_toArray, List.set_cons_zero, List.set_cons_succ]
          refine lec_takeP (i := 5) (v := ?v50n) rfl (by kernel_rfl) (by kernel_rfl) (by kernel_rfl) (by kernel_rfl) (fun _ _ _ h => h) (.inl ⟨by rfl, ?hy50n⟩) Sz ?rest50n
          case hy50n =>
            rintro w' _
            go_simp
            all_goals with_reducible rfl
          try simp only [Act.put, List.getElem_toArray, List.getElem_cons_succ, List.getElem_cons_zero, List.setIfInBounds_toArray, List.set_cons_zero, List.set_cons_succ]
          refine lec_takeP (i := 6) (v := ?v60n) rfl (by kernel_rfl) (by kernel_rfl) (by kernel_rfl) (by kernel_rfl) (fun _ _ _ h => h) (.inl ⟨by rfl, ?hy60n⟩) Sz ?rest60n
          case hy60n =>
            rintro w' _
            go_simp
            all_goals with_reducible rfl
          try simp only [Act.put, List.getElem_toArray, List.getElem_cons_succ, List.getElem_cons_zero, List.setIfInBounds_toArray, List.set_cons_zero, List.set_cons_succ]
          refine lec_one (i := 7) rfl (by kernel_rfl) ?_
          intro K7 hK7
          rw [if_pos (by rfl)]
          go_simp
          refine (HC.out).mono ?_
          rintro e wX ⟨rfl, bX⟩
          unfold thrC
          go_simp
          exact ⟨rfl, HE2.out bX⟩
      · cases hr : rdN B 1 114 114 (next + 1) with
        | ok u =>
          have HC : Hid (Calls Tryd.prog 29 #[.pointer (some ⟨rb, 0, none⟩), .int .i64 1, .int .i64 114, .int .i64 114] wr.drew fun e w' => e = .returned (.int .i64 u) ∧ Rd w0 w' rb ao n cap B (next + 2) ∧ Only (fun q => q = rb) wr.drew w') := rNumber_ok (HW.out.1.keep (Below.refl _ _).drew) 1 (by omega) 114 114 u hr
          have HN : Hid (rdMk B mkB next = rdMk B (mkB.drop 2) (next + 2)) := by
            show _ = _
            rw [HE.out]
            exact rdMk_ok _ _ _ _ _ hr
          have Sz : True := trivial
          clear hr HE hlt
          go_upto_region 3 with fail
          refine lec_start (S := (fun _ => True)) (z := 7) (by kernel_rfl) ?_
          show lec _ _ _ _ _ 8 _ _ _
          try simp only [List.size_toArray, List.length_cons, List.length_nil, Array.replicate]
          refine lec_takeP (i := 0) (v := ?v01y) rfl (by kernel_rfl) (by kernel_rfl) (by kernel_rfl) (by kernel_rfl) (fun _ _ _ h => h) (.inl ⟨by rfl, ?hy01y⟩) Sz ?rest01y
          case hy01y =>
            rintro w' _
            go_simp
            all_goals with_reducible rfl
          try simp only [Act.put, List.getElem_toArray, List.getElem_cons_succ, List.getElem_cons_zero, List.setIfInBounds_toArray, List.set_cons_zero, List.set_cons_succ]
          refine lec_takeP (i := 1) (v := ?v11y) rfl (by kernel_rfl) (by kernel_rfl) (by kernel_rfl) (by kernel_rfl) (fun _ _ _ h => h) (.inl ⟨by rfl, ?hy11y⟩) Sz ?rest11y
          case hy11y =>
            rintro w' _
            go_simp
            all_goals with_reducible rfl
          try simp only [Act.put, List.getElem_toArray, List.getElem_cons_succ, List.getElem_cons_zero, List.setIfInBounds_toArray, List.set_cons_zero, List.set_cons_succ]
          refine lec_takeP (i := 2) (v := ?v21y) rfl (by kernel_rfl) (by kernel_rfl) (by kernel_rfl) (by kernel_rfl) (fun _ _ _ h => h) (.inl ⟨by rfl, ?hy21y⟩) Sz ?rest21y
          case hy21y =>
            rintro w' _
            go_simp
            all_goals with_reducible rfl
          try simp only [Act.put, List.getElem_toArray, List.getElem_cons_succ, List.getElem_cons_zero, List.setIfInBounds_toArray, List.set_cons_zero, List.set_cons_succ]
          refine lec_takeP (i := 3) (v := ?v31y) rfl (by kernel_rfl) (by kernel_rfl) (by kernel_rfl) (by kernel_rfl) (fun _ _ _ h => h) (.inl ⟨by rfl, ?hy31y⟩) Sz ?rest31y
          case hy31y =>
            rintro w' _
            go_simp
            all_goals with_reducible rfl
          try simp only [Act.put, List.getElem_toArray, List.getElem_cons_succ, List.getElem_cons_zero, List.setIfInBounds_toArray, List.set_cons_zero, List.set_cons_succ]
          refine lec_takeP (i := 4) (v := ?v41y) rfl (by kernel_rfl) (by kernel_rfl) (by kernel_rfl) (by kernel_rfl) (fun _ _ _ h => h) (.inl ⟨by rfl, ?hy41y⟩) Sz ?rest41y
          case hy41y =>
            rintro w' _
            go_simp
            all_goals with_reducible rfl
          try simp only [Act.put, List.getElem_toArray, List.getElem_cons_succ, List.getElem_cons_zero, List.setIfInBounds_toArray, List.set_cons_zero, List.set_cons_succ]
          refine lec_takeP (i := 5) (v := ?v51y) rfl (by kernel_rfl) (by kernel_rfl) (by kernel_rfl) (by kernel_rfl) (fun _ _ _ h => h) (.inl ⟨by rfl, ?hy51y⟩) Sz ?rest51y
          case hy51y =>
            rintro w' _
            go_simp
            all_goals with_reducible rfl
          try simp only [Act.put, List.getElem_toArray, List.getElem_cons_succ, List.getElem_cons_zero, List.setIfInBounds_toArray, List.set_cons_zero, List.set_cons_succ]
          refine lec_takeP (i := 6) (v := ?v61y) rfl (by kernel_rfl) (by kernel_rfl) (by kernel_rfl) (by kernel_rfl) (fun _ _ _ h => h) (.inl ⟨by rfl, ?hy61y⟩) Sz ?rest61y
          case hy61y =>
            rintro w' _
            go_simp
            all_goals with_reducible rfl
          try simp only [Act.put, List.getElem_toArray, List.getElem_cons_succ, List.getElem_cons_zero, List.setIfInBounds_toArray, List.set_cons_zero, List.set_cons_succ]
          refine lec_one (i := 7) rfl (by kernel_rfl) ?_
          intro K7 hK7
          rw [if_pos (by rfl)]
          go_simp
          refine (HC.out).mono ?_
          rintro e wX ⟨rfl, bX⟩
          go_simp
          have HX : Hid (Rd w0 wX rb ao n cap B (next + 2) ∧ Only (fun q => q = rb) w wX) := ⟨bX.1, HW.out.2.trans ((Only.of_below (Below.refl _ _).drew (fun q => q = rb)).trans bX.2 fun _ _ e => e) fun _ _ e => e⟩
          clear bX HC
          refine hK7 _ _ (fun _ => trivial) ?_
          clear hK7
          try simp only [Act.put, List.getElem_toArray, List.getElem_cons_succ, List.getElem_cons_zero, List.setIfInBounds_toArray, List.set_cons_zero, List.set_cons_succ]
          refine lec_done (by kernel_rfl) ?_
          go_wp2_with fail
          exact ⟨⟨2, by omega, rfl, HX, HN⟩, by simp [intOf]⟩
        | error p =>
          have HC : Hid (Calls Tryd.prog 29 #[.pointer (some ⟨rb, 0, none⟩), .int .i64 1, .int .i64 114, .int .i64 114] wr.drew fun e w' => e = thrC (p : Int) ∧ Below w0.heap.size w0 w') := rNumber_bad (HW.out.1.keep (Below.refl _ _).drew) 1 (by omega) 114 114 p hr
          have HE2 : Hid (∀ {w'}, Below w0.heap.size w0 w' → MovP w0 w w' rb ao n cap B (rdMk B mkB next) (thrC (p : Int))) := fun bX => by
            have e : rdMk B mkB next = .error p := HE.out.trans (rdMk_bad _ _ _ _ _ hr)
            rw [e]
            exact ⟨fun q hq => (by cases hq), fun q hq => (by cases hq; rfl), bX⟩
          have Sz : True := trivial
          clear hr HE hlt
          go_upto_region 3 with fail
          refine lec_start (S := (fun _ => True)) (z := 7) (by kernel_rfl) ?_
          show lec _ _ _ _ _ 8 _ _ _
          try simp only [List.size_toArray, List.length_cons, List.length_nil, Array.replicate]
          refine lec_takeP (i := 0) (v := ?v01n) rfl (by kernel_rfl) (by kernel_rfl) (by kernel_rfl) (by kernel_rfl) (fun _ _ _ h => h) (.inl ⟨by rfl, ?hy01n⟩) Sz ?rest01n
          case hy01n =>
            rintro w' _
            go_simp
            all_goals with_reducible rfl
          try simp only [Act.put, List.getElem_toArray, List.getElem_cons_succ, List.getElem_cons_zero, List.setIfInBounds_toArray, List.set_cons_zero, List.set_cons_succ]
          refine lec_takeP (i := 1) (v := ?v11n) rfl (by kernel_rfl) (by kernel_rfl) (by kernel_rfl) (by kernel_rfl) (fun _ _ _ h => h) (.inl ⟨by rfl, ?hy11n⟩) Sz ?rest11n
          case hy11n =>
            rintro w' _
            go_simp
            all_goals with_reducible rfl
          try simp only [Act.put, List.getElem_toArray, List.getElem_cons_succ, List.getElem_cons_zero, List.setIfInBounds_toArray, List.set_cons_zero, List.set_cons_succ]
          refine lec_takeP (i := 2) (v := ?v21n) rfl (by kernel_rfl) (by kernel_rfl) (by kernel_rfl) (by kernel_rfl) (fun _ _ _ h => h) (.inl ⟨by rfl, ?hy21n⟩) Sz ?rest21n
          case hy21n =>
            rintro w' _
            go_simp
            all_goals with_reducible rfl
          try simp only [Act.put, List.getElem_toArray, List.getElem_cons_succ, List.getElem_cons_zero, List.setIfInBounds_toArray, List.set_cons_zero, List.set_cons_succ]
          refine lec_takeP (i := 3) (v := ?v31n) rfl (by kernel_rfl) (by kernel_rfl) (by kernel_rfl) (by kernel_rfl) (fun _ _ _ h => h) (.inl ⟨by rfl, ?hy31n⟩) Sz ?rest31n
          case hy31n =>
            rintro w' _
            go_simp
            all_goals with_reducible rfl
          try simp only [Act.put, List.getElem_toArray, List.getElem_cons_succ, List.getElem_cons_zero, List.setIfInBounds_toArray, List.set_cons_zero, List.set_cons_succ]
          refine lec_takeP (i := 4) (v := ?v41n) rfl (by kernel_rfl) (by kernel_rfl) (by kernel_rfl) (by kernel_rfl) (fun _ _ _ h => h) (.inl ⟨by rfl, ?hy41n⟩) Sz ?rest41n
          case hy41n =>
            rintro w' _
            go_simp
            all_goals with_reducible rfl
          try simp only [Act.put, List.getElem_toArray, List.getElem_cons_succ, List.getElem_cons_zero, List.setIfInBounds_toArray, List.set_cons_zero, List.set_cons_succ]
          refine lec_takeP (i := 5) (v := ?v51n) rfl (by kernel_rfl) (by kernel_rfl) (by kernel_rfl) (by kernel_rfl) (fun _ _ _ h => h) (.inl ⟨by rfl, ?hy51n⟩) Sz ?rest51n
          case hy51n =>
            rintro w' _
            go_simp
            all_goals with_reducible rfl
          try simp only [Act.put, List.getElem_toArray, List.getElem_cons_succ, List.getElem_cons_zero, List.setIfInBounds_toArray, List.set_cons_zero, List.set_cons_succ]
          refine lec_takeP (i := 6) (v := ?v61n) rfl (by kernel_rfl) (by kernel_rfl) (by kernel_rfl) (by kernel_rfl) (fun _ _ _ h => h) (.inl ⟨by rfl, ?hy61n⟩) Sz ?rest61n
          case hy61n =>
            rintro w' _
            go_simp
            all_goals with_reducible rfl
          try simp only [Act.put, List.getElem_toArray, List.getElem_cons_succ, List.getElem_cons_zero, List.setIfInBounds_toArray, List.set_cons_zero, List.set_cons_succ]
          refine lec_one (i := 7) rfl (by kernel_rfl) ?_
          intro K7 hK7
          rw [if_pos (by rfl)]
          go_simp
          refine (HC.out).mono ?_
          rintro e wX ⟨rfl, bX⟩
          unfold thrC
          go_simp
          exact ⟨rfl, HE2.out bX⟩
      · cases hr : rdN B 1 49 49 (next + 2) with
        | ok u =>
          have HC : Hid (Calls Tryd.prog 29 #[.pointer (some ⟨rb, 0, none⟩), .int .i64 1, .int .i64 49, .int .i64 49] wr.drew fun e w' => e = .returned (.int .i64 u) ∧ Rd w0 w' rb ao n cap B (next + 3) ∧ Only (fun q => q = rb) wr.drew w') := rNumber_ok (HW.out.1.keep (Below.refl _ _).drew) 1 (by omega) 49 49 u hr
          have HN : Hid (rdMk B mkB next = rdMk B (mkB.drop 3) (next + 3)) := by
            show _ = _
            rw [HE.out]
            exact rdMk_ok _ _ _ _ _ hr
          have Sz : True := trivial
          clear hr HE hlt
          go_upto_region 3 with fail
          refine lec_start (S := (fun _ => True)) (z := 7) (by kernel_rfl) ?_
          show lec _ _ _ _ _ 8 _ _ _
          try simp only [List.size_toArray, List.length_cons, List.length_nil, Array.replicate]
          refine lec_takeP (i := 0) (v := ?v02y) rfl (by kernel_rfl) (by kernel_rfl) (by kernel_rfl) (by kernel_rfl) (fun _ _ _ h => h) (.inl ⟨by rfl, ?hy02y⟩) Sz ?rest02y
          case hy02y =>
            rintro w' _
            go_simp
            all_goals with_reducible rfl
          try simp only [Act.put, List.getElem_toArray, List.getElem_cons_succ, List.getElem_cons_zero, List.setIfInBounds_toArray, List.set_cons_zero, List.set_cons_succ]
          refine lec_takeP (i := 1) (v := ?v12y) rfl (by kernel_rfl) (by kernel_rfl) (by kernel_rfl) (by kernel_rfl) (fun _ _ _ h => h) (.inl ⟨by rfl, ?hy12y⟩) Sz ?rest12y
          case hy12y =>
            rintro w' _
            go_simp
            all_goals with_reducible rfl
          try simp only [Act.put, List.getElem_toArray, List.getElem_cons_succ, List.getElem_cons_zero, List.setIfInBounds_toArray, List.set_cons_zero, List.set_cons_succ]
          refine lec_takeP (i := 2) (v := ?v22y) rfl (by kernel_rfl) (by kernel_rfl) (by kernel_rfl) (by kernel_rfl) (fun _ _ _ h => h) (.inl ⟨by rfl, ?hy22y⟩) Sz ?rest22y
          case hy22y =>
            rintro w' _
            go_simp
            all_goals with_reducible rfl
          try simp only [Act.put, List.getElem_toArray, List.getElem_cons_succ, List.getElem_cons_zero, List.setIfInBounds_toArray, List.set_cons_zero, List.set_cons_succ]
          refine lec_takeP (i := 3) (v := ?v32y) rfl (by kernel_rfl) (by kernel_rfl) (by kernel_rfl) (by kernel_rfl) (fun _ _ _ h => h) (.inl ⟨by rfl, ?hy32y⟩) Sz ?rest32y
          case hy32y =>
            rintro w' _
            go_simp
            all_goals with_reducible rfl
          try simp only [Act.put, List.getElem_toArray, List.getElem_cons_succ, List.getElem_cons_zero, List.setIfInBounds_toArray, List.set_cons_zero, List.set_cons_succ]
          refine lec_takeP (i := 4) (v := ?v42y) rfl (by kernel_rfl) (by kernel_rfl) (by kernel_rfl) (by kernel_rfl) (fun _ _ _ h => h) (.inl ⟨by rfl, ?hy42y⟩) Sz ?rest42y
          case hy42y =>
            rintro w' _
            go_simp
            all_goals with_reducible rfl
          try simp only [Act.put, List.getElem_toArray, List.getElem_cons_succ, List.getElem_cons_zero, List.setIfInBounds_toArray, List.set_cons_zero, List.set_cons_succ]
          refine lec_takeP (i := 5) (v := ?v52y) rfl (by kernel_rfl) (by kernel_rfl) (by kernel_rfl) (by kernel_rfl) (fun _ _ _ h => h) (.inl ⟨by rfl, ?hy52y⟩) Sz ?rest52y
          case hy52y =>
            rintro w' _
            go_simp
            all_goals with_reducible rfl
          try simp only [Act.put, List.getElem_toArray, List.getElem_cons_succ, List.getElem_cons_zero, List.setIfInBounds_toArray, List.set_cons_zero, List.set_cons_succ]
          refine lec_takeP (i := 6) (v := ?v62y) rfl (by kernel_rfl) (by kernel_rfl) (by kernel_rfl) (by kernel_rfl) (fun _ _ _ h => h) (.inl ⟨by rfl, ?hy62y⟩) Sz ?rest62y
          case hy62y =>
            rintro w' _
            go_simp
            all_goals with_reducible rfl
          try simp only [Act.put, List.getElem_toArray, List.getElem_cons_succ, List.getElem_cons_zero, List.setIfInBounds_toArray, List.set_cons_zero, List.set_cons_succ]
          refine lec_one (i := 7) rfl (by kernel_rfl) ?_
          intro K7 hK7
          rw [if_pos (by rfl)]
          go_simp
          refine (HC.out).mono ?_
          rintro e wX ⟨rfl, bX⟩
          go_simp
          have HX : Hid (Rd w0 wX rb ao n cap B (next + 3) ∧ Only (fun q => q = rb) w wX) := ⟨bX.1, HW.out.2.trans ((Only.of_below (Below.refl _ _).drew (fun q => q = rb)).trans bX.2 fun _ _ e => e) fun _ _ e => e⟩
          clear bX HC
          refine hK7 _ _ (fun _ => trivial) ?_
          clear hK7
          try simp only [Act.put, List.getElem_toArray, List.getElem_cons_succ, List.getElem_cons_zero, List.setIfInBounds_toArray, List.set_cons_zero, List.set_cons_succ]
          refine lec_done (by kernel_rfl) ?_
          go_wp2_with fail
          exact ⟨⟨3, by omega, rfl, HX, HN⟩, by simp [intOf]⟩
        | error p =>
          have HC : Hid (Calls Tryd.prog 29 #[.pointer (some ⟨rb, 0, none⟩), .int .i64 1, .int .i64 49, .int .i64 49] wr.drew fun e w' => e = thrC (p : Int) ∧ Below w0.heap.size w0 w') := rNumber_bad (HW.out.1.keep (Below.refl _ _).drew) 1 (by omega) 49 49 p hr
          have HE2 : Hid (∀ {w'}, Below w0.heap.size w0 w' → MovP w0 w w' rb ao n cap B (rdMk B mkB next) (thrC (p : Int))) := fun bX => by
            have e : rdMk B mkB next = .error p := HE.out.trans (rdMk_bad _ _ _ _ _ hr)
            rw [e]
            exact ⟨fun q hq => (by cases hq), fun q hq => (by cases hq; rfl), bX⟩
          have Sz : True := trivial
          clear hr HE hlt
          go_upto_region 3 with fail
          refine lec_start (S := (fun _ => True)) (z := 7) (by kernel_rfl) ?_
          show lec _ _ _ _ _ 8 _ _ _
          try simp only [List.size_toArray, List.length_cons, List.length_nil, Array.replicate]
          refine lec_takeP (i := 0) (v := ?v02n) rfl (by kernel_rfl) (by kernel_rfl) (by kernel_rfl) (by kernel_rfl) (fun _ _ _ h => h) (.inl ⟨by rfl, ?hy02n⟩) Sz ?rest02n
          case hy02n =>
            rintro w' _
            go_simp
            all_goals with_reducible rfl
          try simp only [Act.put, List.getElem_toArray, List.getElem_cons_succ, List.getElem_cons_zero, List.setIfInBounds_toArray, List.set_cons_zero, List.set_cons_succ]
          refine lec_takeP (i := 1) (v := ?v12n) rfl (by kernel_rfl) (by kernel_rfl) (by kernel_rfl) (by kernel_rfl) (fun _ _ _ h => h) (.inl ⟨by rfl, ?hy12n⟩) Sz ?rest12n
          case hy12n =>
            rintro w' _
            go_simp
            all_goals with_reducible rfl
          try simp only [Act.put, List.getElem_toArray, List.getElem_cons_succ, List.getElem_cons_zero, List.setIfInBounds_toArray, List.set_cons_zero, List.set_cons_succ]
          refine lec_takeP (i := 2) (v := ?v22n) rfl (by kernel_rfl) (by kernel_rfl) (by kernel_rfl) (by kernel_rfl) (fun _ _ _ h => h) (.inl ⟨by rfl, ?hy22n⟩) Sz ?rest22n
          case hy22n =>
            rintro w' _
            go_simp
            all_goals with_reducible rfl
          try simp only [Act.put, List.getElem_toArray, List.getElem_cons_succ, List.getElem_cons_zero, List.setIfInBounds_toArray, List.set_cons_zero, List.set_cons_succ]
          refine lec_takeP (i := 3) (v := ?v32n) rfl (by kernel_rfl) (by kernel_rfl) (by kernel_rfl) (by kernel_rfl) (fun _ _ _ h => h) (.inl ⟨by rfl, ?hy32n⟩) Sz ?rest32n
          case hy32n =>
            rintro w' _
            go_simp
            all_goals with_reducible rfl
          try simp only [Act.put, List.getElem_toArray, List.getElem_cons_succ, List.getElem_cons_zero, List.setIfInBounds_toArray, List.set_cons_zero, List.set_cons_succ]
          refine lec_takeP (i := 4) (v := ?v42n) rfl (by kernel_rfl) (by kernel_rfl) (by kernel_rfl) (by kernel_rfl) (fun _ _ _ h => h) (.inl ⟨by rfl, ?hy42n⟩) Sz ?rest42n
          case hy42n =>
            rintro w' _
            go_simp
            all_goals with_reducible rfl
          try simp only [Act.put, List.getElem_toArray, List.getElem_cons_succ, List.getElem_cons_zero, List.setIfInBounds_toArray, List.set_cons_zero, List.set_cons_succ]
          refine lec_takeP (i := 5) (v := ?v52n) rfl (by kernel_rfl) (by kernel_rfl) (by kernel_rfl) (by kernel_rfl) (fun _ _ _ h => h) (.inl ⟨by rfl, ?hy52n⟩) Sz ?rest52n
          case hy52n =>
            rintro w' _
            go_simp
            all_goals with_reducible rfl
          try simp only [Act.put, List.getElem_toArray, List.getElem_cons_succ, List.getElem_cons_zero, List.setIfInBounds_toArray, List.set_cons_zero, List.set_cons_succ]
          refine lec_takeP (i := 6) (v := ?v62n) rfl (by kernel_rfl) (by kernel_rfl) (by kernel_rfl) (by kernel_rfl) (fun _ _ _ h => h) (.inl ⟨by rfl, ?hy62n⟩) Sz ?rest62n
          case hy62n =>
            rintro w' _
            go_simp
            all_goals with_reducible rfl
          try simp only [Act.put, List.getElem_toArray, List.getElem_cons_succ, List.getElem_cons_zero, List.setIfInBounds_toArray, List.set_cons_zero, List.set_cons_succ]
          refine lec_one (i := 7) rfl (by kernel_rfl) ?_
          intro K7 hK7
          rw [if_pos (by rfl)]
          go_simp
          refine (HC.out).mono ?_
          rintro e wX ⟨rfl, bX⟩
          unfold thrC
          go_simp
          exact ⟨rfl, HE2.out bX⟩
      · cases hr : rdN B 1 54 54 (next + 3) with
        | ok u =>
          have HC : Hid (Calls Tryd.prog 29 #[.pointer (some ⟨rb, 0, none⟩), .int .i64 1, .int .i64 54, .int .i64 54] wr.drew fun e w' => e = .returned (.int .i64 u) ∧ Rd w0 w' rb ao n cap B (next + 4) ∧ Only (fun q => q = rb) wr.drew w') := rNumber_ok (HW.out.1.keep (Below.refl _ _).drew) 1 (by omega) 54 54 u hr
          have HN : Hid (rdMk B mkB next = rdMk B (mkB.drop 4) (next + 4)) := by
            show _ = _
            rw [HE.out]
            exact rdMk_ok _ _ _ _ _ hr
          have Sz : True := trivial
          clear hr HE hlt
          go_upto_region 3 with fail
          refine lec_start (S := (fun _ => True)) (z := 7) (by kernel_rfl) ?_
          show lec _ _ _ _ _ 8 _ _ _
          try simp only [List.size_toArray, List.length_cons, List.length_nil, Array.replicate]
          refine lec_takeP (i := 0) (v := ?v03y) rfl (by kernel_rfl) (by kernel_rfl) (by kernel_rfl) (by kernel_rfl) (fun _ _ _ h => h) (.inl ⟨by rfl, ?hy03y⟩) Sz ?rest03y
          case hy03y =>
            rintro w' _
            go_simp
            all_goals with_reducible rfl
          try simp only [Act.put, List.getElem_toArray, List.getElem_cons_succ, List.getElem_cons_zero, List.setIfInBounds_toArray, List.set_cons_zero, List.set_cons_succ]
          refine lec_takeP (i := 1) (v := ?v13y) rfl (by kernel_rfl) (by kernel_rfl) (by kernel_rfl) (by kernel_rfl) (fun _ _ _ h => h) (.inl ⟨by rfl, ?hy13y⟩) Sz ?rest13y
          case hy13y =>
            rintro w' _
            go_simp
            all_goals with_reducible rfl
          try simp only [Act.put, List.getElem_toArray, List.getElem_cons_succ, List.getElem_cons_zero, List.setIfInBounds_toArray, List.set_cons_zero, List.set_cons_succ]
          refine lec_takeP (i := 2) (v := ?v23y) rfl (by kernel_rfl) (by kernel_rfl) (by kernel_rfl) (by kernel_rfl) (fun _ _ _ h => h) (.inl ⟨by rfl, ?hy23y⟩) Sz ?rest23y
          case hy23y =>
            rintro w' _
            go_simp
            all_goals with_reducible rfl
          try simp only [Act.put, List.getElem_toArray, List.getElem_cons_succ, List.getElem_cons_zero, List.setIfInBounds_toArray, List.set_cons_zero, List.set_cons_succ]
          refine lec_takeP (i := 3) (v := ?v33y) rfl (by kernel_rfl) (by kernel_rfl) (by kernel_rfl) (by kernel_rfl) (fun _ _ _ h => h) (.inl ⟨by rfl, ?hy33y⟩) Sz ?rest33y
          case hy33y =>
            rintro w' _
            go_simp
            all_goals with_reducible rfl
          try simp only [Act.put, List.getElem_toArray, List.getElem_cons_succ, List.getElem_cons_zero, List.setIfInBounds_toArray, List.set_cons_zero, List.set_cons_succ]
          refine lec_takeP (i := 4) (v := ?v43y) rfl (by kernel_rfl) (by kernel_rfl) (by kernel_rfl) (by kernel_rfl) (fun _ _ _ h => h) (.inl ⟨by rfl, ?hy43y⟩) Sz ?rest43y
          case hy43y =>
            rintro w' _
            go_simp
            all_goals with_reducible rfl
          try simp only [Act.put, List.getElem_toArray, List.getElem_cons_succ, List.getElem_cons_zero, List.setIfInBounds_toArray, List.set_cons_zero, List.set_cons_succ]
          refine lec_takeP (i := 5) (v := ?v53y) rfl (by kernel_rfl) (by kernel_rfl) (by kernel_rfl) (by kernel_rfl) (fun _ _ _ h => h) (.inl ⟨by rfl, ?hy53y⟩) Sz ?rest53y
          case hy53y =>
            rintro w' _
            go_simp
            all_goals with_reducible rfl
          try simp only [Act.put, List.getElem_toArray, List.getElem_cons_succ, List.getElem_cons_zero, List.setIfInBounds_toArray, List.set_cons_zero, List.set_cons_succ]
          refine lec_takeP (i := 6) (v := ?v63y) rfl (by kernel_rfl) (by kernel_rfl) (by kernel_rfl) (by kernel_rfl) (fun _ _ _ h => h) (.inl ⟨by rfl, ?hy63y⟩) Sz ?rest63y
          case hy63y =>
            rintro w' _
            go_simp
            all_goals with_reducible rfl
          try simp only [Act.put, List.getElem_toArray, List.getElem_cons_succ, List.getElem_cons_zero, List.setIfInBounds_toArray, List.set_cons_zero, List.set_cons_succ]
          refine lec_one (i := 7) rfl (by kernel_rfl) ?_
          intro K7 hK7
          rw [if_pos (by rfl)]
          go_simp
          refine (HC.out).mono ?_
          rintro e wX ⟨rfl, bX⟩
          go_simp
          have HX : Hid (Rd w0 wX rb ao n cap B (next + 4) ∧ Only (fun q => q = rb) w wX) := ⟨bX.1, HW.out.2.trans ((Only.of_below (Below.refl _ _).drew (fun q => q = rb)).trans bX.2 fun _ _ e => e) fun _ _ e => e⟩
          clear bX HC
          refine hK7 _ _ (fun _ => trivial) ?_
          clear hK7
          try simp only [Act.put, List.getElem_toArray, List.getElem_cons_succ, List.getElem_cons_zero, List.setIfInBounds_toArray, List.set_cons_zero, List.set_cons_succ]
          refine lec_done (by kernel_rfl) ?_
          go_wp2_with fail
          exact ⟨⟨4, by omega, rfl, HX, HN⟩, by simp [intOf]⟩
        | error p =>
          have HC : Hid (Calls Tryd.prog 29 #[.pointer (some ⟨rb, 0, none⟩), .int .i64 1, .int .i64 54, .int .i64 54] wr.drew fun e w' => e = thrC (p : Int) ∧ Below w0.heap.size w0 w') := rNumber_bad (HW.out.1.keep (Below.refl _ _).drew) 1 (by omega) 54 54 p hr
          have HE2 : Hid (∀ {w'}, Below w0.heap.size w0 w' → MovP w0 w w' rb ao n cap B (rdMk B mkB next) (thrC (p : Int))) := fun bX => by
            have e : rdMk B mkB next = .error p := HE.out.trans (rdMk_bad _ _ _ _ _ hr)
            rw [e]
            exact ⟨fun q hq => (by cases hq), fun q hq => (by cases hq; rfl), bX⟩
          have Sz : True := trivial
          clear hr HE hlt
          go_upto_region 3 with fail
          refine lec_start (S := (fun _ => True)) (z := 7) (by kernel_rfl) ?_
          show lec _ _ _ _ _ 8 _ _ _
          try simp only [List.size_toArray, List.length_cons, List.length_nil, Array.replicate]
          refine lec_takeP (i := 0) (v := ?v03n) rfl (by kernel_rfl) (by kernel_rfl) (by kernel_rfl) (by kernel_rfl) (fun _ _ _ h => h) (.inl ⟨by rfl, ?hy03n⟩) Sz ?rest03n
          case hy03n =>
            rintro w' _
            go_simp
            all_goals with_reducible rfl
          try simp only [Act.put, List.getElem_toArray, List.getElem_cons_succ, List.getElem_cons_zero, List.setIfInBounds_toArray, List.set_cons_zero, List.set_cons_succ]
          refine lec_takeP (i := 1) (v := ?v13n) rfl (by kernel_rfl) (by kernel_rfl) (by kernel_rfl) (by kernel_rfl) (fun _ _ _ h => h) (.inl ⟨by rfl, ?hy13n⟩) Sz ?rest13n
          case hy13n =>
            rintro w' _
            go_simp
            all_goals with_reducible rfl
          try simp only [Act.put, List.getElem_toArray, List.getElem_cons_succ, List.getElem_cons_zero, List.setIfInBounds_toArray, List.set_cons_zero, List.set_cons_succ]
          refine lec_takeP (i := 2) (v := ?v23n) rfl (by kernel_rfl) (by kernel_rfl) (by kernel_rfl) (by kernel_rfl) (fun _ _ _ h => h) (.inl ⟨by rfl, ?hy23n⟩) Sz ?rest23n
          case hy23n =>
            rintro w' _
            go_simp
            all_goals with_reducible rfl
          try simp only [Act.put, List.getElem_toArray, List.getElem_cons_succ, List.getElem_cons_zero, List.setIfInBounds_toArray, List.set_cons_zero, List.set_cons_succ]
          refine lec_takeP (i := 3) (v := ?v33n) rfl (by kernel_rfl) (by kernel_rfl) (by kernel_rfl) (by kernel_rfl) (fun _ _ _ h => h) (.inl ⟨by rfl, ?hy33n⟩) Sz ?rest33n
          case hy33n =>
            rintro w' _
            go_simp
            all_goals with_reducible rfl
          try simp only [Act.put, List.getElem_toArray, List.getElem_cons_succ, List.getElem_cons_zero, List.setIfInBounds_toArray, List.set_cons_zero, List.set_cons_succ]
          refine lec_takeP (i := 4) (v := ?v43n) rfl (by kernel_rfl) (by kernel_rfl) (by kernel_rfl) (by kernel_rfl) (fun _ _ _ h => h) (.inl ⟨by rfl, ?hy43n⟩) Sz ?rest43n
          case hy43n =>
            rintro w' _
            go_simp
            all_goals with_reducible rfl
          try simp only [Act.put, List.getElem_toArray, List.getElem_cons_succ, List.getElem_cons_zero, List.setIfInBounds_toArray, List.set_cons_zero, List.set_cons_succ]
          refine lec_takeP (i := 5) (v := ?v53n) rfl (by kernel_rfl) (by kernel_rfl) (by kernel_rfl) (by kernel_rfl) (fun _ _ _ h => h) (.inl ⟨by rfl, ?hy53n⟩) Sz ?rest53n
          case hy53n =>
            rintro w' _
            go_simp
            all_goals with_reducible rfl
          try simp only [Act.put, List.getElem_toArray, List.getElem_cons_succ, List.getElem_cons_zero, List.setIfInBounds_toArray, List.set_cons_zero, List.set_cons_succ]
          refine lec_takeP (i := 6) (v := ?v63n) rfl (by kernel_rfl) (by kernel_rfl) (by kernel_rfl) (by kernel_rfl) (fun _ _ _ h => h) (.inl ⟨by rfl, ?hy63n⟩) Sz ?rest63n
          case hy63n =>
            rintro w' _
            go_simp
            all_goals with_reducible rfl
          try simp only [Act.put, List.getElem_toArray, List.getElem_cons_succ, List.getElem_cons_zero, List.setIfInBounds_toArray, List.set_cons_zero, List.set_cons_succ]
          refine lec_one (i := 7) rfl (by kernel_rfl) ?_
          intro K7 hK7
          rw [if_pos (by rfl)]
          go_simp
          refine (HC.out).mono ?_
          rintro e wX ⟨rfl, bX⟩
          unfold thrC
          go_simp
          exact ⟨rfl, HE2.out bX⟩
    · have hie : i = 4 := by omega
      subst hie
      clear hlt hi
      go_wp2_with fail
      refine bodyPost_end (v := .tuple #[]) (by simp [results, Tryd.results28, go_sem]) rfl ?_
      refine ⟨fun q hq => ?_, fun p hp => ?_, HW.out.1.low⟩
      · have := HE.out.symm.trans hq
        cases this
        exact ⟨rfl, HW.out.1, HW.out.2⟩
      · have := HE.out.symm.trans hp
        cases this
end Go.Proofs.YtjiaedckecfjbaaDoor
