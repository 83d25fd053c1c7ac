import Derived.Test.YtjepkcebfojiaaaDoorTwI
import Derived.Test.YtjepkcebfojiaaaDoorTwG
set_option linter.unusedVariables false
set_option linter.unusedSimpArgs false
namespace Go.Proofs.YtjepkcebfojiaaaDoor
open Go.ChangeShapes Go.WideShapes Go.ChangeAt Go.RowKit

set_option maxRecDepth 10000 in
set_option maxHeartbeats 4000000 in
theorem deepValue_any (w : World) (hA : AllTab w) (how m : Nat) (z : Int) (hz : z = (how : Int)) (hmm : m ≤ 16383) :
    Calls Tryd.prog 14 #[.int .i64 z, .int .i64 m] w fun e w' => e = .returned (.bool true) ∧ Below w.heap.size w w' := by
  have HA : Hid (AllTab w) := hA
  have HZ : Hid (z = (how : Int)) := hz
  clear hA hz
  obtain ⟨h, hh'⟩ : ∃ h, h = w.heap.size := ⟨_, rfl⟩
  go_enter Tryd.func14, Tryd.ntmps14
  have HD0 : DV w (w.alloc (.cells #[.slice none 0 0, .slice none 0 0] 25)) w.heap.size (.slice none 0 0) (.slice none 0 0) (.slice none 0 0) 0 0 0 [] [] [] :=
    ⟨⟨[], ⟨rfl, World.ownsRow_nil _ _ _ _, by simp⟩, rfl⟩, OwnB.nil _ _, OwnB.nil _ _, fun g hg => by simp [Value.ownBlock] at hg, heap_alloc_last w _, (Below.refl _ _).alloc (Nat.le_refl _) _⟩
  go_wp2_with (first
    | (at_builtin; refine wpList_append_dv (w := w) (wr := (w.alloc (.cells #[.slice none 0 0, .slice none 0 0] 25))) rfl _ _ rfl w.heap.size _ _ _ 0 0 0 1 (w.heap.size + 1) [] [] [] [(nA, .slice none 0 0)] ?_ HD0 (Below.refl _ _) ?_ (by simp) rfl (by omega) rfl (by simp; exact OwnI.nil _ _) (by omega) ?_; (next => rfl); (next => rfl); intro v1 w1 hbox1 HD1; obtain ⟨a1, c1, rfl⟩ := HD1.slices.1
       have x0 : w1.cell? ⟨w.heap.size, 0, none⟩ = some (.slice none 0 0) := cell_arr hbox1 rfl
       have xf : w1.frozen? ⟨w.heap.size, 0, none⟩ = false := fz_of hbox1))
  clear HD0 x0 xf hbox1
  rw [← hh'] at HD1 ⊢
  have HHH : Hid (h = w.heap.size) := hh'
  clear hh'
  go_loopw [7, 8, 9] (fun av bv iv wr => ∃ (i K na nb : Nat) (a0 a1 a2 : Option Addr) (c0 c1 c2 : Nat), i ≤ m ∧ Hid (K = vD how * i + 1) ∧ av = .slice a1 na c1 ∧ bv = .slice a2 nb c2 ∧ iv = .int .i64 i ∧ DV w wr h (.slice a0 K c0) (.slice a1 na c1) (.slice a2 nb c2) K na nb (bld [nA] (vS how) i) (bld [] (vA how) i) (bld [] (vB how) i)) (fun _ _ iv _ => m - (intOf iv).toNat)
  case atStart => exact ⟨0, 1, 0, 0, a1, none, none, c1, 0, 0, by omega, by simp [Hid], rfl, rfl, rfl, HD1⟩
  case round =>
    clear HD1
    obtain ⟨i, K, na, nb, a0, a1, a2, c0, c1, c2, hi, HK, rfl, rfl, rfl, HD⟩ := hrel
    have hna : na ≤ 4 * i := by rw [HD.oa.len]; exact bld_le (vA_len how) i
    have hnb : nb ≤ 4 * i := by rw [HD.ob.len]; exact bld_le (vB_len how) i
    have hKK : K ≤ 2 * i + 1 := by
      have hd : vD how ≤ 2 := by unfold vD; split <;> omega
      have := Nat.mul_le_mul_right i hd
      have := HK.out
      omega
    have hlt0 := HD.lt
    have x0 : wr.cell? ⟨h, 0, none⟩ = some (.slice a0 K c0) := cell_arr HD.box rfl
    by_cases hlt : i < m
    · by_cases h2 : how = 2
      · have g2 : (z == 2) = true := by have := HZ.out; simp; omega
        subst h2
        have hK3 : K = i + 1 := by rw [HK.out, show vD 2 = 1 from rfl, Nat.one_mul]
        subst hK3
        have hr3 : i % 3 = 0 ∨ i % 3 = 1 ∨ i % 3 = 2 := by omega
        rcases hr3 with hr | hr | hr
        · have hr1 : (i : Int) % 3 = 0 := by omega
          have hr2 : Int.tmod (i : Int) 3 = 0 := by rw [Int.tmod_eq_emod_of_nonneg (by omega)]; exact hr1
          go_wp2_with (first
            | (at_builtin; refine wpList_append_dv (w := w) (wr := wr) (w0 := wr.alloc (.cells #[.int .i64 i] 3)) rfl _ _ rfl h _ _ _ (i + 1) na nb 1 (wr.heap.size + 1) _ _ _ [(nUn 20 [(i : Int)], .slice (some ⟨wr.heap.size, 0, none⟩) 1 1)] ?_ HD ((Below.refl _ _).alloc (Nat.le_refl _) _) ?_ (by simp) rfl (by omega) rfl (by simp; exact OwnI.lit wr _ (by omega) [(i : Int)] _ rfl (by simp)) (by omega) ?_; (next => rfl); (next => rfl); intro v5 w5 hbox5 HD5; obtain ⟨a5, c5, rfl⟩ := HD5.slices.1
               have y0 : w5.cell? ⟨h, 0, none⟩ = some (.slice a0 (i + 1) c0) := cell_arr hbox5 rfl
               have yf : w5.frozen? ⟨h, 0, none⟩ = false := fz_of hbox5
               have hlt5 := HD5.lt)
            | (at_builtin; refine wpList_append_byteJ rfl _ _ rfl (h + 1) _ na _ 45 _ (by first | rfl | decide) w5.heap.size (by simp [World.setCell]) ?_ HD5.oa ?_ (by omega) (by omega) ?_; (next => rfl); (next => rfl); intro v6 w6 HO6 HG6; have HD6 := HD5.ahead HO6 HG6; have hlt6 := HD6.lt; obtain ⟨a6, c6, rfl⟩ := HD6.slices.2.1))
          go_roundw
          case rel => exact ⟨i + 1, _, _, _, _, _, _, _, _, _, by omega, (by show i + 1 + 1 = vD 2 * (i + 1) + 1; rw [show vD 2 = 1 from rfl, Nat.one_mul]), rfl, rfl, by go_num, dv_to HD6 (by rw [bld, vS2 0 hr]; rfl) (by rw [bld, vA2 0 hr]; rfl) (by simp [bld, vB])⟩
          case measure => simp [intOf]; omega
        · have hr1 : (i : Int) % 3 = 1 := by omega
          have hr2 : Int.tmod (i : Int) 3 = 1 := by rw [Int.tmod_eq_emod_of_nonneg (by omega)]; exact hr1
          go_wp2_with (first
            | (at_builtin; refine wpList_append_dv (w := w) (wr := wr) (w0 := wr.alloc (.cells #[.int .i64 i] 3)) rfl _ _ rfl h _ _ _ (i + 1) na nb 1 (wr.heap.size + 1) _ _ _ [(nUn 21 [(i : Int)], .slice (some ⟨wr.heap.size, 0, none⟩) 1 1)] ?_ HD ((Below.refl _ _).alloc (Nat.le_refl _) _) ?_ (by simp) rfl (by omega) rfl (by simp; exact OwnI.lit wr _ (by omega) [(i : Int)] _ rfl (by simp)) (by omega) ?_; (next => rfl); (next => rfl); intro v5 w5 hbox5 HD5; obtain ⟨a5, c5, rfl⟩ := HD5.slices.1
               have y0 : w5.cell? ⟨h, 0, none⟩ = some (.slice a0 (i + 1) c0) := cell_arr hbox5 rfl
               have yf : w5.frozen? ⟨h, 0, none⟩ = false := fz_of hbox5
               have hlt5 := HD5.lt)
            | (at_builtin; refine wpList_append_byteJ rfl _ _ rfl (h + 1) _ na _ 33 _ (by first | rfl | decide) w5.heap.size (by simp [World.setCell]) ?_ HD5.oa ?_ (by omega) (by omega) ?_; (next => rfl); (next => rfl); intro v6 w6 HO6 HG6; have HD6 := HD5.ahead HO6 HG6; have hlt6 := HD6.lt; obtain ⟨a6, c6, rfl⟩ := HD6.slices.2.1))
          go_roundw
          case rel => exact ⟨i + 1, _, _, _, _, _, _, _, _, _, by omega, (by show i + 1 + 1 = vD 2 * (i + 1) + 1; rw [show vD 2 = 1 from rfl, Nat.one_mul]), rfl, rfl, by go_num, dv_to HD6 (by rw [bld, vS2 1 hr]; rfl) (by rw [bld, vA2 1 hr]; rfl) (by simp [bld, vB])⟩
          case measure => simp [intOf]; omega
        · have hr1 : (i : Int) % 3 = 2 := by omega
          have hr2 : Int.tmod (i : Int) 3 = 2 := by rw [Int.tmod_eq_emod_of_nonneg (by omega)]; exact hr1
          go_wp2_with (first
            | (at_builtin; refine wpList_append_dv (w := w) (wr := wr) (w0 := wr.alloc (.cells #[.int .i64 i] 3)) rfl _ _ rfl h _ _ _ (i + 1) na nb 1 (wr.heap.size + 1) _ _ _ [(nUn 22 [(i : Int)], .slice (some ⟨wr.heap.size, 0, none⟩) 1 1)] ?_ HD ((Below.refl _ _).alloc (Nat.le_refl _) _) ?_ (by simp) rfl (by omega) rfl (by simp; exact OwnI.lit wr _ (by omega) [(i : Int)] _ rfl (by simp)) (by omega) ?_; (next => rfl); (next => rfl); intro v5 w5 hbox5 HD5; obtain ⟨a5, c5, rfl⟩ := HD5.slices.1
               have y0 : w5.cell? ⟨h, 0, none⟩ = some (.slice a0 (i + 1) c0) := cell_arr hbox5 rfl
               have yf : w5.frozen? ⟨h, 0, none⟩ = false := fz_of hbox5
               have hlt5 := HD5.lt)
            | (at_builtin; refine wpList_append_byteJ rfl _ _ rfl (h + 1) _ na _ 94 _ (by first | rfl | decide) w5.heap.size (by simp [World.setCell]) ?_ HD5.oa ?_ (by omega) (by omega) ?_; (next => rfl); (next => rfl); intro v6 w6 HO6 HG6; have HD6 := HD5.ahead HO6 HG6; have hlt6 := HD6.lt; obtain ⟨a6, c6, rfl⟩ := HD6.slices.2.1))
          go_roundw
          case rel => exact ⟨i + 1, _, _, _, _, _, _, _, _, _, by omega, (by show i + 1 + 1 = vD 2 * (i + 1) + 1; rw [show vD 2 = 1 from rfl, Nat.one_mul]), rfl, rfl, by go_num, dv_to HD6 (by rw [bld, vS2 2 hr]; rfl) (by rw [bld, vA2 2 hr]; rfl) (by simp [bld, vB])⟩
          case measure => simp [intOf]; omega
      · by_cases h3 : how = 3
        · have g2 : (z == 2) = false := by have := HZ.out; simp; omega
          have g3 : (z == 3) = true := by have := HZ.out; simp; omega
          subst h3
          have hK3 : K = i + 1 := by rw [HK.out, show vD 3 = 1 from rfl, Nat.one_mul]
          subst hK3
          go_wp2_with (first
            | (at_builtin; refine wpList_append_dv (w := w) (wr := wr) (w0 := wr.alloc (.cells #[.int .i64 i] 3)) rfl _ _ rfl h _ _ _ (i + 1) na nb 1 (wr.heap.size + 1) _ _ _ [(nLen [(i : Int)], .slice (some ⟨wr.heap.size, 0, none⟩) 1 1)] ?_ HD ((Below.refl _ _).alloc (Nat.le_refl _) _) ?_ (by simp) rfl (by omega) rfl (by simp; exact OwnI.lit wr _ (by omega) [(i : Int)] _ rfl (by simp)) (by omega) ?_; (next => rfl); (next => rfl); intro v5 w5 hbox5 HD5; obtain ⟨a5, c5, rfl⟩ := HD5.slices.1
               have y0 : w5.cell? ⟨h, 0, none⟩ = some (.slice a0 (i + 1) c0) := cell_arr hbox5 rfl
               have yf : w5.frozen? ⟨h, 0, none⟩ = false := fz_of hbox5
               have hlt5 := HD5.lt)
            | (at_builtin; refine wpList_append_strJ rfl _ _ rfl (h + 1) _ na _ ?_ HD5.oa ⟨#[40, 110, 101, 108]⟩ [40, 110, 101, 108] ?_ rfl (by simp) (by simp; omega) (by omega) ?_; (next => rfl); (next => rfl); intro v6 w6 HO6 HG6; have HD6 := HD5.ahead HO6 HG6; have hlt6 := HD6.lt; obtain ⟨a6, c6, rfl⟩ := HD6.slices.2.1)
            | (at_builtin; refine wpList_append_byteJ rfl _ _ rfl (h + 1) _ nb _ 41 41 rfl w6.heap.size rfl ?_ HD6.ob ?_ (by omega) (by omega) ?_; (next => rfl); (next => rfl); intro v7 w7 HO7 HG7; have HD7 := HD6.behind HO7 HG7; obtain ⟨a7, c7, rfl⟩ := HD7.slices.2.2))
          go_roundw
          case rel => exact ⟨i + 1, _, _, _, _, _, _, _, _, _, by omega, (by show i + 1 + 1 = vD 3 * (i + 1) + 1; rw [show vD 3 = 1 from rfl, Nat.one_mul]), rfl, rfl, by go_num, HD7⟩
          case measure => simp [intOf]; omega
        · by_cases h4 : how = 4
          · have g2 : (z == 2) = false := by have := HZ.out; simp; omega
            have g3 : (z == 3) = false := by have := HZ.out; simp; omega
            have g4 : (z == 4) = true := by have := HZ.out; simp; omega
            subst h4
            obtain ⟨J, hJ⟩ : ∃ J, J = 2 * i := ⟨_, rfl⟩
            have hK3 : K = J + 1 := by rw [HK.out, show vD 4 = 2 from rfl, hJ]
            subst hK3
            have HJ : Hid (J = 2 * i) := hJ
            have hJ1 : J ≤ 2 * i := by omega
            clear hJ
            go_wp2_with (first
              | (at_builtin; refine wpList_append_dv (w := w) (wr := wr) (w0 := wr.alloc (.cells #[.int .i64 J, .int .i64 ((J : Int) + 1)] 3)) rfl _ _ rfl h _ _ _ (J + 1) na nb 2 (wr.heap.size + 1) _ _ _ [(nNum 7, .slice none 0 0), (nMin [(J : Int), ((J + 1 : Nat) : Int)], .slice (some ⟨wr.heap.size, 0, none⟩) 2 2)] ?_ HD ((Below.refl _ _).alloc (Nat.le_refl _) _) ?_ (by simp) rfl (by omega) rfl (by simp; exact ⟨OwnI.nil _ _, OwnI.lit wr _ (by omega) [(J : Int), ((J + 1 : Nat) : Int)] _ rfl (by simp)⟩) (by omega) ?_; (next => rfl); (next => rfl); intro v5 w5 hbox5 HD5; obtain ⟨a5, c5, rfl⟩ := HD5.slices.1
                 have y0 : w5.cell? ⟨h, 0, none⟩ = some (.slice a0 (J + 1) c0) := cell_arr hbox5 rfl
                 have yf : w5.frozen? ⟨h, 0, none⟩ = false := fz_of hbox5
                 have hlt5 := HD5.lt)
              | (at_builtin; refine wpList_append_strJ rfl _ _ rfl (h + 1) _ nb _ ?_ HD5.ob ⟨#[32, 45, 32, 55]⟩ [32, 45, 32, 55] ?_ rfl (by simp) (by simp; omega) (by omega) ?_; (next => rfl); (next => rfl); intro v7 w7 HO7 HG7; have HD7 := HD5.behind HO7 HG7; obtain ⟨a7, c7, rfl⟩ := HD7.slices.2.2))
            go_roundw
            case rel => exact ⟨i + 1, _, _, _, _, _, _, _, _, _, by omega, (by show J + 1 + 2 = vD 4 * (i + 1) + 1; rw [show vD 4 = 2 from rfl, HJ.out]; omega), rfl, rfl, by go_num, dv_to HD7 (by rw [HJ.out]; rfl) (by simp [bld, vA]) rfl⟩
            case measure => simp [intOf]; omega
          · by_cases h5 : how = 5
            · have g2 : (z == 2) = false := by have := HZ.out; simp; omega
              have g3 : (z == 3) = false := by have := HZ.out; simp; omega
              have g4 : (z == 4) = false := by have := HZ.out; simp; omega
              have g5 : (z == 5) = true := by have := HZ.out; simp; omega
              subst h5
              obtain ⟨J, hJ⟩ : ∃ J, J = 2 * i := ⟨_, rfl⟩
              have hK3 : K = J + 1 := by rw [HK.out, show vD 5 = 2 from rfl, hJ]
              subst hK3
              have HJ : Hid (J = 2 * i) := hJ
              have hJ1 : J ≤ 2 * i := by omega
              clear hJ
              go_wp2_with (first
                | (at_builtin; refine wpList_append_dv (w := w) (wr := wr) (w0 := wr.alloc (.cells #[.int .i64 J, .int .i64 ((J : Int) + 1)] 3)) rfl _ _ rfl h _ _ _ (J + 1) na nb 2 (wr.heap.size + 1) _ _ _ [(nNum 0, .slice none 0 0), (nIx [(J : Int), ((J + 1 : Nat) : Int)], .slice (some ⟨wr.heap.size, 0, none⟩) 2 2)] ?_ HD ((Below.refl _ _).alloc (Nat.le_refl _) _) ?_ (by simp) rfl (by omega) rfl (by simp; exact ⟨OwnI.nil _ _, OwnI.lit wr _ (by omega) [(J : Int), ((J + 1 : Nat) : Int)] _ rfl (by simp)⟩) (by omega) ?_; (next => rfl); (next => rfl); intro v5 w5 hbox5 HD5; obtain ⟨a5, c5, rfl⟩ := HD5.slices.1
                   have y0 : w5.cell? ⟨h, 0, none⟩ = some (.slice a0 (J + 1) c0) := cell_arr hbox5 rfl
                   have yf : w5.frozen? ⟨h, 0, none⟩ = false := fz_of hbox5
                   have hlt5 := HD5.lt)
                | (at_builtin; refine wpList_append_strJ rfl _ _ rfl (h + 1) _ nb _ ?_ HD5.ob ⟨#[91, 48, 93]⟩ [91, 48, 93] ?_ rfl (by simp) (by simp; omega) (by omega) ?_; (next => rfl); (next => rfl); intro v7 w7 HO7 HG7; have HD7 := HD5.behind HO7 HG7; obtain ⟨a7, c7, rfl⟩ := HD7.slices.2.2))
              go_roundw
              case rel => exact ⟨i + 1, _, _, _, _, _, _, _, _, _, by omega, (by show J + 1 + 2 = vD 5 * (i + 1) + 1; rw [show vD 5 = 2 from rfl, HJ.out]; omega), rfl, rfl, by go_num, dv_to HD7 (by rw [HJ.out]; rfl) (by simp [bld, vA]) rfl⟩
              case measure => simp [intOf]; omega
            · have hvd : vD how = 1 := by simp [vD, h4, h5]
              have hK3 : K = i + 1 := by rw [HK.out, hvd, Nat.one_mul]
              subst hK3
              have HV : Hid (vD how = 1) := hvd
              clear hvd
              have g2 : (z == 2) = false := by have := HZ.out; simp; omega
              have g3 : (z == 3) = false := by have := HZ.out; simp; omega
              have g4 : (z == 4) = false := by have := HZ.out; simp; omega
              have g5 : (z == 5) = false := by have := HZ.out; simp; omega
              go_wp2_with (first
                | (at_builtin; refine wpList_append_dv (w := w) (wr := wr) (w0 := wr.alloc (.cells #[.int .i64 i] 3)) rfl _ _ rfl h _ _ _ (i + 1) na nb 1 (wr.heap.size + 1) _ _ _ [(nCall [103] [(i : Int)], .slice (some ⟨wr.heap.size, 0, none⟩) 1 1)] ?_ HD ((Below.refl _ _).alloc (Nat.le_refl _) _) ?_ (by simp) rfl (by omega) rfl (by simp; exact OwnI.lit wr _ (by omega) [(i : Int)] _ rfl (by simp)) (by omega) ?_; (next => rfl); (next => rfl); intro v5 w5 hbox5 HD5; obtain ⟨a5, c5, rfl⟩ := HD5.slices.1
                   have y0 : w5.cell? ⟨h, 0, none⟩ = some (.slice a0 (i + 1) c0) := cell_arr hbox5 rfl
                   have yf : w5.frozen? ⟨h, 0, none⟩ = false := fz_of hbox5
                   have hlt5 := HD5.lt)
                | (at_builtin; refine wpList_append_strJ rfl _ _ rfl (h + 1) _ na _ ?_ HD5.oa ⟨#[40, 103]⟩ [40, 103] ?_ rfl (by simp) (by simp; omega) (by omega) ?_; (next => rfl); (next => rfl); intro v6 w6 HO6 HG6; have HD6 := HD5.ahead HO6 HG6; have hlt6 := HD6.lt; obtain ⟨a6, c6, rfl⟩ := HD6.slices.2.1)
                | (at_builtin; refine wpList_append_byteJ rfl _ _ rfl (h + 1) _ nb _ 41 41 rfl w6.heap.size rfl ?_ HD6.ob ?_ (by omega) (by omega) ?_; (next => rfl); (next => rfl); intro v7 w7 HO7 HG7; have HD7 := HD6.behind HO7 HG7; obtain ⟨a7, c7, rfl⟩ := HD7.slices.2.2))
              go_roundw
              case rel => exact ⟨i + 1, _, _, _, _, _, _, _, _, _, by omega, (by show i + 1 + 1 = vD how * (i + 1) + 1; rw [HV.out, Nat.one_mul]), rfl, rfl, by go_num, dv_to HD7 (by simp [bld, vS, h2, h3, h4, h5]) (by simp [bld, vA, h2, h3, h4, h5]) (by simp [bld, vB, h2, h3, h4, h5])⟩
              case measure => simp [intOf]; omega
    · have him : i = m := by omega
      subst him
      obtain ⟨J, hJ⟩ : ∃ J, J = vD how * i := ⟨_, rfl⟩
      have hKJ : K = J + 1 := by rw [HK.out, hJ]
      subst hKJ
      have HJ : Hid (J = vD how * i) := hJ
      clear hJ hlt hi
      have hle := HD.le
      obtain ⟨hle1, hle2⟩ := hle
      have HL : Hid (na = (bld [] (vA how) i).length) := HD.oa.len
      generalize hAA : bld [] (vA how) i = A at HD HL
      have HAA : Hid (bld [] (vA how) i = A) := hAA
      clear hAA
      go_wp2_with fail
      go_loopw [11, 12] (fun iv jv wr => ∃ (p : Nat) (q : Int), iv = .int .i64 p ∧ jv = .int .i64 q ∧ q + p + 1 ≤ na ∧ (na : Int) ≤ q + p + 1 ∧ p ≤ na ∧ DV w wr h (.slice a0 (J + 1) c0) (.slice a1 na c1) (.slice a2 nb c2) (J + 1) na nb (bld [nA] (vS how) i) (rv A p) (bld [] (vB how) i)) (fun iv _ _ => na - (intOf iv).toNat)
      case atStart => exact ⟨0, (na : Int) - 1, rfl, by go_num, by omega, by omega, by omega, dv_to HD rfl (rv_zero A).symm rfl⟩
      case round =>
        clear HD x0 hlt0
        obtain ⟨p, q, rfl, rfl, hq1, hq2, hp, HD⟩ := hrel
        by_cases hlt : (p : Int) < q
        · obtain ⟨Q, rfl⟩ : ∃ Q : Nat, q = (Q : Int) := ⟨q.toNat, by omega⟩
          obtain ⟨g, rfl, _, _, hgh⟩ := HD.blkA (by omega)
          have hpA : p < (rv A p).length := by rw [rv_len, ← HL.out]; omega
          have hqA : Q < (rv A p).length := by rw [rv_len, ← HL.out]; omega
          obtain ⟨r1, f1⟩ := HD.cellA p hpA
          obtain ⟨r2, f2⟩ := HD.cellA Q hqA
          obtain ⟨cp, hcp⟩ : ∃ c, c = (rv A p)[p] := ⟨_, rfl⟩
          obtain ⟨cq, hcq⟩ : ∃ c, c = (rv A p)[Q] := ⟨_, rfl⟩
          rw [← hcp] at r1
          rw [← hcq] at r2
          have HD2 := (HD.setA p cq).setA Q cp
          rw [rv_step A p Q (by rw [← HL.out]; omega) (by omega) cp cq hcp hcq] at HD2
          have hne : ¬ p = Q := by omega
          have hne2 : ¬ Q = p := by omega
          clear hcp hcq
          go_wp2_with fail
          go_roundw
          case rel => exact ⟨p + 1, (Q : Int) - 1, by go_num, by go_num, by omega, by omega, by omega, HD2⟩
          case measure => simp [intOf]; omega
        · rw [rv_end A p (by rw [← HL.out]; omega)] at HD
          have hlt0 := HD.lt
          have x0 : wr.cell? ⟨h, 0, none⟩ = some (.slice a0 (J + 1) c0) := cell_arr HD.box rfl
          obtain ⟨_, _, e1, _, hT1⟩ := HD.oa.view
          cases e1
          obtain ⟨_, _, e2, _, hT2⟩ := HD.ob.view
          cases e2
          have hcv1 := hT1.conv na HD.oa.len
          have hcv2 := hT2.conv nb HD.ob.len
          obtain ⟨sA, hsA⟩ : ∃ s, s = bs A.reverse := ⟨_, rfl⟩
          obtain ⟨sB, hsB⟩ : ∃ s, s = bs (bld [] (vB how) i) := ⟨_, rfl⟩
          rw [← hsA] at hcv1
          rw [← hsB] at hcv2
          have hzA : sA.size ≤ 100000 := by rw [hsA, bs_size, List.length_reverse, ← HL.out]; omega
          have hzB : sB.size ≤ 100000 := by rw [hsB, bs_size, ← HD.ob.len]; omega
          have HSA : Hid (sA = bs A.reverse) := hsA
          have HSB : Hid (sB = bs (bld [] (vB how) i)) := hsB
          clear hsA hsB hT1 hT2
          go_wp2_with (first
            | (at_builtin; refine wpList_append_dv (w := w) (wr := wr) (w0 := ((wr.alloc (.cells #[.int .i64 J] 3)).alloc (.cells #[.int .i64 ((J : Int) + 1)] 3)).alloc (.cells #[.int .i64 ((J : Int) + 1 + 1)] 3)) rfl _ _ rfl h _ _ _ (J + 1) na nb 3 (wr.heap.size + 1 + 1 + 1) _ _ _ [(nPr [(J : Int)], .slice (some ⟨wr.heap.size, 0, none⟩) 1 1), (nBk [((J + 1 : Nat) : Int)], .slice (some ⟨wr.heap.size + 1, 0, none⟩) 1 1), (nFn [109, 97, 105, 110] [((J + 2 : Nat) : Int)], .slice (some ⟨wr.heap.size + 1 + 1, 0, none⟩) 1 1)] ?_ HD ((((Below.refl _ _).alloc (Nat.le_refl _) _).alloc (by simp) _).alloc (by simp; omega) _) ?_ (by simp) rfl (by omega) rfl (lit3 wr h J hlt0) (by omega) ?_; (next => rfl); (next => rfl); intro v5 w5 hbox5 HD5; obtain ⟨a5, c5, rfl⟩ := HD5.slices.1
               have y0 : w5.cell? ⟨h, 0, none⟩ = some (.slice a0 (J + 1) c0) := cell_arr hbox5 rfl
               have y1 : w5.cell? ⟨h, 1, none⟩ = some (.slice none 0 0) := cell_arr hbox5 rfl
               have yf : w5.frozen? ⟨h, 0, none⟩ = false := fz_of hbox5
               have yg : w5.frozen? ⟨h, 1, none⟩ = false := fz_of hbox5
               have hlt5 := (Array.getElem?_eq_some_iff.1 hbox5).1))
          obtain ⟨HF, hbF⟩ := HD5.fin ((J + 3 : Nat) : Int) ((J : Int) + 1 + 2) (by omega) w5.heap.size (by simp [World.setCell])
          have HP : Hid (PrintsOKx (vN how i) [((J + 3 : Nat) : Int)] ⟨[], [], 0⟩ ⟨vT how i, [], 0⟩) := by have h := vN_prints (how := how) hmm; rw [← HJ.out] at h; exact h
          have HC : Hid (chk ⟨vN how i, [((J + 3 : Nat) : Int)]⟩ = true) := by have h := vN_chk how i; rw [← HJ.out] at h; exact h
          have eL : bld [nA] (vS how) i ++ [nPr [(J : Int)], nBk [((J + 1 : Nat) : Int)], nFn [109, 97, 105, 110] [((J + 2 : Nat) : Int)]] = vN how i := by rw [HJ.out]; rfl
          have HF2 : DF (((w5.setCell ⟨h, 0, none⟩ (.slice a5 (J + 1 + 3) c5)).setCell ⟨h, 1, none⟩ (.slice (some ⟨w5.heap.size, 0, none⟩) 1 1)).alloc (.cells #[.int .i64 ((J : Int) + 1 + 2)] 3)) h (.slice a5 (J + 1 + 3) c5) (J + 1 + 3) w5.heap.size ((J + 3 : Nat) : Int) (vN how i) := by rw [← eL]; exact HF
          clear HF eL HD HD5 hbox5 hcv1 hcv2 x0 y0 y1 yf yg
          generalize ((w5.setCell ⟨h, 0, none⟩ (.slice a5 (J + 1 + 3) c5)).setCell ⟨h, 1, none⟩ (.slice (some ⟨w5.heap.size, 0, none⟩) 1 1)).alloc (.cells #[.int .i64 ((J : Int) + 1 + 2)] 3) = w8 at *
          have hbw8 : Below w.heap.size w w8 := by rw [← HHH.out]; exact hbF
          refine (check_nl (HA.out.below hbw8) HF2.nl (by omega) HF2.fu HC.out).mono ?_
          rintro e w9 ⟨rfl, hb9⟩
          have HF9 := HF2.keep hb9
          have hbw9 : Below w.heap.size w w9 := hbw8.trans (hb9.mono hbw8.size)
          have v0 : w9.cell? ⟨h, 0, none⟩ = some (.slice a5 (J + 1 + 3) c5) := cell_arr HF9.box rfl
          have v1 : w9.cell? ⟨h, 1, none⟩ = some (.slice (some ⟨w5.heap.size, 0, none⟩) 1 1) := cell_arr HF9.box rfl
          clear hb9 HF2 hbF
          go_wp2_with fail
          refine (print_nl (HA.out.below hbw9) HF9.nl (by omega) HF9.fu HC.out HP.out).mono ?_
          rintro e w10 ⟨⟨bv, bn, rfl, HB⟩, hb10⟩
          have hbw10 : Below w.heap.size w w10 := hbw9.trans (hb10.mono hbw9.size)
          obtain ⟨ba, bc, rfl, _, hT⟩ := HB.view
          have HT : Hid (Txt w10 ba bc (vT how i) ∧ bn = (vT how i).length) := ⟨hT, HB.len⟩
          have HTX : Hid (bs (vT how i) = ⟨#[102, 117, 110, 99, 32, 109, 97, 105, 110, 40, 41, 32, 123, 10, 9, 112, 114, 105, 110, 116, 40]⟩ ++ (sA ++ ⟨#[97]⟩ ++ sB) ++ ⟨#[41, 59, 10, 125, 10]⟩) := by rw [HSA.out, HSB.out, ← HAA.out]; exact vT_bs how i
          have ALV : ∀ wx, Below w10.heap.size w10 wx → Calls Tryd.prog 7 #[] wx fun e w' => e = .returned (.bool true) ∧ Below wx.heap.size wx w' := fun wx hx => alive3_any wx (HA.out.below (hbw10.trans (hx.mono hbw10.size)))
          clear v0 v1 HF9 hb10 hT HB
          go_wp2_with (first
            | (go_at_call 7; refine (ALV _ (Below.refl _ _)).mono ?_; rintro e w11 ⟨rfl, hb11⟩
               have hcv := (HT.out.1.below hb11 (Nat.le_refl _)).conv bn HT.out.2
               rw [HTX.out] at hcv
               have hbw11 : Below w.heap.size w w11 := hbw10.trans (hb11.mono hbw10.size)
               clear hb11 ALV)
            | (go_at_call 9; refine (num3_any _ _).mono ?_; rintro e w' ⟨rfl, rfl⟩))
          go_ret
          exact ⟨rfl, hbw11⟩


set_option maxRecDepth 10000 in
set_option maxHeartbeats 1000000 in
theorem treeDeep_any (w : World) (hA : AllTab w) (hw nn : Int) :
    Calls Tryd.prog 5 #[.int .i64 hw, .int .i64 nn] w fun e w' => e = .returned (.bool true) ∧ Below w.heap.size w w' := by
  obtain ⟨q, hq7, hq⟩ := and_small hw 7 (by omega)
  obtain ⟨m, hmm, hm⟩ := and_small nn 16383 (by omega)
  by_cases h0 : q = 0
  · subst h0
    obtain ⟨m2, hmm2, hm2⟩ := and_small (m : Int) 1023 (by omega)
    exact deep_blocks w hA hw nn hq m hm m2 hm2 hmm2
  · by_cases h1 : q = 1
    · subst h1
      exact deep_ifs w hA hw nn hq m hm hmm
    · have hq' : bits BinOp.and IntKind.i64 hw 7 = (q : Int) := hq
      have hm' : bits BinOp.and IntKind.i64 nn 16383 = (m : Int) := hm
      have hgt : 1 < (q : Int) := by omega
      have DVA := deepValue_any w hA q m (q : Int) rfl hmm
      clear hq hm hA
      go_enter Tryd.func5, Tryd.ntmps5
      go_wp2_with (first | (go_at_call 14; refine DVA.mono ?_; rintro e w' ⟨rfl, hb⟩))
      go_ret
      exact ⟨rfl, hb⟩
end Go.Proofs.YtjepkcebfojiaaaDoor
