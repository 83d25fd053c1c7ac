import Derived.Test.YtpgbkkllnbahpaaScX
set_option linter.unusedVariables false
set_option linter.unusedSimpArgs false
namespace Go.Proofs.Ytpgbkkllnbahpaa
open Go.ChangeShapes Go.WideShapes Go.ChangeAt Go.RowKit Go.Maps

theorem any_step {S : List Iv} {j : Nat} (h : j < S.length) (r : Int) : (S.take (j + 1)).any (fun y => decide (y.1 = r)) = ((S.take j).any (fun y => decide (y.1 = r)) || decide (S[j].1 = r)) := by
  rw [← List.take_append_getElem h, List.any_append]
  simp
/-- One interval appended. -/
theorem run_append_iv1 {w : World} {B : Nat} {v : Value} {A : List Iv} (h : Row w B 35 3 v (A.map vc)) (x : Iv) (hs : A.length + 1 ≤ 1000000000) (hB : B ≤ w.heap.size) :
    ∃ v' w', (Builtin.append_ #[22, 22] 22 #[v, .slice (some ⟨w.heap.size, 0, none⟩) 1 1]).run Try.prog (w.alloc (.cells #[.int .i64 x.1, .int .i64 x.2.1, .int .i64 x.2.2] 35)) = .ok v' w' ∧ Row w' B 35 3 v' ((A ++ [x]).map vc) ∧ GI B w w' v v' := by
  obtain ⟨i0, hi, hz0, hz1, hz2⟩ := info_parts info_iv
  have hh := heap_alloc_new w (.cells #[.int .i64 x.1, .int .i64 x.2.1, .int .i64 x.2.2] 35)
  have hk : Row (w.alloc (.cells #[.int .i64 x.1, .int .i64 x.2.1, .int .i64 x.2.2] 35)) B 35 3 v (A.map vc) := h.keep ((Below.refl _ _).alloc (Nat.le_refl _) _)
  obtain ⟨v', w', hr, h2, h3, h4⟩ := run_append_where (P := Try.prog) (w := w.alloc (.cells #[.int .i64 x.1, .int .i64 x.2.1, .int .i64 x.2.2] 35)) B 22 22 35 i0 _ 3 24 Try.underlying22 hi hz0 hz1 hz2 rfl (by decide) v _ _ hk.out ⟨w.heap.size, 0, none⟩ 1 1 (by omega) (vc x) rfl (fun j u hu => by
    rw [add_none, Nat.zero_add]
    have hj : j < 3 := by have := (List.getElem?_eq_some_iff.1 hu).1; simpa [vc] using this
    have h3 : j = 0 ∨ j = 1 ∨ j = 2 := by omega
    rcases h3 with rfl | rfl | rfl <;> simp [vc] at hu <;> subst hu
    · exact cell_arr hh rfl
    · exact cell_arr hh rfl
    · exact cell_arr hh rfl) (fun u hu => by simp [vc] at hu; rcases hu with rfl | rfl | rfl <;> rfl) (by simp; unfold maxLen; omega) (by simp; omega) (by simp; omega)
  refine ⟨v', w', hr, ⟨by simpa using h2, fun y hy => by obtain ⟨_, _, rfl⟩ := List.mem_map.1 hy; rfl⟩, gi_of h.out hB h3 h4⟩
set_option maxRecDepth 100000 in
set_option maxHeartbeats 8000000 in
theorem sorted_any (w : World) (ao : Option Addr) (n c : Nat) (L : List Iv) (hn : n = L.length) (h : Ivs w ao c L) : Calls Try.prog 15 #[.slice ao n c] w fun e w' => ∃ S v, e = .returned v ∧ Row w' w.heap.size 35 3 v (S.map vc) ∧ Srt S ∧ S.length ≤ 3000 ∧ Below w.heap.size w w' := by
  have HN : Hid (n = L.length) := hn
  have hnc : n ≤ c := by have := h.le; omega
  have hcm : c ≤ 9223372036854775807 := h.mx
  have HH : Hid (Ivs w ao c L) := h
  clear h hn
  go_enter Try.func15, Try.ntmps15
  go_wp2_with fail
  go_loopw [3, 4] (fun u v wr => ∃ (k : Nat) (S : List Iv), k ≤ n ∧ k ≤ 3000 ∧ v = .int .i64 k ∧ Hid (Row wr w.heap.size 35 3 u (S.map vc)) ∧ Hid (Srt S ∧ S.length ≤ k) ∧ Hid (Below w.heap.size w wr)) (fun _ v _ => n - (intOf v).toNat)
  case atStart => exact ⟨0, [], by omega, by omega, rfl, Row.nil _ _ _ _, ⟨⟨by simp, by simp, by simp, by simp⟩, by simp⟩, Below.refl _ _⟩
  case round =>
    obtain ⟨k, S, hk, hk3, rfl, HR, HS, HB⟩ := hrel
    obtain ⟨wq, rfl⟩ : ∃ wq, wq = wr := ⟨_, rfl⟩
    obtain ⟨so, sn, sc, rfl, hsn, hs1, hs2⟩ := row_sl HR.out
    have HSN : Hid (sn = S.length) := by show sn = _; rw [hsn]; simp
    clear hsn
    by_cases hlt : k < n
    · by_cases hlt3 : k < 3000
      · have hk2 : k < L.length := by have := HN.out; omega
        obtain ⟨b, o, rfl, hbw, c0, c1, c2⟩ := (HH.out.below HB.out (Nat.le_refl _)).at hk2
        have HF : Hid (FitV L[k]) := HH.out.fit _ (List.getElem_mem hk2)
        generalize L[k] = y at c0 c1 c2 HF
        have HBB : Hid (Below w.heap.size w (wq.alloc (.cells #[.int .i64 y.1, .int .i64 y.2.1, .int .i64 y.2.2] 35))) := HB.out.alloc HB.out.size _
        have HRB : Hid (Row (wq.alloc (.cells #[.int .i64 y.1, .int .i64 y.2.1, .int .i64 y.2.2] 35)) w.heap.size 35 3 (.slice so sn sc) (S.map vc)) := HR.out.keep ((Below.refl _ _).alloc (Nat.le_refl _) _)
        have HXB : Hid (BxV (wq.alloc (.cells #[.int .i64 y.1, .int .i64 y.2.1, .int .i64 y.2.2] 35)) wq.heap.size y) := ⟨heap_alloc_new _ _⟩
        have HSZ : Hid (w.heap.size ≤ wq.heap.size) := HB.out.size
        clear hk2
        by_cases h0 : 0 ≤ y.1
        · by_cases h1 : y.1 < 262144
          · by_cases h2 : y.2.1 ≤ y.2.2
            · have t1 : decide (262144 ≤ y.1) = false := by simp; omega
              have t2 : decide (y.2.2 < y.2.1) = false := by simp; omega
              have t3 : decide (y.1 < 0) = false := by simp; omega
              have HOK : Hid (okI y = true) := by show okI y = true; simp [okI, h0, h1, h2]
              go_wp2_with fail
              obtain ⟨W1, hW1⟩ : ∃ W1, W1 = wq.alloc (.cells #[.int .i64 y.1, .int .i64 y.2.1, .int .i64 y.2.2] 35) := ⟨_, rfl⟩
              rw [← hW1] at HBB HRB HXB ⊢
              have HXN : Hid (∀ g, (Value.slice so sn sc).ownBlock = some g → g ≠ wq.heap.size) := fun g hg e => by have := (own_block HR.out.out hg).2; omega
              generalize wq.heap.size = xb at HXB HSZ HXN ⊢
              clear c0 c1 c2 hbw hW1 HR HB t1 t2 t3
              go_loopw [6, 7] (fun t v wr => ∃ j : Nat, j ≤ sn ∧ v = .int .i64 j ∧ t = .bool ((S.take j).any fun z => decide (z.1 = y.1)) ∧ Hid (Below W1.heap.size W1 wr)) (fun _ v _ => sn - (intOf v).toNat)
              case atStart => exact ⟨0, by omega, rfl, rfl, Below.refl _ _⟩
              case round =>
                obtain ⟨j, hj, rfl, rfl, HW⟩ := hrel
                obtain ⟨wz, rfl⟩ : ∃ wz, wz = wr := ⟨_, rfl⟩
                by_cases hjl : j < sn
                · have hj2 : j < S.length := by have := HSN.out; omega
                  have RZ := HRB.out.keep HW.out
                  have XZ := HXB.out.keep HW.out
                  obtain ⟨sb, _, e, _, _, _, hsb⟩ := own_some RZ.out (by simp; omega)
                  simp only [Value.slice.injEq] at e
                  obtain ⟨rfl, e1, e2⟩ := e
                  clear e1 e2
                  obtain ⟨d0, d1, d2⟩ := row_vc RZ HSN.out hj2
                  obtain ⟨x0, x1, x2⟩ := XZ.cells
                  have hxl := XZ.lt
                  have HA : Hid ((S.take (j + 1)).any (fun z => decide (z.1 = y.1)) = ((S.take j).any (fun z => decide (z.1 = y.1)) || decide (S[j].1 = y.1))) := any_step hj2 y.1
                  generalize S[j] = z at d0 d1 d2 HA
                  have HW2 : Hid (∀ q, Below W1.heap.size W1 (wz.drewN q)) := fun q => below_dn HW.out q
                  cases ht : (S.take j).any (fun z => decide (z.1 = y.1)) with
                  | true =>
                    rw [ht] at HA
                    have HA2 : Hid ((S.take (j + 1)).any (fun z => decide (z.1 = y.1)) = true) := by rw [HA.out]; simp [Hid]
                    clear ht HA RZ XZ hj2
                    go_wp2_with fail
                    go_quiet (fail)
                    go_wp2_with fail
                    go_roundw
                    case rel => exact ⟨j + 1, by omega, by go_num, by rw [HA2.out], HW2.out _⟩
                    case measure => simp [intOf]; omega
                  | false =>
                    rw [ht, Bool.false_or] at HA
                    by_cases hz : z.1 = y.1
                    · have HA2 : Hid ((S.take (j + 1)).any (fun z => decide (z.1 = y.1)) = true) := by rw [HA.out]; simp [Hid, hz]
                      rw [hz] at d0
                      clear ht HA RZ XZ hj2
                      go_wp2_with fail
                      go_quiet (fail)
                      go_wp2_with fail
                      go_roundw
                      case rel => exact ⟨j + 1, by omega, by go_num, by rw [HA2.out], HW2.out _⟩
                      case measure => simp [intOf]; omega
                    · have HA2 : Hid ((S.take (j + 1)).any (fun z => decide (z.1 = y.1)) = false) := by rw [HA.out]; simp [Hid, hz]
                      have hzb : (z.1 == y.1) = false := by simpa using hz
                      clear ht HA RZ XZ hj2
                      go_wp2_with fail
                      go_quiet (fail)
                      go_wp2_with fail
                      go_roundw
                      case rel => exact ⟨j + 1, by omega, by go_num, by rw [HA2.out], HW2.out _⟩
                      case measure => simp [intOf]; omega
                · obtain rfl : j = sn := by omega
                  have HTK : Hid (S.take j = S) := List.take_of_length_le (by have := HSN.out; omega)
                  rw [HTK.out]
                  cases ht : S.any (fun z => decide (z.1 = y.1)) with
                  | true =>
                    have HR3 := show Hid _ from HRB.out.keep HW.out
                    have HB3 : Hid (Below w.heap.size w wz) := HBB.out.trans (HW.out.mono HBB.out.size)
                    go_wp2_with fail
                    go_roundw
                    case rel => exact ⟨k + 1, S, by omega, by omega, by go_num, HR3.out, ⟨HS.out.1, by have := HS.out.2; omega⟩, HB3.out⟩
                    case measure => simp [intOf]; omega
                  | false =>
                    have R3 := HRB.out.keep HW.out
                    have X3 := HXB.out.keep HW.out
                    have HB3 : Hid (Below w.heap.size w wz) := HBB.out.trans (HW.out.mono HBB.out.size)
                    obtain ⟨v4, w4, hr4, R4, G4⟩ := run_append_iv1 R3 y (by have := HS.out.2; omega) HB3.out.size
                    obtain ⟨x0, x1, x2⟩ := X3.cells
                    have hxl := X3.lt
                    have HB4 : Hid (Below w.heap.size w w4) := HB3.out.trans G4.bel
                    obtain ⟨gb, gc, e, g1, g2, _, gbl⟩ := own_some R4.out (by simp)
                    have e9 : (List.map vc (S ++ [y])).length = j + 1 := by have := HSN.out; simp; omega
                    rw [e9] at e g1
                    subst e
                    have HR4 : Hid (Row w4 w.heap.size 35 3 (.slice (some ⟨gb, 0, none⟩) (j + 1) gc) ((insJ S j y).map vc)) := by
                      have : insJ S j y = S ++ [y] := by have := HSN.out; unfold insJ; rw [List.take_of_length_le (by omega), List.drop_of_length_le (by omega)]
                      rw [this]; exact R4
                    have HNY : Hid (y.1 ∉ S.map (·.1)) := fun q => by
                      obtain ⟨z, hz, e⟩ := List.mem_map.1 q
                      have := List.any_eq_false.1 ht z hz
                      simp [e] at this
                    clear R3 X3 R4 G4 e9 ht HTK gbl
                    have hjm : j ≤ 3000 := by have := HS.out.2; have := HSN.out; omega
                    go_wp2_with (at_builtin; refine wpList_append_run rfl _ _ 22 22 rfl _ _ rfl rfl hr4 ?_)
                    clear hr4 x0 x1 x2 hxl HXB HRB HBB HW
                    go_loopw [8] (fun v wr => ∃ i : Nat, i ≤ j ∧ v = .int .i64 i ∧ Hid (Row wr w.heap.size 35 3 (.slice (some ⟨gb, 0, none⟩) (j + 1) gc) ((insJ S i y).map vc)) ∧ Hid (∀ q (hq : q < S.length), i ≤ q → upI y S[q] = true) ∧ Hid (Below w.heap.size w wr)) (fun v _ => (intOf v).toNat)
                    case atStart => exact ⟨j, by omega, by first | rfl | go_num, HR4.out, fun q hq hq2 => by have := HSN.out; omega, HB4.out⟩
                    case round =>
                      obtain ⟨i, hi, rfl, HR5, HU, HB5⟩ := hrel
                      obtain ⟨w5, rfl⟩ : ∃ w5, w5 = wr := ⟨_, rfl⟩
                      have hil : i ≤ S.length := by have := HSN.out; omega
                      cases i with
                      | zero =>
                        have HSR : Hid (Srt (insJ S 0 y) ∧ (insJ S 0 y).length ≤ k + 1) := ⟨HS.out.1.ins HOK.out HF.out HNY.out (by omega) (fun q hq _ => HU.out q hq (by omega)) (fun hp => by omega), by rw [insJ_len (by omega)]; have := HS.out.2; omega⟩
                        have HW5 : Hid (∀ q, Below w.heap.size w (w5.drewN q)) := fun q => below_dn HB5.out q
                        have HR6 : Hid (∀ q, Row (w5.drewN q) w.heap.size 35 3 (.slice (some ⟨gb, 0, none⟩) (j + 1) gc) ((insJ S 0 y).map vc)) := fun q => HR5.out.keep (below_drewN0 _ _)
                        go_wp2_with fail
                        go_quiet (fail)
                        go_wp2_with fail
                        go_roundw
                        case rel => exact ⟨k + 1, insJ S 0 y, by omega, by omega, by go_num, HR6.out _, HSR.out, HW5.out _⟩
                        case measure => simp [intOf]; omega
                      | succ i =>
                        have hsl : (insJ S (i + 1) y).length = j + 1 := by rw [insJ_len hil]; have := HSN.out; omega
                        obtain ⟨d0, d1, d2⟩ := row_vc HR5.out hsl.symm (k := i) (by omega)
                        obtain ⟨e0, e1, e2⟩ := row_vc HR5.out hsl.symm (k := i + 1) (by omega)
                        rw [insJ_lt hil] at d0 d1 d2
                        rw [insJ_at hil] at e0 e1 e2
                        have hgl := (own_block HR5.out.out (g := gb) rfl).2
                        have hi1 : ((i : Int) + 1).toNat = i + 1 := by omega
                        have hi2 : (0 : Int) < (i : Int) + 1 := by omega
                        have hi3 : (i : Int) + 1 < (j : Int) + 1 := by omega
                        have hi4 : (0 : Int) ≤ (i : Int) + 1 := by omega
                        have hi5 : (i : Int) < (j : Int) + 1 := by omega
                        cases hu : upI y (S[i]'(by omega)) with
                        | false =>
                          have HSR : Hid (Srt (insJ S (i + 1) y) ∧ (insJ S (i + 1) y).length ≤ k + 1) := ⟨HS.out.1.ins HOK.out HF.out HNY.out hil (fun q hq h => HU.out q hq h) (fun hp => by simpa using hu), by rw [insJ_len hil]; have := HS.out.2; omega⟩
                          have HW5 : Hid (∀ q, Below w.heap.size w (w5.drewN q)) := fun q => below_dn HB5.out q
                          have HR6 : Hid (∀ q, Row (w5.drewN q) w.heap.size 35 3 (.slice (some ⟨gb, 0, none⟩) (j + 1) gc) ((insJ S (i + 1) y).map vc)) := fun q => HR5.out.keep (below_drewN0 _ _)
                          generalize S[i]'(by omega) = z at d0 d1 d2 hu
                          obtain ⟨z0, z1, z2⟩ := z
                          simp only at d0 d1 d2
                          have hu2 : ¬ upI y (z0, z1, z2) = true := by rw [hu]; simp
                          rw [up_iff] at hu2
                          simp only at hu2
                          clear hu
                          by_cases hz : z1 = y.2.1
                          · subst hz
                            have t1 : decide (y.1 < z0) = false := by simp; omega
                            clear hu2
                            go_wp2_with fail
                            go_quiet (fail)
                            go_wp2_with fail
                            go_roundw
                            case rel => exact ⟨k + 1, insJ S (i + 1) y, by omega, by omega, by go_num, HR6.out _, HSR.out, HW5.out _⟩
                            case measure => simp [intOf]; omega
                          · have t1 : decide (y.2.1 < z1) = false := by simp; omega
                            have t2 : (z1 == y.2.1) = false := by simpa using hz
                            clear hu2
                            go_wp2_with fail
                            go_quiet (fail)
                            go_wp2_with fail
                            go_roundw
                            case rel => exact ⟨k + 1, insJ S (i + 1) y, by omega, by omega, by go_num, HR6.out _, HSR.out, HW5.out _⟩
                            case measure => simp [intOf]; omega
                        | true =>
                          have HU2 : Hid (∀ q (hq : q < S.length), i ≤ q → upI y S[q] = true) := fun q hq h => by
                            by_cases e : q = i
                            · subst e; exact hu
                            · exact HU.out q hq (by omega)
                          have fz := fun q => own_fz (g := gb) (by have := HR5.out.out; rw [show (List.map vc (insJ S (i + 1) y)).length = j + 1 by rw [List.length_map, hsl]] at this; exact this) q
                          have fa := fz (i * 3)
                          have fb := fz (i * 3 + 1)
                          have fc := fz (i * 3 + 2)
                          have fd := fz ((i + 1) * 3)
                          have fe := fz ((i + 1) * 3 + 1)
                          have ff := fz ((i + 1) * 3 + 2)
                          generalize hzz : S[i]'(by omega) = z at d0 d1 d2 hu
                          obtain ⟨z0, z1, z2⟩ := z
                          simp only at d0 d1 d2
                          rw [up_iff] at hu
                          simp only at hu
                          have HZZ : Hid (S[i]'(by omega) = (z0, z1, z2)) := hzz
                          have HSL : Hid ((insJ S (i + 1) y).length = j + 1) := hsl
                          clear hzz fz hsl
                          by_cases hz : y.2.1 < z1
                          · clear hu
                            go_wp2_with fail
                            go_quiet (fail)
                            have HR6 : Hid (Row (w5.drewN nq) w.heap.size 35 3 (.slice (some ⟨gb, 0, none⟩) (j + 1) gc) ((insJ S (i + 1) y).map vc)) := HR5.out.keep (below_drewN0 _ _)
                            have HB6 : Hid (Below w.heap.size w (w5.drewN nq)) := below_dn HB5.out nq
                            obtain ⟨w6, hw6⟩ : ∃ w6, w6 = w5.drewN nq := ⟨_, rfl⟩
                            rw [← hw6] at HR6 HB6 ⊢
                            clear hw6 d0 d1 d2 e0 e1 e2 fa fb fc fd fe ff hgl HR5 HB5
                            obtain ⟨d0, d1, d2⟩ := row_vc HR6.out HSL.out.symm (k := i) (by have := HSL.out; omega)
                            obtain ⟨e0, e1, e2⟩ := row_vc HR6.out HSL.out.symm (k := i + 1) (by have := HSL.out; omega)
                            rw [insJ_lt hil, HZZ.out] at d0 d1 d2
                            rw [insJ_at hil] at e0 e1 e2
                            simp only at d0 d1 d2
                            have hgl := (own_block HR6.out.out (g := gb) rfl).2
                            have fz := fun q => own_fz (g := gb) (by have := HR6.out.out; rw [show (List.map vc (insJ S (i + 1) y)).length = j + 1 by rw [List.length_map, HSL.out]] at this; exact this) q
                            have fa := fz (i * 3)
                            have fb := fz (i * 3 + 1)
                            have fc := fz (i * 3 + 2)
                            have fd := fz ((i + 1) * 3)
                            have fe := fz ((i + 1) * 3 + 1)
                            have ff := fz ((i + 1) * 3 + 2)
                            clear fz
                            have HR7 : Hid (Row ((((((w6.setCell ⟨gb, i * 3, none⟩ (.int .i64 y.1)).setCell ⟨gb, i * 3 + 1, none⟩ (.int .i64 y.2.1)).setCell ⟨gb, i * 3 + 2, none⟩ (.int .i64 y.2.2)).setCell ⟨gb, (i + 1) * 3, none⟩ (.int .i64 z0)).setCell ⟨gb, (i + 1) * 3 + 1, none⟩ (.int .i64 z1)).setCell ⟨gb, (i + 1) * 3 + 2, none⟩ (.int .i64 z2)) w.heap.size 35 3 (.slice (some ⟨gb, 0, none⟩) (j + 1) gc) ((insJ S i y).map vc)) := by
                              have h9 := row_vc_set (row_vc_set HR6.out HSL.out.symm (q := i) (by have := HSL.out; omega) y) (by rw [List.length_set, HSL.out]) (q := i + 1) (by rw [List.length_set, HSL.out]; omega) (z0, z1, z2)
                              rw [← HZZ.out, insJ_swap hil] at h9
                              rw [HZZ.out] at h9
                              exact h9
                            have hgb : w.heap.size ≤ gb := (own_block HR6.out.out (g := gb) rfl).1
                            have HB7 : Hid (Below w.heap.size w ((((((w6.setCell ⟨gb, i * 3, none⟩ (.int .i64 y.1)).setCell ⟨gb, i * 3 + 1, none⟩ (.int .i64 y.2.1)).setCell ⟨gb, i * 3 + 2, none⟩ (.int .i64 y.2.2)).setCell ⟨gb, (i + 1) * 3, none⟩ (.int .i64 z0)).setCell ⟨gb, (i + 1) * 3 + 1, none⟩ (.int .i64 z1)).setCell ⟨gb, (i + 1) * 3 + 2, none⟩ (.int .i64 z2))) :=
                              (((((HB6.out.setCell (p := ⟨gb, i * 3, none⟩) hgb _).setCell (p := ⟨gb, i * 3 + 1, none⟩) hgb _).setCell (p := ⟨gb, i * 3 + 2, none⟩) hgb _).setCell (p := ⟨gb, (i + 1) * 3, none⟩) hgb _).setCell (p := ⟨gb, (i + 1) * 3 + 1, none⟩) hgb _).setCell (p := ⟨gb, (i + 1) * 3 + 2, none⟩) hgb _
                            go_wp2_with fail
                            go_roundw
                            case rel => exact ⟨i, by omega, by first | rfl | go_num, HR7.out.keep ((Below.refl _ _).alloc (Nat.le_refl _) _), HU2.out, HB7.out.alloc HB7.out.size _⟩
                            case measure => first | (simp [intOf]; done) | (simp [intOf]; omega)
                          · have hz1 : z1 = y.2.1 := by omega
                            have hz2 : y.1 < z0 := by omega
                            subst hz1
                            clear hu hz
                            go_wp2_with fail
                            go_quiet (fail)
                            have HR6 : Hid (Row (w5.drewN nq) w.heap.size 35 3 (.slice (some ⟨gb, 0, none⟩) (j + 1) gc) ((insJ S (i + 1) y).map vc)) := HR5.out.keep (below_drewN0 _ _)
                            have HB6 : Hid (Below w.heap.size w (w5.drewN nq)) := below_dn HB5.out nq
                            obtain ⟨w6, hw6⟩ : ∃ w6, w6 = w5.drewN nq := ⟨_, rfl⟩
                            rw [← hw6] at HR6 HB6 ⊢
                            clear hw6 d0 d1 d2 e0 e1 e2 fa fb fc fd fe ff hgl HR5 HB5
                            obtain ⟨d0, d1, d2⟩ := row_vc HR6.out HSL.out.symm (k := i) (by have := HSL.out; omega)
                            obtain ⟨e0, e1, e2⟩ := row_vc HR6.out HSL.out.symm (k := i + 1) (by have := HSL.out; omega)
                            rw [insJ_lt hil, HZZ.out] at d0 d1 d2
                            rw [insJ_at hil] at e0 e1 e2
                            simp only at d0 d1 d2
                            have hgl := (own_block HR6.out.out (g := gb) rfl).2
                            have fz := fun q => own_fz (g := gb) (by have := HR6.out.out; rw [show (List.map vc (insJ S (i + 1) y)).length = j + 1 by rw [List.length_map, HSL.out]] at this; exact this) q
                            have fa := fz (i * 3)
                            have fb := fz (i * 3 + 1)
                            have fc := fz (i * 3 + 2)
                            have fd := fz ((i + 1) * 3)
                            have fe := fz ((i + 1) * 3 + 1)
                            have ff := fz ((i + 1) * 3 + 2)
                            clear fz
                            have HR7 : Hid (Row ((((((w6.setCell ⟨gb, i * 3, none⟩ (.int .i64 y.1)).setCell ⟨gb, i * 3 + 1, none⟩ (.int .i64 y.2.1)).setCell ⟨gb, i * 3 + 2, none⟩ (.int .i64 y.2.2)).setCell ⟨gb, (i + 1) * 3, none⟩ (.int .i64 z0)).setCell ⟨gb, (i + 1) * 3 + 1, none⟩ (.int .i64 y.2.1)).setCell ⟨gb, (i + 1) * 3 + 2, none⟩ (.int .i64 z2)) w.heap.size 35 3 (.slice (some ⟨gb, 0, none⟩) (j + 1) gc) ((insJ S i y).map vc)) := by
                              have h9 := row_vc_set (row_vc_set HR6.out HSL.out.symm (q := i) (by have := HSL.out; omega) y) (by rw [List.length_set, HSL.out]) (q := i + 1) (by rw [List.length_set, HSL.out]; omega) (z0, y.2.1, z2)
                              rw [← HZZ.out, insJ_swap hil] at h9
                              rw [HZZ.out] at h9
                              exact h9
                            have hgb : w.heap.size ≤ gb := (own_block HR6.out.out (g := gb) rfl).1
                            have HB7 : Hid (Below w.heap.size w ((((((w6.setCell ⟨gb, i * 3, none⟩ (.int .i64 y.1)).setCell ⟨gb, i * 3 + 1, none⟩ (.int .i64 y.2.1)).setCell ⟨gb, i * 3 + 2, none⟩ (.int .i64 y.2.2)).setCell ⟨gb, (i + 1) * 3, none⟩ (.int .i64 z0)).setCell ⟨gb, (i + 1) * 3 + 1, none⟩ (.int .i64 y.2.1)).setCell ⟨gb, (i + 1) * 3 + 2, none⟩ (.int .i64 z2))) :=
                              (((((HB6.out.setCell (p := ⟨gb, i * 3, none⟩) hgb _).setCell (p := ⟨gb, i * 3 + 1, none⟩) hgb _).setCell (p := ⟨gb, i * 3 + 2, none⟩) hgb _).setCell (p := ⟨gb, (i + 1) * 3, none⟩) hgb _).setCell (p := ⟨gb, (i + 1) * 3 + 1, none⟩) hgb _).setCell (p := ⟨gb, (i + 1) * 3 + 2, none⟩) hgb _
                            go_wp2_with fail
                            go_roundw
                            case rel => exact ⟨i, by omega, by first | rfl | go_num, HR7.out.keep ((Below.refl _ _).alloc (Nat.le_refl _) _), HU2.out, HB7.out.alloc HB7.out.size _⟩
                            case measure => first | (simp [intOf]; done) | (simp [intOf]; omega)
            · have t1 : decide (262144 ≤ y.1) = false := by simp; omega
              have t2 : y.2.2 < y.2.1 := by omega
              have t3 : decide (y.1 < 0) = false := by simp; omega
              go_wp2_with fail
              go_roundw
              case rel => exact ⟨k + 1, S, by omega, by omega, by go_num, HRB.out, ⟨HS.out.1, by have := HS.out.2; omega⟩, HBB.out⟩
              case measure => simp [intOf]; omega
          · have t1 : 262144 ≤ y.1 := by omega
            have t3 : decide (y.1 < 0) = false := by simp; omega
            go_wp2_with fail
            go_roundw
            case rel => exact ⟨k + 1, S, by omega, by omega, by go_num, HRB.out, ⟨HS.out.1, by have := HS.out.2; omega⟩, HBB.out⟩
            case measure => simp [intOf]; omega
        · have t1 : y.1 < 0 := by omega
          go_wp2_with fail
          go_roundw
          case rel => exact ⟨k + 1, S, by omega, by omega, by go_num, HRB.out, ⟨HS.out.1, by have := HS.out.2; omega⟩, HBB.out⟩
          case measure => simp [intOf]; omega
      · go_wp2_with fail
        go_ret
        exact ⟨S, _, rfl, HR.out, HS.out.1, by have := HS.out.2; omega, HB.out⟩
    · go_wp2_with fail
      go_ret
      exact ⟨S, _, rfl, HR.out, HS.out.1, by have := HS.out.2; omega, HB.out⟩
end Go.Proofs.Ytpgbkkllnbahpaa
