import Derived.Test.YthjjdfiaikibaabDmJ
set_option linter.unusedVariables false
set_option linter.unusedSimpArgs false
namespace Go.Proofs.Ythjjdfiaikibaab
open Go.ChangeShapes Go.WideShapes Go.ChangeAt Go.RowKit Go.Maps

theorem only_gi {F : Nat → Prop} {B : Nat} {w w2 w6 : World} {v v' : Value} {n : Nat} {L : List Int} (h : Only F w w2) (ho : OwnI w2 w.heap.size v n L) (g : GI B w2 w6 v v') : Only F w w6 :=
  ⟨g.bel.os.trans h.os, g.bel.tape.trans h.tape, g.bel.output.trans h.output, Nat.le_trans h.size g.bel.size, fun k hk hn => (g.blk k (Nat.lt_of_lt_of_le hk h.size) (fun e => by have := (own_block ho.out e).1; omega)).trans (h.block k hk hn)⟩
theorem only_drewN {F : Nat → Prop} {w w2 : World} (h : Only F w w2) (k : Nat) : Only F w (w2.drewN k) := by
  have hb := below_drewN (Below.refl w2.heap.size w2) k
  exact ⟨hb.os.trans h.os, hb.tape.trans h.tape, hb.output.trans h.output, Nat.le_trans h.size hb.size, fun g hg hn => (hb.block g (Nat.lt_of_lt_of_le hg h.size)).trans (h.block g hg hn)⟩
theorem only_set {F : Nat → Prop} {w w2 : World} (h : Only F w w2) (g i : Nat) (v : Value) (hF : F g) : Only F w (w2.setCell ⟨g, i, none⟩ v) :=
  ⟨h.os, h.tape, h.output, by simpa [World.setCell] using h.size, fun k hk hn => (heap_set_other (fun e => hn (by rw [e]; exact hF))).trans (h.block k hk hn)⟩
def nI (l : List Nat) : List Int := l.map fun x : Nat => (x : Int)
set_option maxRecDepth 100000 in
set_option maxHeartbeats 4000000 in
theorem shorten_any (w : World) {fb gd gu gb n door f} (H : FR w fb gd gu gb n door f) (hf : FI n door f) (hn : n ≤ 100000000) (x : Nat) (hx : x < n) (h0 : 0 ≤ gn f.up x) :
    Calls Try.prog 32 #[.pointer (some ⟨fb, 0, none⟩), .int .i64 x] w fun e w' => e = .returned (.tuple #[]) ∧ FR w' fb gd gu gb n door (shorten door f x) ∧ Only (fun k => k = gu ∨ k = gb) w w' := by
  have HH : Hid _ := H
  have HF : Hid _ := hf
  clear H hf
  go_enter Try.func32, Try.ntmps32
  go_wp2_with fail
  go_loopg [1, 4] (x + 1) (fun q av wv wr => ∃ (y : Nat) (way : List Nat) (ao : Option Addr) (c : Nat), y < n ∧ y < q ∧ av = .int .i64 (y : Int) ∧ wv = .slice ao way.length c ∧ Hid (OwnI wr w.heap.size (.slice ao way.length c) way.length (nI way)) ∧ Hid (FR wr fb gd gu gb n door f) ∧ Hid (0 ≤ gn f.up y) ∧ Hid (way ++ wayUp f.up q y = wayUp f.up (x + 1) x) ∧ Hid (Only (fun k => k = gu ∨ k = gb) w wr))
  case atStart => exact ⟨x, [], none, 0, hx, by omega, rfl, rfl, OwnI.nil _ _, HH.out, h0, by show _ = _; simp, Only.refl _ _⟩
  case round =>
    obtain ⟨y, way, ao, c, hy, hyq, rfl, rfl, HO, HR, HP, HW, HB⟩ := hrel
    have hfy := HF.out.ur y hy
    obtain ⟨a, ha⟩ : ∃ a : Nat, gn f.up y = (a : Int) := ⟨(gn f.up y).toNat, by have := HP.out; omega⟩
    have han : a < n := by omega
    have hay : a < y := by omega
    obtain ⟨c0, c1, c2⟩ := HR.out.boxes
    have k1 := HR.out.ku HF.out hy
    rw [ha] at k1
    have k2 := HR.out.ku HF.out han
    obtain ⟨z, hz⟩ : ∃ z, z = gn f.up a := ⟨_, rfl⟩
    rw [← hz] at k2
    obtain ⟨q, rfl⟩ : ∃ q, gk = q + 1 := ⟨gk - 1, by omega⟩
    have HZ : Hid (z = gn f.up a) := hz
    have HA : Hid (gn f.up y = (a : Int)) := ha
    clear hfy ha hz
    have hwl : way.length ≤ n := by
      have h1 := way_le HF.out (x + 1) x hx h0
      rw [← HW.out] at h1
      have h3 := nodup_le n (nI way) (by
        have := (List.nodup_append.1 h1.2).1
        exact List.Pairwise.map _ (fun a b hab => by intro e; exact hab (by exact_mod_cast e)) this) (fun z hz => by
        simp [nI] at hz
        obtain ⟨z', hz', rfl⟩ := hz
        have := h1.1 z' (by simp [hz'])
        omega)
      simpa [nI] using h3
    by_cases hz0 : 0 ≤ z
    · have F6 : Hid (∀ (k : Nat) (w6 : World) (v6 : Value), OwnI w6 w.heap.size v6 (way.length + 1) (nI way ++ [(y : Int)]) → GI w.heap.size (wr.drewN k) w6 (.slice ao way.length c) v6 → FR w6 fb gd gu gb n door f ∧ Only (fun k => k = gu ∨ k = gb) w w6) := by
        intro k w6 v6 h6 g6
        have o1 := HO.out.keep (below_drewN (Below.refl wr.heap.size wr) k)
        refine ⟨(HR.out.drewN k).move fun g hg => g6.blk g ((HR.out.drewN k).lt g hg) (fun e => ?_), only_gi (only_drewN HB.out k) o1 g6⟩
        have := (own_block o1.out e).1
        have := HH.out.lt g hg
        omega
      have hl9 : way.length + 1 ≤ 17592186044416 := by omega
      go_wp2_with fail
      go_quiet (fail)
      have O1 := HO.out.keep (below_drewN (Below.refl wr.heap.size wr) nq)
      have HO1 : Hid _ := O1
      have hs2 : w.heap.size ≤ (wr.drewN nq).heap.size := by have := HB.out.size; have := (below_drewN (Below.refl wr.heap.size wr) nq).size; omega
      clear k1 k2 c0 c1 c2 O1
      obtain ⟨w2, hw2⟩ : ∃ w2, w2 = wr.drewN nq := ⟨_, rfl⟩
      have F6' := F6.out nq
      rw [← hw2] at HO1 hs2 F6' ⊢
      have HF6 : Hid _ := F6'
      clear F6 F6' hw2
      go_wp2_with (first
        | (at_builtin; refine wpList_append_intG (w0 := w2) rfl _ _ rfl w.heap.size (.slice ao way.length c) way.length (nI way) (y : Int) rfl HO1.out rfl hl9 hs2 ?_; intro v6 w6 h6 g6
           obtain ⟨R6, B6⟩ := HF6.out w6 v6 h6 g6
           obtain ⟨c0, c1, c2⟩ := R6.boxes
           have k1 := R6.ku HF.out hy
           rw [HA.out] at k1
           obtain ⟨a6, d6, e6, _, _⟩ := own_slice h6.out
           subst e6
           have HR6 : Hid _ := R6
           have HB6 : Hid _ := B6
           have HO6 : Hid _ := h6
           clear R6 B6 h6 g6)
        | go_in)
      go_roundg q
      case rel =>
        refine ⟨a, way ++ [y], a6, d6, han, by omega, rfl, by simp, ?_, HR6.out, ?_, ?_, HB6.out⟩
        · have := HO6.out
          rw [show way.length + 1 = (way ++ [y]).length by simp, show nI way ++ [(y : Int)] = nI (way ++ [y]) by simp [nI]] at this
          exact this
        · show 0 ≤ gn f.up a; rw [← HZ.out]; exact hz0
        · show _ = _
          have h1 := HW.out
          rw [wayUp, HA.out, Int.toNat_natCast, ← HZ.out, if_pos hz0] at h1
          rw [← h1]; simp
      case measure => omega
    · have HE : way = wayUp f.up (x + 1) x := by
        have h1 := HW.out
        rw [wayUp, HA.out, Int.toNat_natCast, ← HZ.out, if_neg hz0, List.append_nil] at h1
        exact h1
      obtain ⟨m, hm⟩ : ∃ m, m = way.length := ⟨_, rfl⟩
      rw [← hm] at hwl ⊢
      have HO2 : Hid (OwnI wr w.heap.size (.slice ao m c) m (nI way)) := by have := HO.out; rw [← hm] at this; exact this
      have HM : Hid (m = way.length) := hm
      have hm9 : m ≤ 100000000 := by omega
      have WN : Hid (way.Nodup ∧ ∀ z ∈ way, z < n ∧ 0 ≤ gn f.up z ∧ 0 ≤ gn f.up (gn f.up z).toNat) := by
        rw [HE]
        exact ⟨(way_le HF.out (x + 1) x hx h0).2, way_ok HF.out (x + 1) x hx h0⟩
      have HEE : Hid _ := HE
      clear hm HE HO
      go_wp2_with fail
      go_quiet (fail)
      have O3 := HO2.out.keep (below_drewN (Below.refl wr.heap.size wr) nq)
      have R3 := HR.out.drewN nq
      have B3 := only_drewN HB.out nq
      clear k1 k2 c0 c1 c2
      obtain ⟨w3, hw3⟩ : ∃ w3, w3 = wr.drewN nq := ⟨_, rfl⟩
      rw [← hw3] at O3 R3 B3 ⊢
      have HO3 : Hid _ := O3
      have HR3 : Hid _ := R3
      have HB3 : Hid _ := B3
      clear O3 R3 B3 hw3 HO2 HR HB
      go_wp2_with fail
      go_loopg [5] m (fun q iv wr => ∃ k : Nat, k ≤ m ∧ q = k ∧ iv = .int .i64 ((k : Int) - 1) ∧ Hid (FR wr fb gd gu gb n door ((way.drop k).foldr (stp door) f)) ∧ Hid (OwnI wr w.heap.size (.slice ao m c) m (nI way)) ∧ Hid (Only (fun k => k = gu ∨ k = gb) w wr))
      case atStart => exact ⟨m, Nat.le_refl _, rfl, by first | rfl | go_num, by rw [HM.out, List.drop_length]; exact HR3.out, HO3.out, HB3.out⟩
      case round =>
        clear HO3 HR3 HB3
        obtain ⟨k, hk, rfl, rfl, HR, HO, HB⟩ := hrel
        cases gk with
        | zero =>
          go_wp2_with fail
          refine bodyPost_end (v := .tuple #[]) (by simp [results, Try.results32, go_sem]) rfl ⟨rfl, ?_, HB.out⟩
          have := HR.out
          rw [List.drop_zero, HEE.out] at this
          exact this
        | succ j =>
          have hjm : j < way.length := by have := HM.out; omega
          obtain ⟨low, hlow⟩ : ∃ low, low = way[j] := ⟨_, rfl⟩
          obtain ⟨F, hF⟩ : ∃ F, F = (way.drop (j + 1)).foldr (stp door) f := ⟨_, rfl⟩
          have hlm : low ∈ way := by rw [hlow]; exact List.getElem_mem _
          obtain ⟨l1, l2, l3⟩ := WN.out.2 low hlm
          have hnd : low ∉ way.drop (j + 1) ∧ (way.drop (j + 1)).Nodup := by
            have h1 : (way.drop j).Nodup := List.Nodup.sublist (List.drop_sublist _ _) WN.out.1
            rw [List.drop_eq_getElem_cons hjm, ← hlow] at h1
            exact List.nodup_cons.1 h1
          obtain ⟨p1, p2⟩ := fold_ok HF.out _ hnd.2 (fun z hz => WN.out.2 z (List.mem_of_mem_drop hz))
          have p3 := fold_other door f low _ hnd.1
          rw [← hF] at p1 p2 p3
          have hstep : (way.drop j).foldr (stp door) f = stp door low F := by rw [List.drop_eq_getElem_cons hjm, ← hlow, List.foldr_cons, hF]
          obtain ⟨a2, ha2⟩ : ∃ a2 : Nat, gn F.up low = (a2 : Int) := ⟨(gn F.up low).toNat, by rw [p3]; omega⟩
          have ha2n : a2 < n := by have := (p1.ur low l1).2; omega
          obtain ⟨ba, hba⟩ : ∃ ba : Nat, gn F.best a2 = (ba : Int) := ⟨(gn F.best a2).toNat, by have := (p1.br a2 ha2n).1; omega⟩
          have hban : ba < n := by have := (p1.br a2 ha2n).2; omega
          obtain ⟨bw, hbw⟩ : ∃ bw : Nat, gn F.best low = (bw : Int) := ⟨(gn F.best low).toNat, by have := (p1.br low l1).1; omega⟩
          have hbwn : bw < n := by have := (p1.br low l1).2; omega
          obtain ⟨da, hda⟩ : ∃ da, gn door ba = da := ⟨_, rfl⟩
          obtain ⟨dw, hdw⟩ : ∃ dw, gn door bw = dw := ⟨_, rfl⟩
          obtain ⟨ua, hua⟩ : ∃ ua, gn F.up a2 = ua := ⟨_, rfl⟩
          have hst : stp door low F = ⟨F.up.set low ua, if da < dw then F.best.set low (ba : Int) else F.best⟩ := by
            unfold stp
            rw [ha2, Int.toNat_natCast, hua, hba, hbw, Int.toNat_natCast, Int.toNat_natCast, hda, hdw]
          obtain ⟨gw, cw, e5, _, _, hgw, hgl⟩ := own_some HO.out.out (by omega)
          cases e5
          have kw : wr.cell? ⟨gw, j, none⟩ = some (.int .i64 (low : Int)) := by
            rw [own_cell HO.out.out j (by omega)]
            simp [ivs, nI, hjm, hlow]
          have HR' := HR.out
          rw [← hF] at HR'
          obtain ⟨c0, c1, c2⟩ := HR'.boxes
          have k1 := HR'.ku p1 l1
          rw [ha2] at k1
          have k2 := HR'.kb p1 ha2n
          rw [hba] at k2
          have k3 := HR'.kb p1 l1
          rw [hbw] at k3
          have k4 := HR'.kd p1 hban
          rw [hda] at k4
          have k5 := HR'.kd p1 hbwn
          rw [hdw] at k5
          have k6 := HR'.ku p1 ha2n
          rw [hua] at k6
          have HRF : Hid _ := HR'
          have HP1 : Hid _ := p1
          have HST : Hid ((way.drop j).foldr (stp door) f = ⟨F.up.set low ua, if da < dw then F.best.set low (ba : Int) else F.best⟩) := by show _ = _; rw [hstep, hst]
          clear hlow hF hlm l2 l3 hnd p1 p2 p3 hstep ha2 hba hbw hda hdw hua hst HR'
          -- the last store, and the round's end
          have FIN : Hid (∀ (w5 : World) (bs : List Int), bs = (if da < dw then F.best.set low (ba : Int) else F.best) → FR w5 fb gd gu gb n door ⟨F.up, bs⟩ → Only (fun k => k = gu ∨ k = gb) w w5 → OwnI w5 w.heap.size (.slice (some ⟨gw, 0, none⟩) m c) m (nI way) → FR (w5.setCell ⟨gu, low, none⟩ (.int .i64 ua)).drew fb gd gu gb n door ((way.drop j).foldr (stp door) f) ∧ OwnI (w5.setCell ⟨gu, low, none⟩ (.int .i64 ua)).drew w.heap.size (.slice (some ⟨gw, 0, none⟩) m c) m (nI way) ∧ Only (fun k => k = gu ∨ k = gb) w (w5.setCell ⟨gu, low, none⟩ (.int .i64 ua)).drew) := by
            intro w5 bs e1 r5 b5 o5
            rw [HST.out, ← e1]
            have hgu := HH.out.lt gu (.inr (.inr (.inl rfl)))
            exact ⟨(r5.setU low ua).drew, ⟨o5.len, own_move o5.out fun g hg => heap_set_other (by have := (own_block o5.out hg).1; omega)⟩, only_drewN (only_set b5 gu low _ (.inl rfl)) 1⟩
          have FRZ : Hid (∀ (w5 : World) (bs : List Int), FR w5 fb gd gu gb n door ⟨F.up, bs⟩ → w5.cell? ⟨gu, a2, none⟩ = some (.int .i64 ua) ∧ w5.cell? ⟨gu, low, none⟩ = some (.int .i64 (a2 : Int)) ∧ w5.frozen? ⟨gu, low, none⟩ = false) := by
            intro w5 bs r5
            have e1 : gn F.up a2 = ua := by have h1 := HRF.out.ku HP1.out ha2n; rw [k6] at h1; cases h1; rfl
            have e2 : gn F.up low = (a2 : Int) := by have h1 := HRF.out.ku HP1.out l1; rw [k1] at h1; simp only [Option.some.injEq, Value.int.injEq, true_and] at h1; exact h1.symm
            refine ⟨?_, ?_, fz_of r5.u⟩
            · rw [← e1]; exact cell_arr r5.u (ivs_at (by rw [HP1.out.lu]; exact ha2n))
            · rw [← e2]; exact cell_arr r5.u (ivs_at (by rw [HP1.out.lu]; exact l1))
          by_cases hdd : da < dw
          · go_wp2_with fail
            go_quiet (fail)
            go_wp2_with fail
            have R4 := HRF.out.drewN nq
            have B4 := only_drewN HB.out nq
            have O4 := HO.out.keep (below_drewN (Below.refl wr.heap.size wr) nq)
            have q2 : (wr.drewN nq).cell? ⟨gb, a2, none⟩ = some (.int .i64 (ba : Int)) := by rw [World.cell?_of_block (w := wr) (drewN_at wr nq gb (HRF.out.lt gb (.inr (.inr (.inr rfl)))))]; exact k2
            have q3 : (wr.drewN nq).cell? ⟨gb, low, none⟩ = some (.int .i64 (bw : Int)) := by rw [World.cell?_of_block (w := wr) (drewN_at wr nq gb (HRF.out.lt gb (.inr (.inr (.inr rfl)))))]; exact k3
            obtain ⟨w4, hw4⟩ : ∃ w4, w4 = wr.drewN nq := ⟨_, rfl⟩
            rw [← hw4] at R4 B4 O4 q2 q3 ⊢
            clear hw4 c0 c1 c2 k1 k2 k3 k4 k5 k6 kw
            obtain ⟨c0, c1, c2⟩ := R4.boxes
            have z4 : w4.frozen? ⟨gb, low, none⟩ = false := fz_of R4.b
            have R5 : FR (w4.setCell ⟨gb, low, none⟩ (.int .i64 (ba : Int))).drew fb gd gu gb n door ⟨F.up, F.best.set low (ba : Int)⟩ := (R4.setB low (ba : Int)).drew
            have B5 : Only (fun k => k = gu ∨ k = gb) w (w4.setCell ⟨gb, low, none⟩ (.int .i64 (ba : Int))).drew := only_drewN (only_set B4 gb low (.int .i64 (ba : Int)) (.inr rfl)) 1
            have O5 : OwnI (w4.setCell ⟨gb, low, none⟩ (.int .i64 (ba : Int))).drew w.heap.size (.slice (some ⟨gw, 0, none⟩) m c) m (nI way) := by
              have hgb := HH.out.lt gb (.inr (.inr (.inr rfl)))
              exact ⟨O4.len, own_move O4.out fun g hg => heap_set_other (by have := (own_block O4.out hg).1; omega)⟩
            have HR5 : Hid _ := R5
            have HB5 : Hid _ := B5
            have HO5 : Hid _ := O5
            clear R5 B5 O5 R4 B4 O4
            go_region
            obtain ⟨w5, hw5⟩ : ∃ w5, w5 = (w4.setCell ⟨gb, low, none⟩ (.int .i64 (ba : Int))).drew := ⟨_, rfl⟩
            rw [← hw5] at HR5 HB5 HO5 ⊢
            clear hw5 c0 c1 c2 q2 q3 z4
            obtain ⟨c0, c1, c2⟩ := HR5.out.boxes
            obtain ⟨q6, q7, z5⟩ := FRZ.out w5 _ HR5.out
            go_wp2_with fail
            go_region
            go_wp2_with fail
            obtain ⟨e1, e2, e3⟩ := FIN.out w5 _ (if_pos hdd).symm HR5.out HB5.out HO5.out
            go_roundg j
            case rel => exact ⟨j, by omega, rfl, by go_num, e1, e2, e3⟩
            case measure => omega
          · go_wp2_with fail
            go_quiet (fail)
            go_wp2_with fail
            have R5 := HRF.out.drewN nq
            have B5 := only_drewN HB.out nq
            have O5 := HO.out.keep (below_drewN (Below.refl wr.heap.size wr) nq)
            obtain ⟨w5, hw5⟩ : ∃ w5, w5 = wr.drewN nq := ⟨_, rfl⟩
            rw [← hw5] at R5 B5 O5 ⊢
            have HR5 : Hid (FR w5 fb gd gu gb n door ⟨F.up, F.best⟩) := R5
            have HB5 : Hid _ := B5
            have HO5 : Hid _ := O5
            clear hw5 c0 c1 c2 k1 k2 k3 k4 k5 k6 kw R5 B5 O5
            obtain ⟨c0, c1, c2⟩ := HR5.out.boxes
            obtain ⟨q6, q7, z5⟩ := FRZ.out w5 _ HR5.out
            go_region
            go_wp2_with fail
            obtain ⟨e1, e2, e3⟩ := FIN.out w5 _ (if_neg (by omega)).symm HR5.out HB5.out HO5.out
            go_roundg j
            case rel => exact ⟨j, by omega, rfl, by go_num, e1, e2, e3⟩
            case measure => omega
end Go.Proofs.Ythjjdfiaikibaab
