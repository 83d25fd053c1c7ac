import Derived.Test.YtchobeakieljpaaGreatDoorTvE
import Derived.Deep.RegionHeld
set_option linter.unusedVariables false
set_option linter.unusedSimpArgs false
namespace Go.Proofs.YtchobeakieljpaaGreatDoor
open Go.ChangeShapes Go.WideShapes Go.ChangeAt Go.RowKit

/-- The text of pieces that end a node. -/
def etx (o : Nat) : List Pt → List UInt8
  | [] => []
  | p :: r => (if p.form = 0 then p.text else tabs (o - 1) ++ [125]) ++ etx o r
/-- What behind is asked. -/
structure BhE (nd : Nd) (s : ByteArray) (kl d v : Nat) : Prop where
  es : s = bs nd.name
  esl : nd.name.length ≤ 64
  ed : nd.decl = (d : Int)
  ed4 : d < 4
  ev : nd.val = (v : Int)
  evm : v ≤ 9223372036854775807
  ekl : kl = nd.kids.length
set_option maxRecDepth 10000 in
set_option maxHeartbeats 4000000 in
theorem bh1 (w : World) (nd : Nd) (ka : Option Addr) (kc kl : Nat) (s : ByteArray) (d v : Nat) (H : BhE nd s kl d v) (hk : nd.kind = 1) (o : Nat) (ho : o ≤ 100000000) :
    Calls Tryz.prog 25 #[.agg #[.int .i64 1, .int .i64 nd.at_, .int .i64 nd.wh, .int .i64 nd.close, .int .i64 (d : Int), .int .i64 nd.typ, .int .i64 nd.op, .int .i64 (v : Int), .string s, .slice ka kl kc], .int .i64 o] w fun e w' => e = .returned (.string (bs (etx o (tl nd)))) ∧ Below w.heap.size w w' := by
  have HP : Hid (etx o (tl nd) = ([10] : List UInt8)) := by
    show _ = _
    simp [etx, tl, hk, tp, ep]
  have HS : Hid (s = bs nd.name) := H.es
  have hsz : s.size ≤ 64 := by rw [H.es, bs_size]; exact H.esl
  have HD : Hid (nd.decl = (d : Int)) := H.ed
  have HV : Hid (nd.val = (v : Int)) := H.ev
  have hkl := H.ekl
  clear H hk hkl
  obtain ⟨w0, hw0⟩ : ∃ w0, w0 = w.alloc (.cells #[.int .i64 1, .int .i64 nd.at_, .int .i64 nd.wh, .int .i64 nd.close, .int .i64 (d : Int), .int .i64 nd.typ, .int .i64 nd.op, .int .i64 (v : Int), .string s, .slice ka kl kc] 39) := ⟨_, rfl⟩
  have hb0 : Below w.heap.size w w0 := by rw [hw0]; exact (Below.refl _ _).alloc (Nat.le_refl _) _
  have hs0 : w.heap.size + 1 ≤ w0.heap.size := by rw [hw0]; simp
  have y8 : w0.cell? ⟨w.heap.size, 8, none⟩ = some (.string s) := by rw [hw0]; simp
  have y4 : w0.cell? ⟨w.heap.size, 4, none⟩ = some (.int .i64 (d : Int)) := by rw [hw0]; simp
  have HW0 : Hid _ := hw0
  clear hw0
  go_enter Tryz.func25, Tryz.ntmps25
  go_wp2_with fail
  go_ret
  rw [← HW0.out]
  exact ⟨ret_s (by rw [HP.out]; apply bs_of; simp [dt_app, bs_dt, HS.out, HD.out, HV.out]), hb0⟩
set_option maxRecDepth 10000 in
set_option maxHeartbeats 4000000 in
theorem bh2 (w : World) (nd : Nd) (ka : Option Addr) (kc kl : Nat) (s : ByteArray) (d v : Nat) (H : BhE nd s kl d v) (hk : nd.kind = 2) (o : Nat) (ho : o ≤ 100000000) :
    Calls Tryz.prog 25 #[.agg #[.int .i64 2, .int .i64 nd.at_, .int .i64 nd.wh, .int .i64 nd.close, .int .i64 (d : Int), .int .i64 nd.typ, .int .i64 nd.op, .int .i64 (v : Int), .string s, .slice ka kl kc], .int .i64 o] w fun e w' => e = .returned (.string (bs (etx o (tl nd)))) ∧ Below w.heap.size w w' := by
  have HP : Hid (etx o (tl nd) = nd.name ++ ([32] : List UInt8) ++ typeT (d : Int)) := by
    show _ = _
    simp [etx, tl, hk, tp, ep, H.ed]
  have HS : Hid (s = bs nd.name) := H.es
  have hsz : s.size ≤ 64 := by rw [H.es, bs_size]; exact H.esl
  have HD : Hid (nd.decl = (d : Int)) := H.ed
  have HV : Hid (nd.val = (v : Int)) := H.ev
  have hkl := H.ekl
  have TYP := fun w => rTypeName_any w d H.ed4
  have hul := typeT_len d H.ed4
  obtain ⟨u, hu⟩ : ∃ u, u = bs (typeT (d : Int)) := ⟨_, rfl⟩
  simp only [← hu] at hul TYP
  have HU : Hid (u = bs (typeT (d : Int))) := hu
  clear hu
  clear H hk hkl
  obtain ⟨w0, hw0⟩ : ∃ w0, w0 = w.alloc (.cells #[.int .i64 2, .int .i64 nd.at_, .int .i64 nd.wh, .int .i64 nd.close, .int .i64 (d : Int), .int .i64 nd.typ, .int .i64 nd.op, .int .i64 (v : Int), .string s, .slice ka kl kc] 39) := ⟨_, rfl⟩
  have hb0 : Below w.heap.size w w0 := by rw [hw0]; exact (Below.refl _ _).alloc (Nat.le_refl _) _
  have hs0 : w.heap.size + 1 ≤ w0.heap.size := by rw [hw0]; simp
  have y8 : w0.cell? ⟨w.heap.size, 8, none⟩ = some (.string s) := by rw [hw0]; simp
  have y4 : w0.cell? ⟨w.heap.size, 4, none⟩ = some (.int .i64 (d : Int)) := by rw [hw0]; simp
  have HW0 : Hid _ := hw0
  clear hw0
  go_enter Tryz.func25, Tryz.ntmps25
  go_wp2_with fail
  rw [← HW0.out]
  have hq1 : w.heap.size < w0.drew.heap.size := by simp; omega
  go_region_held (fun w' => w'.cell? ⟨w.heap.size, 8, none⟩ = some (.string s) ∧ w'.cell? ⟨w.heap.size, 4, none⟩ = some (.int .i64 (d : Int)))
   (refine ⟨?_, ?_⟩ <;> first | with_reducible exact cellD y8 | with_reducible exact cellD y4 | with_reducible exact cell_below hb2 hq1 (cellD y8) | with_reducible exact cell_below hb2 hq1 (cellD y4))
   (first | (go_at_call 39; refine (TYP _).mono ?_; rintro e w1 ⟨rfl, hb2⟩; have hB9 : Below w.heap.size w w1 := hb0.trans (((Below.refl _ _).drew.trans hb2).mono (by omega))))
  all_goals
    go_wp2_with fail
    go_ret
    exact ⟨ret_s (by rw [HP.out]; apply bs_of; simp [dt_app, bs_dt, HS.out, HU.out, HD.out, HV.out]), hB9⟩
set_option maxRecDepth 10000 in
set_option maxHeartbeats 4000000 in
theorem bh3a (w : World) (nd : Nd) (ka : Option Addr) (kc kl : Nat) (s : ByteArray) (d v : Nat) (H : BhE nd s kl d v) (hk : nd.kind = 3) (o : Nat) (ho : o ≤ 100000000) (hn0 : nd.kids = []) (ho1 : 1 ≤ o) :
    Calls Tryz.prog 25 #[.agg #[.int .i64 3, .int .i64 nd.at_, .int .i64 nd.wh, .int .i64 nd.close, .int .i64 (d : Int), .int .i64 nd.typ, .int .i64 nd.op, .int .i64 (v : Int), .string s, .slice ka kl kc], .int .i64 o] w fun e w' => e = .returned (.string (bs (etx o (tl nd)))) ∧ Below w.heap.size w w' := by
  have HP : Hid (etx o (tl nd) = ([123] : List UInt8) ++ (tabs (o - 1) ++ ([125] : List UInt8))) := by
    show _ = _
    simp [etx, tl, hk, tp, ep, hn0]
  have HS : Hid (s = bs nd.name) := H.es
  have hsz : s.size ≤ 64 := by rw [H.es, bs_size]; exact H.esl
  have HD : Hid (nd.decl = (d : Int)) := H.ed
  have HV : Hid (nd.val = (v : Int)) := H.ev
  have hkl := H.ekl
  have qn : ((kl : Int) == 0) = true := by simp; rw [hkl, hn0]; rfl
  obtain ⟨q, rfl⟩ : ∃ q, o = q + 1 := ⟨o - 1, by omega⟩
  have LIN := fun w => rLine_any w q (by omega)
  have hq2 : ((q + 1 : Nat) : Int) - 1 = (q : Int) := by omega
  clear H hk hkl hn0 ho1
  obtain ⟨w0, hw0⟩ : ∃ w0, w0 = w.alloc (.cells #[.int .i64 3, .int .i64 nd.at_, .int .i64 nd.wh, .int .i64 nd.close, .int .i64 (d : Int), .int .i64 nd.typ, .int .i64 nd.op, .int .i64 (v : Int), .string s, .slice ka kl kc] 39) := ⟨_, rfl⟩
  have hb0 : Below w.heap.size w w0 := by rw [hw0]; exact (Below.refl _ _).alloc (Nat.le_refl _) _
  have hs0 : w.heap.size + 1 ≤ w0.heap.size := by rw [hw0]; simp
  have y8 : w0.cell? ⟨w.heap.size, 8, none⟩ = some (.string s) := by rw [hw0]; simp
  have y4 : w0.cell? ⟨w.heap.size, 4, none⟩ = some (.int .i64 (d : Int)) := by rw [hw0]; simp
  have HW0 : Hid _ := hw0
  clear hw0
  go_enter Tryz.func25, Tryz.ntmps25
  go_wp2_with (first | (go_at_call 40; rw [← HW0.out]; refine (LIN _).mono ?_; rintro e w1 ⟨⟨la, lc, rfl, HLO⟩, hb1⟩; have hcv := HLO.conv0; have htl : (bs (tabs q)).size ≤ 100000001 := (by rw [bs_size]; have := HLO.len; omega); generalize hTT : bs (tabs q) = tt at hcv htl; have HTT : Hid (bs (tabs q) = tt) := hTT; clear hTT; have hB9 : Below w.heap.size w w1 := hb0.trans (hb1.mono (by omega))))
  go_ret
  exact ⟨ret_s (by rw [HP.out]; apply bs_of; simp [dt_app, bs_dt, HS.out, ← HTT.out, HD.out, HV.out]), hB9⟩
set_option maxRecDepth 10000 in
set_option maxHeartbeats 4000000 in
theorem bh3b (w : World) (nd : Nd) (ka : Option Addr) (kc kl : Nat) (s : ByteArray) (d v : Nat) (H : BhE nd s kl d v) (hk : nd.kind = 3) (o : Nat) (ho : o ≤ 100000000) (hn0 : ¬ nd.kids = []) (ho1 : 1 ≤ o) :
    Calls Tryz.prog 25 #[.agg #[.int .i64 3, .int .i64 nd.at_, .int .i64 nd.wh, .int .i64 nd.close, .int .i64 (d : Int), .int .i64 nd.typ, .int .i64 nd.op, .int .i64 (v : Int), .string s, .slice ka kl kc], .int .i64 o] w fun e w' => e = .returned (.string (bs (etx o (tl nd)))) ∧ Below w.heap.size w w' := by
  have HP : Hid (etx o (tl nd) = (tabs (o - 1) ++ ([125] : List UInt8))) := by
    show _ = _
    simp [etx, tl, hk, tp, ep, hn0]
  have HS : Hid (s = bs nd.name) := H.es
  have hsz : s.size ≤ 64 := by rw [H.es, bs_size]; exact H.esl
  have HD : Hid (nd.decl = (d : Int)) := H.ed
  have HV : Hid (nd.val = (v : Int)) := H.ev
  have hkl := H.ekl
  have qn : ((kl : Int) == 0) = false := by simp; rw [hkl]; exact fun e => hn0 (List.length_eq_zero_iff.1 e)
  obtain ⟨q, rfl⟩ : ∃ q, o = q + 1 := ⟨o - 1, by omega⟩
  have LIN := fun w => rLine_any w q (by omega)
  have hq2 : ((q + 1 : Nat) : Int) - 1 = (q : Int) := by omega
  clear H hk hkl hn0 ho1
  obtain ⟨w0, hw0⟩ : ∃ w0, w0 = w.alloc (.cells #[.int .i64 3, .int .i64 nd.at_, .int .i64 nd.wh, .int .i64 nd.close, .int .i64 (d : Int), .int .i64 nd.typ, .int .i64 nd.op, .int .i64 (v : Int), .string s, .slice ka kl kc] 39) := ⟨_, rfl⟩
  have hb0 : Below w.heap.size w w0 := by rw [hw0]; exact (Below.refl _ _).alloc (Nat.le_refl _) _
  have hs0 : w.heap.size + 1 ≤ w0.heap.size := by rw [hw0]; simp
  have y8 : w0.cell? ⟨w.heap.size, 8, none⟩ = some (.string s) := by rw [hw0]; simp
  have y4 : w0.cell? ⟨w.heap.size, 4, none⟩ = some (.int .i64 (d : Int)) := by rw [hw0]; simp
  have HW0 : Hid _ := hw0
  clear hw0
  go_enter Tryz.func25, Tryz.ntmps25
  go_wp2_with (first | (go_at_call 40; rw [← HW0.out]; refine (LIN _).mono ?_; rintro e w1 ⟨⟨la, lc, rfl, HLO⟩, hb1⟩; have hcv := HLO.conv0; have htl : (bs (tabs q)).size ≤ 100000001 := (by rw [bs_size]; have := HLO.len; omega); generalize hTT : bs (tabs q) = tt at hcv htl; have HTT : Hid (bs (tabs q) = tt) := hTT; clear hTT; have hB9 : Below w.heap.size w w1 := hb0.trans (hb1.mono (by omega))))
  go_ret
  exact ⟨ret_s (by rw [HP.out]; apply bs_of; simp [dt_app, bs_dt, HS.out, ← HTT.out, HD.out, HV.out]), hB9⟩
set_option maxRecDepth 10000 in
set_option maxHeartbeats 4000000 in
theorem bh4a (w : World) (nd : Nd) (ka : Option Addr) (kc kl : Nat) (s : ByteArray) (d v : Nat) (H : BhE nd s kl d v) (hk : nd.kind = 4) (o : Nat) (ho : o ≤ 100000000) (hn0 : nd.kids = []) :
    Calls Tryz.prog 25 #[.agg #[.int .i64 4, .int .i64 nd.at_, .int .i64 nd.wh, .int .i64 nd.close, .int .i64 (d : Int), .int .i64 nd.typ, .int .i64 nd.op, .int .i64 (v : Int), .string s, .slice ka kl kc], .int .i64 o] w fun e w' => e = .returned (.string (bs (etx o (tl nd)))) ∧ Below w.heap.size w w' := by
  have HP : Hid (etx o (tl nd) = ([118, 97, 114, 32] : List UInt8) ++ nd.name ++ ([32] : List UInt8) ++ typeT (d : Int) ++ ([59] : List UInt8)) := by
    show _ = _
    simp [etx, tl, hk, tp, ep, H.ed, hn0]
  have HS : Hid (s = bs nd.name) := H.es
  have hsz : s.size ≤ 64 := by rw [H.es, bs_size]; exact H.esl
  have HD : Hid (nd.decl = (d : Int)) := H.ed
  have HV : Hid (nd.val = (v : Int)) := H.ev
  have hkl := H.ekl
  have TYP := fun w => rTypeName_any w d H.ed4
  have hul := typeT_len d H.ed4
  obtain ⟨u, hu⟩ : ∃ u, u = bs (typeT (d : Int)) := ⟨_, rfl⟩
  simp only [← hu] at hul TYP
  have HU : Hid (u = bs (typeT (d : Int))) := hu
  clear hu
  have qn : ((kl : Int) == 0) = true := by simp; rw [hkl, hn0]; rfl
  clear H hk hkl hn0
  obtain ⟨w0, hw0⟩ : ∃ w0, w0 = w.alloc (.cells #[.int .i64 4, .int .i64 nd.at_, .int .i64 nd.wh, .int .i64 nd.close, .int .i64 (d : Int), .int .i64 nd.typ, .int .i64 nd.op, .int .i64 (v : Int), .string s, .slice ka kl kc] 39) := ⟨_, rfl⟩
  have hb0 : Below w.heap.size w w0 := by rw [hw0]; exact (Below.refl _ _).alloc (Nat.le_refl _) _
  have hs0 : w.heap.size + 1 ≤ w0.heap.size := by rw [hw0]; simp
  have y8 : w0.cell? ⟨w.heap.size, 8, none⟩ = some (.string s) := by rw [hw0]; simp
  have y4 : w0.cell? ⟨w.heap.size, 4, none⟩ = some (.int .i64 (d : Int)) := by rw [hw0]; simp
  have HW0 : Hid _ := hw0
  clear hw0
  go_enter Tryz.func25, Tryz.ntmps25
  go_wp2_with fail
  rw [← HW0.out]
  have hq1 : w.heap.size < w0.drew.heap.size := by simp; omega
  go_region_held (fun w' => w'.cell? ⟨w.heap.size, 8, none⟩ = some (.string s) ∧ w'.cell? ⟨w.heap.size, 4, none⟩ = some (.int .i64 (d : Int)))
   (refine ⟨?_, ?_⟩ <;> first | with_reducible exact cellD y8 | with_reducible exact cellD y4 | with_reducible exact cell_below hb2 hq1 (cellD y8) | with_reducible exact cell_below hb2 hq1 (cellD y4))
   (first | (go_at_call 39; refine (TYP _).mono ?_; rintro e w1 ⟨rfl, hb2⟩; have hB9 : Below w.heap.size w w1 := hb0.trans (((Below.refl _ _).drew.trans hb2).mono (by omega))))
  all_goals
    go_wp2_with fail
    go_ret
    exact ⟨ret_s (by rw [HP.out]; apply bs_of; simp [dt_app, bs_dt, HS.out, HU.out, HD.out, HV.out]), hB9⟩
set_option maxRecDepth 10000 in
set_option maxHeartbeats 4000000 in
theorem bh4b (w : World) (nd : Nd) (ka : Option Addr) (kc kl : Nat) (s : ByteArray) (d v : Nat) (H : BhE nd s kl d v) (hk : nd.kind = 4) (o : Nat) (ho : o ≤ 100000000) (hn0 : ¬ nd.kids = []) :
    Calls Tryz.prog 25 #[.agg #[.int .i64 4, .int .i64 nd.at_, .int .i64 nd.wh, .int .i64 nd.close, .int .i64 (d : Int), .int .i64 nd.typ, .int .i64 nd.op, .int .i64 (v : Int), .string s, .slice ka kl kc], .int .i64 o] w fun e w' => e = .returned (.string (bs (etx o (tl nd)))) ∧ Below w.heap.size w w' := by
  have HP : Hid (etx o (tl nd) = ([59] : List UInt8)) := by
    show _ = _
    simp [etx, tl, hk, tp, ep, hn0]
  have HS : Hid (s = bs nd.name) := H.es
  have hsz : s.size ≤ 64 := by rw [H.es, bs_size]; exact H.esl
  have HD : Hid (nd.decl = (d : Int)) := H.ed
  have HV : Hid (nd.val = (v : Int)) := H.ev
  have hkl := H.ekl
  have qn : ((kl : Int) == 0) = false := by simp; rw [hkl]; exact fun e => hn0 (List.length_eq_zero_iff.1 e)
  clear H hk hkl hn0
  obtain ⟨w0, hw0⟩ : ∃ w0, w0 = w.alloc (.cells #[.int .i64 4, .int .i64 nd.at_, .int .i64 nd.wh, .int .i64 nd.close, .int .i64 (d : Int), .int .i64 nd.typ, .int .i64 nd.op, .int .i64 (v : Int), .string s, .slice ka kl kc] 39) := ⟨_, rfl⟩
  have hb0 : Below w.heap.size w w0 := by rw [hw0]; exact (Below.refl _ _).alloc (Nat.le_refl _) _
  have hs0 : w.heap.size + 1 ≤ w0.heap.size := by rw [hw0]; simp
  have y8 : w0.cell? ⟨w.heap.size, 8, none⟩ = some (.string s) := by rw [hw0]; simp
  have y4 : w0.cell? ⟨w.heap.size, 4, none⟩ = some (.int .i64 (d : Int)) := by rw [hw0]; simp
  have HW0 : Hid _ := hw0
  clear hw0
  go_enter Tryz.func25, Tryz.ntmps25
  go_wp2_with fail
  go_ret
  rw [← HW0.out]
  exact ⟨ret_s (by rw [HP.out]; apply bs_of; simp [dt_app, bs_dt, HS.out, HD.out, HV.out]), hb0⟩
set_option maxRecDepth 10000 in
set_option maxHeartbeats 4000000 in
theorem bh5 (w : World) (nd : Nd) (ka : Option Addr) (kc kl : Nat) (s : ByteArray) (d v : Nat) (H : BhE nd s kl d v) (hk : nd.kind = 5) (o : Nat) (ho : o ≤ 100000000) :
    Calls Tryz.prog 25 #[.agg #[.int .i64 5, .int .i64 nd.at_, .int .i64 nd.wh, .int .i64 nd.close, .int .i64 (d : Int), .int .i64 nd.typ, .int .i64 nd.op, .int .i64 (v : Int), .string s, .slice ka kl kc], .int .i64 o] w fun e w' => e = .returned (.string (bs (etx o (tl nd)))) ∧ Below w.heap.size w w' := by
  have HP : Hid (etx o (tl nd) = ([59] : List UInt8)) := by
    show _ = _
    simp [etx, tl, hk, tp, ep]
  have HS : Hid (s = bs nd.name) := H.es
  have hsz : s.size ≤ 64 := by rw [H.es, bs_size]; exact H.esl
  have HD : Hid (nd.decl = (d : Int)) := H.ed
  have HV : Hid (nd.val = (v : Int)) := H.ev
  have hkl := H.ekl
  clear H hk hkl
  obtain ⟨w0, hw0⟩ : ∃ w0, w0 = w.alloc (.cells #[.int .i64 5, .int .i64 nd.at_, .int .i64 nd.wh, .int .i64 nd.close, .int .i64 (d : Int), .int .i64 nd.typ, .int .i64 nd.op, .int .i64 (v : Int), .string s, .slice ka kl kc] 39) := ⟨_, rfl⟩
  have hb0 : Below w.heap.size w w0 := by rw [hw0]; exact (Below.refl _ _).alloc (Nat.le_refl _) _
  have hs0 : w.heap.size + 1 ≤ w0.heap.size := by rw [hw0]; simp
  have y8 : w0.cell? ⟨w.heap.size, 8, none⟩ = some (.string s) := by rw [hw0]; simp
  have y4 : w0.cell? ⟨w.heap.size, 4, none⟩ = some (.int .i64 (d : Int)) := by rw [hw0]; simp
  have HW0 : Hid _ := hw0
  clear hw0
  go_enter Tryz.func25, Tryz.ntmps25
  go_wp2_with fail
  go_ret
  rw [← HW0.out]
  exact ⟨ret_s (by rw [HP.out]; apply bs_of; simp [dt_app, bs_dt, HS.out, HD.out, HV.out]), hb0⟩
set_option maxRecDepth 10000 in
set_option maxHeartbeats 4000000 in
theorem bh6 (w : World) (nd : Nd) (ka : Option Addr) (kc kl : Nat) (s : ByteArray) (d v : Nat) (H : BhE nd s kl d v) (hk : nd.kind = 6) (o : Nat) (ho : o ≤ 100000000) :
    Calls Tryz.prog 25 #[.agg #[.int .i64 6, .int .i64 nd.at_, .int .i64 nd.wh, .int .i64 nd.close, .int .i64 (d : Int), .int .i64 nd.typ, .int .i64 nd.op, .int .i64 (v : Int), .string s, .slice ka kl kc], .int .i64 o] w fun e w' => e = .returned (.string (bs (etx o (tl nd)))) ∧ Below w.heap.size w w' := by
  have HP : Hid (etx o (tl nd) = ([59] : List UInt8)) := by
    show _ = _
    simp [etx, tl, hk, tp, ep]
  have HS : Hid (s = bs nd.name) := H.es
  have hsz : s.size ≤ 64 := by rw [H.es, bs_size]; exact H.esl
  have HD : Hid (nd.decl = (d : Int)) := H.ed
  have HV : Hid (nd.val = (v : Int)) := H.ev
  have hkl := H.ekl
  clear H hk hkl
  obtain ⟨w0, hw0⟩ : ∃ w0, w0 = w.alloc (.cells #[.int .i64 6, .int .i64 nd.at_, .int .i64 nd.wh, .int .i64 nd.close, .int .i64 (d : Int), .int .i64 nd.typ, .int .i64 nd.op, .int .i64 (v : Int), .string s, .slice ka kl kc] 39) := ⟨_, rfl⟩
  have hb0 : Below w.heap.size w w0 := by rw [hw0]; exact (Below.refl _ _).alloc (Nat.le_refl _) _
  have hs0 : w.heap.size + 1 ≤ w0.heap.size := by rw [hw0]; simp
  have y8 : w0.cell? ⟨w.heap.size, 8, none⟩ = some (.string s) := by rw [hw0]; simp
  have y4 : w0.cell? ⟨w.heap.size, 4, none⟩ = some (.int .i64 (d : Int)) := by rw [hw0]; simp
  have HW0 : Hid _ := hw0
  clear hw0
  go_enter Tryz.func25, Tryz.ntmps25
  go_wp2_with fail
  go_ret
  rw [← HW0.out]
  exact ⟨ret_s (by rw [HP.out]; apply bs_of; simp [dt_app, bs_dt, HS.out, HD.out, HV.out]), hb0⟩
set_option maxRecDepth 10000 in
set_option maxHeartbeats 4000000 in
theorem bh7 (w : World) (nd : Nd) (ka : Option Addr) (kc kl : Nat) (s : ByteArray) (d v : Nat) (H : BhE nd s kl d v) (hk : nd.kind = 7) (o : Nat) (ho : o ≤ 100000000) :
    Calls Tryz.prog 25 #[.agg #[.int .i64 7, .int .i64 nd.at_, .int .i64 nd.wh, .int .i64 nd.close, .int .i64 (d : Int), .int .i64 nd.typ, .int .i64 nd.op, .int .i64 (v : Int), .string s, .slice ka kl kc], .int .i64 o] w fun e w' => e = .returned (.string (bs (etx o (tl nd)))) ∧ Below w.heap.size w w' := by
  have HP : Hid (etx o (tl nd) = ([59] : List UInt8)) := by
    show _ = _
    simp [etx, tl, hk, tp, ep]
  have HS : Hid (s = bs nd.name) := H.es
  have hsz : s.size ≤ 64 := by rw [H.es, bs_size]; exact H.esl
  have HD : Hid (nd.decl = (d : Int)) := H.ed
  have HV : Hid (nd.val = (v : Int)) := H.ev
  have hkl := H.ekl
  clear H hk hkl
  obtain ⟨w0, hw0⟩ : ∃ w0, w0 = w.alloc (.cells #[.int .i64 7, .int .i64 nd.at_, .int .i64 nd.wh, .int .i64 nd.close, .int .i64 (d : Int), .int .i64 nd.typ, .int .i64 nd.op, .int .i64 (v : Int), .string s, .slice ka kl kc] 39) := ⟨_, rfl⟩
  have hb0 : Below w.heap.size w w0 := by rw [hw0]; exact (Below.refl _ _).alloc (Nat.le_refl _) _
  have hs0 : w.heap.size + 1 ≤ w0.heap.size := by rw [hw0]; simp
  have y8 : w0.cell? ⟨w.heap.size, 8, none⟩ = some (.string s) := by rw [hw0]; simp
  have y4 : w0.cell? ⟨w.heap.size, 4, none⟩ = some (.int .i64 (d : Int)) := by rw [hw0]; simp
  have HW0 : Hid _ := hw0
  clear hw0
  go_enter Tryz.func25, Tryz.ntmps25
  go_wp2_with fail
  go_ret
  rw [← HW0.out]
  exact ⟨ret_s (by rw [HP.out]; apply bs_of; simp [dt_app, bs_dt, HS.out, HD.out, HV.out]), hb0⟩
set_option maxRecDepth 10000 in
set_option maxHeartbeats 4000000 in
theorem bh8 (w : World) (nd : Nd) (ka : Option Addr) (kc kl : Nat) (s : ByteArray) (d v : Nat) (H : BhE nd s kl d v) (hk : nd.kind = 8) (o : Nat) (ho : o ≤ 100000000) :
    Calls Tryz.prog 25 #[.agg #[.int .i64 8, .int .i64 nd.at_, .int .i64 nd.wh, .int .i64 nd.close, .int .i64 (d : Int), .int .i64 nd.typ, .int .i64 nd.op, .int .i64 (v : Int), .string s, .slice ka kl kc], .int .i64 o] w fun e w' => e = .returned (.string (bs (etx o (tl nd)))) ∧ Below w.heap.size w w' := by
  have HP : Hid (etx o (tl nd) = ([41, 59] : List UInt8)) := by
    show _ = _
    simp [etx, tl, hk, tp, ep]
  have HS : Hid (s = bs nd.name) := H.es
  have hsz : s.size ≤ 64 := by rw [H.es, bs_size]; exact H.esl
  have HD : Hid (nd.decl = (d : Int)) := H.ed
  have HV : Hid (nd.val = (v : Int)) := H.ev
  have hkl := H.ekl
  clear H hk hkl
  obtain ⟨w0, hw0⟩ : ∃ w0, w0 = w.alloc (.cells #[.int .i64 8, .int .i64 nd.at_, .int .i64 nd.wh, .int .i64 nd.close, .int .i64 (d : Int), .int .i64 nd.typ, .int .i64 nd.op, .int .i64 (v : Int), .string s, .slice ka kl kc] 39) := ⟨_, rfl⟩
  have hb0 : Below w.heap.size w w0 := by rw [hw0]; exact (Below.refl _ _).alloc (Nat.le_refl _) _
  have hs0 : w.heap.size + 1 ≤ w0.heap.size := by rw [hw0]; simp
  have y8 : w0.cell? ⟨w.heap.size, 8, none⟩ = some (.string s) := by rw [hw0]; simp
  have y4 : w0.cell? ⟨w.heap.size, 4, none⟩ = some (.int .i64 (d : Int)) := by rw [hw0]; simp
  have HW0 : Hid _ := hw0
  clear hw0
  go_enter Tryz.func25, Tryz.ntmps25
  go_wp2_with fail
  go_ret
  rw [← HW0.out]
  exact ⟨ret_s (by rw [HP.out]; apply bs_of; simp [dt_app, bs_dt, HS.out, HD.out, HV.out]), hb0⟩
set_option maxRecDepth 10000 in
set_option maxHeartbeats 4000000 in
theorem bh9 (w : World) (nd : Nd) (ka : Option Addr) (kc kl : Nat) (s : ByteArray) (d v : Nat) (H : BhE nd s kl d v) (hk : nd.kind = 9) (o : Nat) (ho : o ≤ 100000000) :
    Calls Tryz.prog 25 #[.agg #[.int .i64 9, .int .i64 nd.at_, .int .i64 nd.wh, .int .i64 nd.close, .int .i64 (d : Int), .int .i64 nd.typ, .int .i64 nd.op, .int .i64 (v : Int), .string s, .slice ka kl kc], .int .i64 o] w fun e w' => e = .returned (.string (bs (etx o (tl nd)))) ∧ Below w.heap.size w w' := by
  have HP : Hid (etx o (tl nd) = ([41, 59] : List UInt8)) := by
    show _ = _
    simp [etx, tl, hk, tp, ep]
  have HS : Hid (s = bs nd.name) := H.es
  have hsz : s.size ≤ 64 := by rw [H.es, bs_size]; exact H.esl
  have HD : Hid (nd.decl = (d : Int)) := H.ed
  have HV : Hid (nd.val = (v : Int)) := H.ev
  have hkl := H.ekl
  clear H hk hkl
  obtain ⟨w0, hw0⟩ : ∃ w0, w0 = w.alloc (.cells #[.int .i64 9, .int .i64 nd.at_, .int .i64 nd.wh, .int .i64 nd.close, .int .i64 (d : Int), .int .i64 nd.typ, .int .i64 nd.op, .int .i64 (v : Int), .string s, .slice ka kl kc] 39) := ⟨_, rfl⟩
  have hb0 : Below w.heap.size w w0 := by rw [hw0]; exact (Below.refl _ _).alloc (Nat.le_refl _) _
  have hs0 : w.heap.size + 1 ≤ w0.heap.size := by rw [hw0]; simp
  have y8 : w0.cell? ⟨w.heap.size, 8, none⟩ = some (.string s) := by rw [hw0]; simp
  have y4 : w0.cell? ⟨w.heap.size, 4, none⟩ = some (.int .i64 (d : Int)) := by rw [hw0]; simp
  have HW0 : Hid _ := hw0
  clear hw0
  go_enter Tryz.func25, Tryz.ntmps25
  go_wp2_with fail
  go_ret
  rw [← HW0.out]
  exact ⟨ret_s (by rw [HP.out]; apply bs_of; simp [dt_app, bs_dt, HS.out, HD.out, HV.out]), hb0⟩
set_option maxRecDepth 10000 in
set_option maxHeartbeats 4000000 in
theorem bh10 (w : World) (nd : Nd) (ka : Option Addr) (kc kl : Nat) (s : ByteArray) (d v : Nat) (H : BhE nd s kl d v) (hk : nd.kind = 10) (o : Nat) (ho : o ≤ 100000000) :
    Calls Tryz.prog 25 #[.agg #[.int .i64 10, .int .i64 nd.at_, .int .i64 nd.wh, .int .i64 nd.close, .int .i64 (d : Int), .int .i64 nd.typ, .int .i64 nd.op, .int .i64 (v : Int), .string s, .slice ka kl kc], .int .i64 o] w fun e w' => e = .returned (.string (bs (etx o (tl nd)))) ∧ Below w.heap.size w w' := by
  have HP : Hid (etx o (tl nd) = ([] : List UInt8)) := by
    show _ = _
    simp [etx, tl, hk, tp, ep]
  have HS : Hid (s = bs nd.name) := H.es
  have hsz : s.size ≤ 64 := by rw [H.es, bs_size]; exact H.esl
  have HD : Hid (nd.decl = (d : Int)) := H.ed
  have HV : Hid (nd.val = (v : Int)) := H.ev
  have hkl := H.ekl
  clear H hk hkl
  obtain ⟨w0, hw0⟩ : ∃ w0, w0 = w.alloc (.cells #[.int .i64 10, .int .i64 nd.at_, .int .i64 nd.wh, .int .i64 nd.close, .int .i64 (d : Int), .int .i64 nd.typ, .int .i64 nd.op, .int .i64 (v : Int), .string s, .slice ka kl kc] 39) := ⟨_, rfl⟩
  have hb0 : Below w.heap.size w w0 := by rw [hw0]; exact (Below.refl _ _).alloc (Nat.le_refl _) _
  have hs0 : w.heap.size + 1 ≤ w0.heap.size := by rw [hw0]; simp
  have y8 : w0.cell? ⟨w.heap.size, 8, none⟩ = some (.string s) := by rw [hw0]; simp
  have y4 : w0.cell? ⟨w.heap.size, 4, none⟩ = some (.int .i64 (d : Int)) := by rw [hw0]; simp
  have HW0 : Hid _ := hw0
  clear hw0
  go_enter Tryz.func25, Tryz.ntmps25
  go_wp2_with fail
  go_ret
  rw [← HW0.out]
  exact ⟨ret_s (by rw [HP.out]; apply bs_of; simp [dt_app, bs_dt, HS.out, HD.out, HV.out]), hb0⟩
set_option maxRecDepth 10000 in
set_option maxHeartbeats 4000000 in
theorem bh11 (w : World) (nd : Nd) (ka : Option Addr) (kc kl : Nat) (s : ByteArray) (d v : Nat) (H : BhE nd s kl d v) (hk : nd.kind = 11) (o : Nat) (ho : o ≤ 100000000) :
    Calls Tryz.prog 25 #[.agg #[.int .i64 11, .int .i64 nd.at_, .int .i64 nd.wh, .int .i64 nd.close, .int .i64 (d : Int), .int .i64 nd.typ, .int .i64 nd.op, .int .i64 (v : Int), .string s, .slice ka kl kc], .int .i64 o] w fun e w' => e = .returned (.string (bs (etx o (tl nd)))) ∧ Below w.heap.size w w' := by
  have HP : Hid (etx o (tl nd) = ([] : List UInt8)) := by
    show _ = _
    simp [etx, tl, hk, tp, ep]
  have HS : Hid (s = bs nd.name) := H.es
  have hsz : s.size ≤ 64 := by rw [H.es, bs_size]; exact H.esl
  have HD : Hid (nd.decl = (d : Int)) := H.ed
  have HV : Hid (nd.val = (v : Int)) := H.ev
  have hkl := H.ekl
  clear H hk hkl
  obtain ⟨w0, hw0⟩ : ∃ w0, w0 = w.alloc (.cells #[.int .i64 11, .int .i64 nd.at_, .int .i64 nd.wh, .int .i64 nd.close, .int .i64 (d : Int), .int .i64 nd.typ, .int .i64 nd.op, .int .i64 (v : Int), .string s, .slice ka kl kc] 39) := ⟨_, rfl⟩
  have hb0 : Below w.heap.size w w0 := by rw [hw0]; exact (Below.refl _ _).alloc (Nat.le_refl _) _
  have hs0 : w.heap.size + 1 ≤ w0.heap.size := by rw [hw0]; simp
  have y8 : w0.cell? ⟨w.heap.size, 8, none⟩ = some (.string s) := by rw [hw0]; simp
  have y4 : w0.cell? ⟨w.heap.size, 4, none⟩ = some (.int .i64 (d : Int)) := by rw [hw0]; simp
  have HW0 : Hid _ := hw0
  clear hw0
  go_enter Tryz.func25, Tryz.ntmps25
  go_wp2_with fail
  go_ret
  rw [← HW0.out]
  exact ⟨ret_s (by rw [HP.out]; apply bs_of; simp [dt_app, bs_dt, HS.out, HD.out, HV.out]), hb0⟩
set_option maxRecDepth 10000 in
set_option maxHeartbeats 4000000 in
theorem bh30 (w : World) (nd : Nd) (ka : Option Addr) (kc kl : Nat) (s : ByteArray) (d v : Nat) (H : BhE nd s kl d v) (hk : nd.kind = 30) (o : Nat) (ho : o ≤ 100000000) :
    Calls Tryz.prog 25 #[.agg #[.int .i64 30, .int .i64 nd.at_, .int .i64 nd.wh, .int .i64 nd.close, .int .i64 (d : Int), .int .i64 nd.typ, .int .i64 nd.op, .int .i64 (v : Int), .string s, .slice ka kl kc], .int .i64 o] w fun e w' => e = .returned (.string (bs (etx o (tl nd)))) ∧ Below w.heap.size w w' := by
  have HP : Hid (etx o (tl nd) = ([] : List UInt8)) := by
    show _ = _
    simp [etx, tl, hk, tp, ep]
  have HS : Hid (s = bs nd.name) := H.es
  have hsz : s.size ≤ 64 := by rw [H.es, bs_size]; exact H.esl
  have HD : Hid (nd.decl = (d : Int)) := H.ed
  have HV : Hid (nd.val = (v : Int)) := H.ev
  have hkl := H.ekl
  clear H hk hkl
  obtain ⟨w0, hw0⟩ : ∃ w0, w0 = w.alloc (.cells #[.int .i64 30, .int .i64 nd.at_, .int .i64 nd.wh, .int .i64 nd.close, .int .i64 (d : Int), .int .i64 nd.typ, .int .i64 nd.op, .int .i64 (v : Int), .string s, .slice ka kl kc] 39) := ⟨_, rfl⟩
  have hb0 : Below w.heap.size w w0 := by rw [hw0]; exact (Below.refl _ _).alloc (Nat.le_refl _) _
  have hs0 : w.heap.size + 1 ≤ w0.heap.size := by rw [hw0]; simp
  have y8 : w0.cell? ⟨w.heap.size, 8, none⟩ = some (.string s) := by rw [hw0]; simp
  have y4 : w0.cell? ⟨w.heap.size, 4, none⟩ = some (.int .i64 (d : Int)) := by rw [hw0]; simp
  have HW0 : Hid _ := hw0
  clear hw0
  go_enter Tryz.func25, Tryz.ntmps25
  go_wp2_with fail
  go_ret
  rw [← HW0.out]
  exact ⟨ret_s (by rw [HP.out]; apply bs_of; simp [dt_app, bs_dt, HS.out, HD.out, HV.out]), hb0⟩
set_option maxRecDepth 10000 in
set_option maxHeartbeats 4000000 in
theorem bh31 (w : World) (nd : Nd) (ka : Option Addr) (kc kl : Nat) (s : ByteArray) (d v : Nat) (H : BhE nd s kl d v) (hk : nd.kind = 31) (o : Nat) (ho : o ≤ 100000000) :
    Calls Tryz.prog 25 #[.agg #[.int .i64 31, .int .i64 nd.at_, .int .i64 nd.wh, .int .i64 nd.close, .int .i64 (d : Int), .int .i64 nd.typ, .int .i64 nd.op, .int .i64 (v : Int), .string s, .slice ka kl kc], .int .i64 o] w fun e w' => e = .returned (.string (bs (etx o (tl nd)))) ∧ Below w.heap.size w w' := by
  have HP : Hid (etx o (tl nd) = ([] : List UInt8)) := by
    show _ = _
    simp [etx, tl, hk, tp, ep]
  have HS : Hid (s = bs nd.name) := H.es
  have hsz : s.size ≤ 64 := by rw [H.es, bs_size]; exact H.esl
  have HD : Hid (nd.decl = (d : Int)) := H.ed
  have HV : Hid (nd.val = (v : Int)) := H.ev
  have hkl := H.ekl
  clear H hk hkl
  obtain ⟨w0, hw0⟩ : ∃ w0, w0 = w.alloc (.cells #[.int .i64 31, .int .i64 nd.at_, .int .i64 nd.wh, .int .i64 nd.close, .int .i64 (d : Int), .int .i64 nd.typ, .int .i64 nd.op, .int .i64 (v : Int), .string s, .slice ka kl kc] 39) := ⟨_, rfl⟩
  have hb0 : Below w.heap.size w w0 := by rw [hw0]; exact (Below.refl _ _).alloc (Nat.le_refl _) _
  have hs0 : w.heap.size + 1 ≤ w0.heap.size := by rw [hw0]; simp
  have y8 : w0.cell? ⟨w.heap.size, 8, none⟩ = some (.string s) := by rw [hw0]; simp
  have y4 : w0.cell? ⟨w.heap.size, 4, none⟩ = some (.int .i64 (d : Int)) := by rw [hw0]; simp
  have HW0 : Hid _ := hw0
  clear hw0
  go_enter Tryz.func25, Tryz.ntmps25
  go_wp2_with fail
  go_ret
  rw [← HW0.out]
  exact ⟨ret_s (by rw [HP.out]; apply bs_of; simp [dt_app, bs_dt, HS.out, HD.out, HV.out]), hb0⟩
set_option maxRecDepth 10000 in
set_option maxHeartbeats 4000000 in
theorem bh12a (w : World) (nd : Nd) (ka : Option Addr) (kc kl : Nat) (s : ByteArray) (d v : Nat) (H : BhE nd s kl d v) (hk : nd.kind = 12) (o : Nat) (ho : o ≤ 100000000) (hn0 : nd.kids = []) :
    Calls Tryz.prog 25 #[.agg #[.int .i64 12, .int .i64 nd.at_, .int .i64 nd.wh, .int .i64 nd.close, .int .i64 (d : Int), .int .i64 nd.typ, .int .i64 nd.op, .int .i64 (v : Int), .string s, .slice ka kl kc], .int .i64 o] w fun e w' => e = .returned (.string (bs (etx o (tl nd)))) ∧ Below w.heap.size w w' := by
  have HP : Hid (etx o (tl nd) = ([114, 101, 116, 117, 114, 110, 59] : List UInt8)) := by
    show _ = _
    simp [etx, tl, hk, tp, ep, hn0]
  have HS : Hid (s = bs nd.name) := H.es
  have hsz : s.size ≤ 64 := by rw [H.es, bs_size]; exact H.esl
  have HD : Hid (nd.decl = (d : Int)) := H.ed
  have HV : Hid (nd.val = (v : Int)) := H.ev
  have hkl := H.ekl
  have qn : ((kl : Int) == 0) = true := by simp; rw [hkl, hn0]; rfl
  clear H hk hkl hn0
  obtain ⟨w0, hw0⟩ : ∃ w0, w0 = w.alloc (.cells #[.int .i64 12, .int .i64 nd.at_, .int .i64 nd.wh, .int .i64 nd.close, .int .i64 (d : Int), .int .i64 nd.typ, .int .i64 nd.op, .int .i64 (v : Int), .string s, .slice ka kl kc] 39) := ⟨_, rfl⟩
  have hb0 : Below w.heap.size w w0 := by rw [hw0]; exact (Below.refl _ _).alloc (Nat.le_refl _) _
  have hs0 : w.heap.size + 1 ≤ w0.heap.size := by rw [hw0]; simp
  have y8 : w0.cell? ⟨w.heap.size, 8, none⟩ = some (.string s) := by rw [hw0]; simp
  have y4 : w0.cell? ⟨w.heap.size, 4, none⟩ = some (.int .i64 (d : Int)) := by rw [hw0]; simp
  have HW0 : Hid _ := hw0
  clear hw0
  go_enter Tryz.func25, Tryz.ntmps25
  go_wp2_with fail
  go_ret
  rw [← HW0.out]
  exact ⟨ret_s (by rw [HP.out]; apply bs_of; simp [dt_app, bs_dt, HS.out, HD.out, HV.out]), hb0⟩
set_option maxRecDepth 10000 in
set_option maxHeartbeats 4000000 in
theorem bh12b (w : World) (nd : Nd) (ka : Option Addr) (kc kl : Nat) (s : ByteArray) (d v : Nat) (H : BhE nd s kl d v) (hk : nd.kind = 12) (o : Nat) (ho : o ≤ 100000000) (hn0 : ¬ nd.kids = []) :
    Calls Tryz.prog 25 #[.agg #[.int .i64 12, .int .i64 nd.at_, .int .i64 nd.wh, .int .i64 nd.close, .int .i64 (d : Int), .int .i64 nd.typ, .int .i64 nd.op, .int .i64 (v : Int), .string s, .slice ka kl kc], .int .i64 o] w fun e w' => e = .returned (.string (bs (etx o (tl nd)))) ∧ Below w.heap.size w w' := by
  have HP : Hid (etx o (tl nd) = ([59] : List UInt8)) := by
    show _ = _
    simp [etx, tl, hk, tp, ep, hn0]
  have HS : Hid (s = bs nd.name) := H.es
  have hsz : s.size ≤ 64 := by rw [H.es, bs_size]; exact H.esl
  have HD : Hid (nd.decl = (d : Int)) := H.ed
  have HV : Hid (nd.val = (v : Int)) := H.ev
  have hkl := H.ekl
  have qn : ((kl : Int) == 0) = false := by simp; rw [hkl]; exact fun e => hn0 (List.length_eq_zero_iff.1 e)
  clear H hk hkl hn0
  obtain ⟨w0, hw0⟩ : ∃ w0, w0 = w.alloc (.cells #[.int .i64 12, .int .i64 nd.at_, .int .i64 nd.wh, .int .i64 nd.close, .int .i64 (d : Int), .int .i64 nd.typ, .int .i64 nd.op, .int .i64 (v : Int), .string s, .slice ka kl kc] 39) := ⟨_, rfl⟩
  have hb0 : Below w.heap.size w w0 := by rw [hw0]; exact (Below.refl _ _).alloc (Nat.le_refl _) _
  have hs0 : w.heap.size + 1 ≤ w0.heap.size := by rw [hw0]; simp
  have y8 : w0.cell? ⟨w.heap.size, 8, none⟩ = some (.string s) := by rw [hw0]; simp
  have y4 : w0.cell? ⟨w.heap.size, 4, none⟩ = some (.int .i64 (d : Int)) := by rw [hw0]; simp
  have HW0 : Hid _ := hw0
  clear hw0
  go_enter Tryz.func25, Tryz.ntmps25
  go_wp2_with fail
  go_ret
  rw [← HW0.out]
  exact ⟨ret_s (by rw [HP.out]; apply bs_of; simp [dt_app, bs_dt, HS.out, HD.out, HV.out]), hb0⟩
set_option maxRecDepth 10000 in
set_option maxHeartbeats 4000000 in
theorem bh13 (w : World) (nd : Nd) (ka : Option Addr) (kc kl : Nat) (s : ByteArray) (d v : Nat) (H : BhE nd s kl d v) (hk : nd.kind = 13) (o : Nat) (ho : o ≤ 100000000) :
    Calls Tryz.prog 25 #[.agg #[.int .i64 13, .int .i64 nd.at_, .int .i64 nd.wh, .int .i64 nd.close, .int .i64 (d : Int), .int .i64 nd.typ, .int .i64 nd.op, .int .i64 (v : Int), .string s, .slice ka kl kc], .int .i64 o] w fun e w' => e = .returned (.string (bs (etx o (tl nd)))) ∧ Below w.heap.size w w' := by
  have HP : Hid (etx o (tl nd) = ([98, 114, 101, 97, 107, 59] : List UInt8)) := by
    show _ = _
    simp [etx, tl, hk, tp, ep]
  have HS : Hid (s = bs nd.name) := H.es
  have hsz : s.size ≤ 64 := by rw [H.es, bs_size]; exact H.esl
  have HD : Hid (nd.decl = (d : Int)) := H.ed
  have HV : Hid (nd.val = (v : Int)) := H.ev
  have hkl := H.ekl
  clear H hk hkl
  obtain ⟨w0, hw0⟩ : ∃ w0, w0 = w.alloc (.cells #[.int .i64 13, .int .i64 nd.at_, .int .i64 nd.wh, .int .i64 nd.close, .int .i64 (d : Int), .int .i64 nd.typ, .int .i64 nd.op, .int .i64 (v : Int), .string s, .slice ka kl kc] 39) := ⟨_, rfl⟩
  have hb0 : Below w.heap.size w w0 := by rw [hw0]; exact (Below.refl _ _).alloc (Nat.le_refl _) _
  have hs0 : w.heap.size + 1 ≤ w0.heap.size := by rw [hw0]; simp
  have y8 : w0.cell? ⟨w.heap.size, 8, none⟩ = some (.string s) := by rw [hw0]; simp
  have y4 : w0.cell? ⟨w.heap.size, 4, none⟩ = some (.int .i64 (d : Int)) := by rw [hw0]; simp
  have HW0 : Hid _ := hw0
  clear hw0
  go_enter Tryz.func25, Tryz.ntmps25
  go_wp2_with fail
  go_ret
  rw [← HW0.out]
  exact ⟨ret_s (by rw [HP.out]; apply bs_of; simp [dt_app, bs_dt, HS.out, HD.out, HV.out]), hb0⟩
set_option maxRecDepth 10000 in
set_option maxHeartbeats 4000000 in
theorem bh14 (w : World) (nd : Nd) (ka : Option Addr) (kc kl : Nat) (s : ByteArray) (d v : Nat) (H : BhE nd s kl d v) (hk : nd.kind = 14) (o : Nat) (ho : o ≤ 100000000) :
    Calls Tryz.prog 25 #[.agg #[.int .i64 14, .int .i64 nd.at_, .int .i64 nd.wh, .int .i64 nd.close, .int .i64 (d : Int), .int .i64 nd.typ, .int .i64 nd.op, .int .i64 (v : Int), .string s, .slice ka kl kc], .int .i64 o] w fun e w' => e = .returned (.string (bs (etx o (tl nd)))) ∧ Below w.heap.size w w' := by
  have HP : Hid (etx o (tl nd) = ([99, 111, 110, 116, 105, 110, 117, 101, 59] : List UInt8)) := by
    show _ = _
    simp [etx, tl, hk, tp, ep]
  have HS : Hid (s = bs nd.name) := H.es
  have hsz : s.size ≤ 64 := by rw [H.es, bs_size]; exact H.esl
  have HD : Hid (nd.decl = (d : Int)) := H.ed
  have HV : Hid (nd.val = (v : Int)) := H.ev
  have hkl := H.ekl
  clear H hk hkl
  obtain ⟨w0, hw0⟩ : ∃ w0, w0 = w.alloc (.cells #[.int .i64 14, .int .i64 nd.at_, .int .i64 nd.wh, .int .i64 nd.close, .int .i64 (d : Int), .int .i64 nd.typ, .int .i64 nd.op, .int .i64 (v : Int), .string s, .slice ka kl kc] 39) := ⟨_, rfl⟩
  have hb0 : Below w.heap.size w w0 := by rw [hw0]; exact (Below.refl _ _).alloc (Nat.le_refl _) _
  have hs0 : w.heap.size + 1 ≤ w0.heap.size := by rw [hw0]; simp
  have y8 : w0.cell? ⟨w.heap.size, 8, none⟩ = some (.string s) := by rw [hw0]; simp
  have y4 : w0.cell? ⟨w.heap.size, 4, none⟩ = some (.int .i64 (d : Int)) := by rw [hw0]; simp
  have HW0 : Hid _ := hw0
  clear hw0
  go_enter Tryz.func25, Tryz.ntmps25
  go_wp2_with fail
  go_ret
  rw [← HW0.out]
  exact ⟨ret_s (by rw [HP.out]; apply bs_of; simp [dt_app, bs_dt, HS.out, HD.out, HV.out]), hb0⟩
set_option maxRecDepth 10000 in
set_option maxHeartbeats 4000000 in
theorem bh20 (w : World) (nd : Nd) (ka : Option Addr) (kc kl : Nat) (s : ByteArray) (d v : Nat) (H : BhE nd s kl d v) (hk : nd.kind = 20) (o : Nat) (ho : o ≤ 100000000) :
    Calls Tryz.prog 25 #[.agg #[.int .i64 20, .int .i64 nd.at_, .int .i64 nd.wh, .int .i64 nd.close, .int .i64 (d : Int), .int .i64 nd.typ, .int .i64 nd.op, .int .i64 (v : Int), .string s, .slice ka kl kc], .int .i64 o] w fun e w' => e = .returned (.string (bs (etx o (tl nd)))) ∧ Below w.heap.size w w' := by
  have HP : Hid (etx o (tl nd) = dcm v) := by
    show _ = _
    simp [etx, tl, hk, tp, ep, H.ev]
  have HS : Hid (s = bs nd.name) := H.es
  have hsz : s.size ≤ 64 := by rw [H.es, bs_size]; exact H.esl
  have HD : Hid (nd.decl = (d : Int)) := H.ed
  have HV : Hid (nd.val = (v : Int)) := H.ev
  have hkl := H.ekl
  have DEC := fun w => rDecimal_any w v H.evm
  obtain ⟨u, hu⟩ : ∃ u, u = bs (dcm v) := ⟨_, rfl⟩
  simp only [← hu] at DEC
  have HU : Hid (u = bs (dcm v)) := hu
  clear hu
  clear H hk hkl
  obtain ⟨w0, hw0⟩ : ∃ w0, w0 = w.alloc (.cells #[.int .i64 20, .int .i64 nd.at_, .int .i64 nd.wh, .int .i64 nd.close, .int .i64 (d : Int), .int .i64 nd.typ, .int .i64 nd.op, .int .i64 (v : Int), .string s, .slice ka kl kc] 39) := ⟨_, rfl⟩
  have hb0 : Below w.heap.size w w0 := by rw [hw0]; exact (Below.refl _ _).alloc (Nat.le_refl _) _
  have hs0 : w.heap.size + 1 ≤ w0.heap.size := by rw [hw0]; simp
  have y8 : w0.cell? ⟨w.heap.size, 8, none⟩ = some (.string s) := by rw [hw0]; simp
  have y4 : w0.cell? ⟨w.heap.size, 4, none⟩ = some (.int .i64 (d : Int)) := by rw [hw0]; simp
  have HW0 : Hid _ := hw0
  clear hw0
  go_enter Tryz.func25, Tryz.ntmps25
  go_wp2_with (first | (go_at_call 42; rw [← HW0.out]; refine (DEC _).mono ?_; rintro e w1 ⟨rfl, hb1⟩; have hB9 : Below w.heap.size w w1 := hb0.trans (hb1.mono (by omega))))
  go_ret
  exact ⟨ret_s (by rw [HP.out]; apply bs_of; simp [dt_app, bs_dt, HS.out, HU.out, HD.out, HV.out]), hB9⟩
set_option maxRecDepth 10000 in
set_option maxHeartbeats 4000000 in
theorem bh21 (w : World) (nd : Nd) (ka : Option Addr) (kc kl : Nat) (s : ByteArray) (d v : Nat) (H : BhE nd s kl d v) (hk : nd.kind = 21) (o : Nat) (ho : o ≤ 100000000) :
    Calls Tryz.prog 25 #[.agg #[.int .i64 21, .int .i64 nd.at_, .int .i64 nd.wh, .int .i64 nd.close, .int .i64 (d : Int), .int .i64 nd.typ, .int .i64 nd.op, .int .i64 (v : Int), .string s, .slice ka kl kc], .int .i64 o] w fun e w' => e = .returned (.string (bs (etx o (tl nd)))) ∧ Below w.heap.size w w' := by
  have HP : Hid (etx o (tl nd) = ([116, 114, 117, 101] : List UInt8)) := by
    show _ = _
    simp [etx, tl, hk, tp, ep]
  have HS : Hid (s = bs nd.name) := H.es
  have hsz : s.size ≤ 64 := by rw [H.es, bs_size]; exact H.esl
  have HD : Hid (nd.decl = (d : Int)) := H.ed
  have HV : Hid (nd.val = (v : Int)) := H.ev
  have hkl := H.ekl
  clear H hk hkl
  obtain ⟨w0, hw0⟩ : ∃ w0, w0 = w.alloc (.cells #[.int .i64 21, .int .i64 nd.at_, .int .i64 nd.wh, .int .i64 nd.close, .int .i64 (d : Int), .int .i64 nd.typ, .int .i64 nd.op, .int .i64 (v : Int), .string s, .slice ka kl kc] 39) := ⟨_, rfl⟩
  have hb0 : Below w.heap.size w w0 := by rw [hw0]; exact (Below.refl _ _).alloc (Nat.le_refl _) _
  have hs0 : w.heap.size + 1 ≤ w0.heap.size := by rw [hw0]; simp
  have y8 : w0.cell? ⟨w.heap.size, 8, none⟩ = some (.string s) := by rw [hw0]; simp
  have y4 : w0.cell? ⟨w.heap.size, 4, none⟩ = some (.int .i64 (d : Int)) := by rw [hw0]; simp
  have HW0 : Hid _ := hw0
  clear hw0
  go_enter Tryz.func25, Tryz.ntmps25
  go_wp2_with fail
  go_ret
  rw [← HW0.out]
  exact ⟨ret_s (by rw [HP.out]; apply bs_of; simp [dt_app, bs_dt, HS.out, HD.out, HV.out]), hb0⟩
set_option maxRecDepth 10000 in
set_option maxHeartbeats 4000000 in
theorem bh22 (w : World) (nd : Nd) (ka : Option Addr) (kc kl : Nat) (s : ByteArray) (d v : Nat) (H : BhE nd s kl d v) (hk : nd.kind = 22) (o : Nat) (ho : o ≤ 100000000) :
    Calls Tryz.prog 25 #[.agg #[.int .i64 22, .int .i64 nd.at_, .int .i64 nd.wh, .int .i64 nd.close, .int .i64 (d : Int), .int .i64 nd.typ, .int .i64 nd.op, .int .i64 (v : Int), .string s, .slice ka kl kc], .int .i64 o] w fun e w' => e = .returned (.string (bs (etx o (tl nd)))) ∧ Below w.heap.size w w' := by
  have HP : Hid (etx o (tl nd) = ([102, 97, 108, 115, 101] : List UInt8)) := by
    show _ = _
    simp [etx, tl, hk, tp, ep]
  have HS : Hid (s = bs nd.name) := H.es
  have hsz : s.size ≤ 64 := by rw [H.es, bs_size]; exact H.esl
  have HD : Hid (nd.decl = (d : Int)) := H.ed
  have HV : Hid (nd.val = (v : Int)) := H.ev
  have hkl := H.ekl
  clear H hk hkl
  obtain ⟨w0, hw0⟩ : ∃ w0, w0 = w.alloc (.cells #[.int .i64 22, .int .i64 nd.at_, .int .i64 nd.wh, .int .i64 nd.close, .int .i64 (d : Int), .int .i64 nd.typ, .int .i64 nd.op, .int .i64 (v : Int), .string s, .slice ka kl kc] 39) := ⟨_, rfl⟩
  have hb0 : Below w.heap.size w w0 := by rw [hw0]; exact (Below.refl _ _).alloc (Nat.le_refl _) _
  have hs0 : w.heap.size + 1 ≤ w0.heap.size := by rw [hw0]; simp
  have y8 : w0.cell? ⟨w.heap.size, 8, none⟩ = some (.string s) := by rw [hw0]; simp
  have y4 : w0.cell? ⟨w.heap.size, 4, none⟩ = some (.int .i64 (d : Int)) := by rw [hw0]; simp
  have HW0 : Hid _ := hw0
  clear hw0
  go_enter Tryz.func25, Tryz.ntmps25
  go_wp2_with fail
  go_ret
  rw [← HW0.out]
  exact ⟨ret_s (by rw [HP.out]; apply bs_of; simp [dt_app, bs_dt, HS.out, HD.out, HV.out]), hb0⟩
set_option maxRecDepth 10000 in
set_option maxHeartbeats 4000000 in
theorem bh23 (w : World) (nd : Nd) (ka : Option Addr) (kc kl : Nat) (s : ByteArray) (d v : Nat) (H : BhE nd s kl d v) (hk : nd.kind = 23) (o : Nat) (ho : o ≤ 100000000) :
    Calls Tryz.prog 25 #[.agg #[.int .i64 23, .int .i64 nd.at_, .int .i64 nd.wh, .int .i64 nd.close, .int .i64 (d : Int), .int .i64 nd.typ, .int .i64 nd.op, .int .i64 (v : Int), .string s, .slice ka kl kc], .int .i64 o] w fun e w' => e = .returned (.string (bs (etx o (tl nd)))) ∧ Below w.heap.size w w' := by
  have HP : Hid (etx o (tl nd) = ([110, 105, 108] : List UInt8)) := by
    show _ = _
    simp [etx, tl, hk, tp, ep]
  have HS : Hid (s = bs nd.name) := H.es
  have hsz : s.size ≤ 64 := by rw [H.es, bs_size]; exact H.esl
  have HD : Hid (nd.decl = (d : Int)) := H.ed
  have HV : Hid (nd.val = (v : Int)) := H.ev
  have hkl := H.ekl
  clear H hk hkl
  obtain ⟨w0, hw0⟩ : ∃ w0, w0 = w.alloc (.cells #[.int .i64 23, .int .i64 nd.at_, .int .i64 nd.wh, .int .i64 nd.close, .int .i64 (d : Int), .int .i64 nd.typ, .int .i64 nd.op, .int .i64 (v : Int), .string s, .slice ka kl kc] 39) := ⟨_, rfl⟩
  have hb0 : Below w.heap.size w w0 := by rw [hw0]; exact (Below.refl _ _).alloc (Nat.le_refl _) _
  have hs0 : w.heap.size + 1 ≤ w0.heap.size := by rw [hw0]; simp
  have y8 : w0.cell? ⟨w.heap.size, 8, none⟩ = some (.string s) := by rw [hw0]; simp
  have y4 : w0.cell? ⟨w.heap.size, 4, none⟩ = some (.int .i64 (d : Int)) := by rw [hw0]; simp
  have HW0 : Hid _ := hw0
  clear hw0
  go_enter Tryz.func25, Tryz.ntmps25
  go_wp2_with fail
  go_ret
  rw [← HW0.out]
  exact ⟨ret_s (by rw [HP.out]; apply bs_of; simp [dt_app, bs_dt, HS.out, HD.out, HV.out]), hb0⟩
set_option maxRecDepth 10000 in
set_option maxHeartbeats 4000000 in
theorem bh24 (w : World) (nd : Nd) (ka : Option Addr) (kc kl : Nat) (s : ByteArray) (d v : Nat) (H : BhE nd s kl d v) (hk : nd.kind = 24) (o : Nat) (ho : o ≤ 100000000) :
    Calls Tryz.prog 25 #[.agg #[.int .i64 24, .int .i64 nd.at_, .int .i64 nd.wh, .int .i64 nd.close, .int .i64 (d : Int), .int .i64 nd.typ, .int .i64 nd.op, .int .i64 (v : Int), .string s, .slice ka kl kc], .int .i64 o] w fun e w' => e = .returned (.string (bs (etx o (tl nd)))) ∧ Below w.heap.size w w' := by
  have HP : Hid (etx o (tl nd) = nd.name) := by
    show _ = _
    simp [etx, tl, hk, tp, ep]
  have HS : Hid (s = bs nd.name) := H.es
  have hsz : s.size ≤ 64 := by rw [H.es, bs_size]; exact H.esl
  have HD : Hid (nd.decl = (d : Int)) := H.ed
  have HV : Hid (nd.val = (v : Int)) := H.ev
  have hkl := H.ekl
  clear H hk hkl
  obtain ⟨w0, hw0⟩ : ∃ w0, w0 = w.alloc (.cells #[.int .i64 24, .int .i64 nd.at_, .int .i64 nd.wh, .int .i64 nd.close, .int .i64 (d : Int), .int .i64 nd.typ, .int .i64 nd.op, .int .i64 (v : Int), .string s, .slice ka kl kc] 39) := ⟨_, rfl⟩
  have hb0 : Below w.heap.size w w0 := by rw [hw0]; exact (Below.refl _ _).alloc (Nat.le_refl _) _
  have hs0 : w.heap.size + 1 ≤ w0.heap.size := by rw [hw0]; simp
  have y8 : w0.cell? ⟨w.heap.size, 8, none⟩ = some (.string s) := by rw [hw0]; simp
  have y4 : w0.cell? ⟨w.heap.size, 4, none⟩ = some (.int .i64 (d : Int)) := by rw [hw0]; simp
  have HW0 : Hid _ := hw0
  clear hw0
  go_enter Tryz.func25, Tryz.ntmps25
  go_wp2_with fail
  go_ret
  rw [← HW0.out]
  exact ⟨ret_s (by rw [HP.out]; apply bs_of; simp [dt_app, bs_dt, HS.out, HD.out, HV.out]), hb0⟩
set_option maxRecDepth 10000 in
set_option maxHeartbeats 4000000 in
theorem bh25a (w : World) (nd : Nd) (ka : Option Addr) (kc kl : Nat) (s : ByteArray) (d v : Nat) (H : BhE nd s kl d v) (hk : nd.kind = 25) (o : Nat) (ho : o ≤ 100000000) (hn0 : nd.kids = []) :
    Calls Tryz.prog 25 #[.agg #[.int .i64 25, .int .i64 nd.at_, .int .i64 nd.wh, .int .i64 nd.close, .int .i64 (d : Int), .int .i64 nd.typ, .int .i64 nd.op, .int .i64 (v : Int), .string s, .slice ka kl kc], .int .i64 o] w fun e w' => e = .returned (.string (bs (etx o (tl nd)))) ∧ Below w.heap.size w w' := by
  have HP : Hid (etx o (tl nd) = nd.name ++ ([40, 41] : List UInt8)) := by
    show _ = _
    simp [etx, tl, hk, tp, ep, hn0]
  have HS : Hid (s = bs nd.name) := H.es
  have hsz : s.size ≤ 64 := by rw [H.es, bs_size]; exact H.esl
  have HD : Hid (nd.decl = (d : Int)) := H.ed
  have HV : Hid (nd.val = (v : Int)) := H.ev
  have hkl := H.ekl
  have qn : ((kl : Int) == 0) = true := by simp; rw [hkl, hn0]; rfl
  clear H hk hkl hn0
  obtain ⟨w0, hw0⟩ : ∃ w0, w0 = w.alloc (.cells #[.int .i64 25, .int .i64 nd.at_, .int .i64 nd.wh, .int .i64 nd.close, .int .i64 (d : Int), .int .i64 nd.typ, .int .i64 nd.op, .int .i64 (v : Int), .string s, .slice ka kl kc] 39) := ⟨_, rfl⟩
  have hb0 : Below w.heap.size w w0 := by rw [hw0]; exact (Below.refl _ _).alloc (Nat.le_refl _) _
  have hs0 : w.heap.size + 1 ≤ w0.heap.size := by rw [hw0]; simp
  have y8 : w0.cell? ⟨w.heap.size, 8, none⟩ = some (.string s) := by rw [hw0]; simp
  have y4 : w0.cell? ⟨w.heap.size, 4, none⟩ = some (.int .i64 (d : Int)) := by rw [hw0]; simp
  have HW0 : Hid _ := hw0
  clear hw0
  go_enter Tryz.func25, Tryz.ntmps25
  go_wp2_with fail
  go_ret
  rw [← HW0.out]
  exact ⟨ret_s (by rw [HP.out]; apply bs_of; simp [dt_app, bs_dt, HS.out, HD.out, HV.out]), hb0⟩
set_option maxRecDepth 10000 in
set_option maxHeartbeats 4000000 in
theorem bh25b (w : World) (nd : Nd) (ka : Option Addr) (kc kl : Nat) (s : ByteArray) (d v : Nat) (H : BhE nd s kl d v) (hk : nd.kind = 25) (o : Nat) (ho : o ≤ 100000000) (hn0 : ¬ nd.kids = []) :
    Calls Tryz.prog 25 #[.agg #[.int .i64 25, .int .i64 nd.at_, .int .i64 nd.wh, .int .i64 nd.close, .int .i64 (d : Int), .int .i64 nd.typ, .int .i64 nd.op, .int .i64 (v : Int), .string s, .slice ka kl kc], .int .i64 o] w fun e w' => e = .returned (.string (bs (etx o (tl nd)))) ∧ Below w.heap.size w w' := by
  have HP : Hid (etx o (tl nd) = ([41] : List UInt8)) := by
    show _ = _
    simp [etx, tl, hk, tp, ep, hn0]
  have HS : Hid (s = bs nd.name) := H.es
  have hsz : s.size ≤ 64 := by rw [H.es, bs_size]; exact H.esl
  have HD : Hid (nd.decl = (d : Int)) := H.ed
  have HV : Hid (nd.val = (v : Int)) := H.ev
  have hkl := H.ekl
  have qn : ((kl : Int) == 0) = false := by simp; rw [hkl]; exact fun e => hn0 (List.length_eq_zero_iff.1 e)
  clear H hk hkl hn0
  obtain ⟨w0, hw0⟩ : ∃ w0, w0 = w.alloc (.cells #[.int .i64 25, .int .i64 nd.at_, .int .i64 nd.wh, .int .i64 nd.close, .int .i64 (d : Int), .int .i64 nd.typ, .int .i64 nd.op, .int .i64 (v : Int), .string s, .slice ka kl kc] 39) := ⟨_, rfl⟩
  have hb0 : Below w.heap.size w w0 := by rw [hw0]; exact (Below.refl _ _).alloc (Nat.le_refl _) _
  have hs0 : w.heap.size + 1 ≤ w0.heap.size := by rw [hw0]; simp
  have y8 : w0.cell? ⟨w.heap.size, 8, none⟩ = some (.string s) := by rw [hw0]; simp
  have y4 : w0.cell? ⟨w.heap.size, 4, none⟩ = some (.int .i64 (d : Int)) := by rw [hw0]; simp
  have HW0 : Hid _ := hw0
  clear hw0
  go_enter Tryz.func25, Tryz.ntmps25
  go_wp2_with fail
  go_ret
  rw [← HW0.out]
  exact ⟨ret_s (by rw [HP.out]; apply bs_of; simp [dt_app, bs_dt, HS.out, HD.out, HV.out]), hb0⟩
set_option maxRecDepth 10000 in
set_option maxHeartbeats 4000000 in
theorem bh26 (w : World) (nd : Nd) (ka : Option Addr) (kc kl : Nat) (s : ByteArray) (d v : Nat) (H : BhE nd s kl d v) (hk : nd.kind = 26) (o : Nat) (ho : o ≤ 100000000) :
    Calls Tryz.prog 25 #[.agg #[.int .i64 26, .int .i64 nd.at_, .int .i64 nd.wh, .int .i64 nd.close, .int .i64 (d : Int), .int .i64 nd.typ, .int .i64 nd.op, .int .i64 (v : Int), .string s, .slice ka kl kc], .int .i64 o] w fun e w' => e = .returned (.string (bs (etx o (tl nd)))) ∧ Below w.heap.size w w' := by
  have HP : Hid (etx o (tl nd) = ([105, 110, 112, 117, 116, 40, 41] : List UInt8)) := by
    show _ = _
    simp [etx, tl, hk, tp, ep]
  have HS : Hid (s = bs nd.name) := H.es
  have hsz : s.size ≤ 64 := by rw [H.es, bs_size]; exact H.esl
  have HD : Hid (nd.decl = (d : Int)) := H.ed
  have HV : Hid (nd.val = (v : Int)) := H.ev
  have hkl := H.ekl
  clear H hk hkl
  obtain ⟨w0, hw0⟩ : ∃ w0, w0 = w.alloc (.cells #[.int .i64 26, .int .i64 nd.at_, .int .i64 nd.wh, .int .i64 nd.close, .int .i64 (d : Int), .int .i64 nd.typ, .int .i64 nd.op, .int .i64 (v : Int), .string s, .slice ka kl kc] 39) := ⟨_, rfl⟩
  have hb0 : Below w.heap.size w w0 := by rw [hw0]; exact (Below.refl _ _).alloc (Nat.le_refl _) _
  have hs0 : w.heap.size + 1 ≤ w0.heap.size := by rw [hw0]; simp
  have y8 : w0.cell? ⟨w.heap.size, 8, none⟩ = some (.string s) := by rw [hw0]; simp
  have y4 : w0.cell? ⟨w.heap.size, 4, none⟩ = some (.int .i64 (d : Int)) := by rw [hw0]; simp
  have HW0 : Hid _ := hw0
  clear hw0
  go_enter Tryz.func25, Tryz.ntmps25
  go_wp2_with fail
  go_ret
  rw [← HW0.out]
  exact ⟨ret_s (by rw [HP.out]; apply bs_of; simp [dt_app, bs_dt, HS.out, HD.out, HV.out]), hb0⟩
set_option maxRecDepth 10000 in
set_option maxHeartbeats 4000000 in
theorem bh27 (w : World) (nd : Nd) (ka : Option Addr) (kc kl : Nat) (s : ByteArray) (d v : Nat) (H : BhE nd s kl d v) (hk : nd.kind = 27) (o : Nat) (ho : o ≤ 100000000) :
    Calls Tryz.prog 25 #[.agg #[.int .i64 27, .int .i64 nd.at_, .int .i64 nd.wh, .int .i64 nd.close, .int .i64 (d : Int), .int .i64 nd.typ, .int .i64 nd.op, .int .i64 (v : Int), .string s, .slice ka kl kc], .int .i64 o] w fun e w' => e = .returned (.string (bs (etx o (tl nd)))) ∧ Below w.heap.size w w' := by
  have HP : Hid (etx o (tl nd) = ([41] : List UInt8)) := by
    show _ = _
    simp [etx, tl, hk, tp, ep]
  have HS : Hid (s = bs nd.name) := H.es
  have hsz : s.size ≤ 64 := by rw [H.es, bs_size]; exact H.esl
  have HD : Hid (nd.decl = (d : Int)) := H.ed
  have HV : Hid (nd.val = (v : Int)) := H.ev
  have hkl := H.ekl
  clear H hk hkl
  obtain ⟨w0, hw0⟩ : ∃ w0, w0 = w.alloc (.cells #[.int .i64 27, .int .i64 nd.at_, .int .i64 nd.wh, .int .i64 nd.close, .int .i64 (d : Int), .int .i64 nd.typ, .int .i64 nd.op, .int .i64 (v : Int), .string s, .slice ka kl kc] 39) := ⟨_, rfl⟩
  have hb0 : Below w.heap.size w w0 := by rw [hw0]; exact (Below.refl _ _).alloc (Nat.le_refl _) _
  have hs0 : w.heap.size + 1 ≤ w0.heap.size := by rw [hw0]; simp
  have y8 : w0.cell? ⟨w.heap.size, 8, none⟩ = some (.string s) := by rw [hw0]; simp
  have y4 : w0.cell? ⟨w.heap.size, 4, none⟩ = some (.int .i64 (d : Int)) := by rw [hw0]; simp
  have HW0 : Hid _ := hw0
  clear hw0
  go_enter Tryz.func25, Tryz.ntmps25
  go_wp2_with fail
  go_ret
  rw [← HW0.out]
  exact ⟨ret_s (by rw [HP.out]; apply bs_of; simp [dt_app, bs_dt, HS.out, HD.out, HV.out]), hb0⟩
set_option maxRecDepth 10000 in
set_option maxHeartbeats 4000000 in
theorem bh28 (w : World) (nd : Nd) (ka : Option Addr) (kc kl : Nat) (s : ByteArray) (d v : Nat) (H : BhE nd s kl d v) (hk : nd.kind = 28) (o : Nat) (ho : o ≤ 100000000) :
    Calls Tryz.prog 25 #[.agg #[.int .i64 28, .int .i64 nd.at_, .int .i64 nd.wh, .int .i64 nd.close, .int .i64 (d : Int), .int .i64 nd.typ, .int .i64 nd.op, .int .i64 (v : Int), .string s, .slice ka kl kc], .int .i64 o] w fun e w' => e = .returned (.string (bs (etx o (tl nd)))) ∧ Below w.heap.size w w' := by
  have HP : Hid (etx o (tl nd) = ([41] : List UInt8)) := by
    show _ = _
    simp [etx, tl, hk, tp, ep]
  have HS : Hid (s = bs nd.name) := H.es
  have hsz : s.size ≤ 64 := by rw [H.es, bs_size]; exact H.esl
  have HD : Hid (nd.decl = (d : Int)) := H.ed
  have HV : Hid (nd.val = (v : Int)) := H.ev
  have hkl := H.ekl
  clear H hk hkl
  obtain ⟨w0, hw0⟩ : ∃ w0, w0 = w.alloc (.cells #[.int .i64 28, .int .i64 nd.at_, .int .i64 nd.wh, .int .i64 nd.close, .int .i64 (d : Int), .int .i64 nd.typ, .int .i64 nd.op, .int .i64 (v : Int), .string s, .slice ka kl kc] 39) := ⟨_, rfl⟩
  have hb0 : Below w.heap.size w w0 := by rw [hw0]; exact (Below.refl _ _).alloc (Nat.le_refl _) _
  have hs0 : w.heap.size + 1 ≤ w0.heap.size := by rw [hw0]; simp
  have y8 : w0.cell? ⟨w.heap.size, 8, none⟩ = some (.string s) := by rw [hw0]; simp
  have y4 : w0.cell? ⟨w.heap.size, 4, none⟩ = some (.int .i64 (d : Int)) := by rw [hw0]; simp
  have HW0 : Hid _ := hw0
  clear hw0
  go_enter Tryz.func25, Tryz.ntmps25
  go_wp2_with fail
  go_ret
  rw [← HW0.out]
  exact ⟨ret_s (by rw [HP.out]; apply bs_of; simp [dt_app, bs_dt, HS.out, HD.out, HV.out]), hb0⟩
set_option maxRecDepth 10000 in
set_option maxHeartbeats 4000000 in
theorem bh29 (w : World) (nd : Nd) (ka : Option Addr) (kc kl : Nat) (s : ByteArray) (d v : Nat) (H : BhE nd s kl d v) (hk : nd.kind = 29) (o : Nat) (ho : o ≤ 100000000) :
    Calls Tryz.prog 25 #[.agg #[.int .i64 29, .int .i64 nd.at_, .int .i64 nd.wh, .int .i64 nd.close, .int .i64 (d : Int), .int .i64 nd.typ, .int .i64 nd.op, .int .i64 (v : Int), .string s, .slice ka kl kc], .int .i64 o] w fun e w' => e = .returned (.string (bs (etx o (tl nd)))) ∧ Below w.heap.size w w' := by
  have HP : Hid (etx o (tl nd) = ([93] : List UInt8)) := by
    show _ = _
    simp [etx, tl, hk, tp, ep]
  have HS : Hid (s = bs nd.name) := H.es
  have hsz : s.size ≤ 64 := by rw [H.es, bs_size]; exact H.esl
  have HD : Hid (nd.decl = (d : Int)) := H.ed
  have HV : Hid (nd.val = (v : Int)) := H.ev
  have hkl := H.ekl
  clear H hk hkl
  obtain ⟨w0, hw0⟩ : ∃ w0, w0 = w.alloc (.cells #[.int .i64 29, .int .i64 nd.at_, .int .i64 nd.wh, .int .i64 nd.close, .int .i64 (d : Int), .int .i64 nd.typ, .int .i64 nd.op, .int .i64 (v : Int), .string s, .slice ka kl kc] 39) := ⟨_, rfl⟩
  have hb0 : Below w.heap.size w w0 := by rw [hw0]; exact (Below.refl _ _).alloc (Nat.le_refl _) _
  have hs0 : w.heap.size + 1 ≤ w0.heap.size := by rw [hw0]; simp
  have y8 : w0.cell? ⟨w.heap.size, 8, none⟩ = some (.string s) := by rw [hw0]; simp
  have y4 : w0.cell? ⟨w.heap.size, 4, none⟩ = some (.int .i64 (d : Int)) := by rw [hw0]; simp
  have HW0 : Hid _ := hw0
  clear hw0
  go_enter Tryz.func25, Tryz.ntmps25
  go_wp2_with fail
  go_ret
  rw [← HW0.out]
  exact ⟨ret_s (by rw [HP.out]; apply bs_of; simp [dt_app, bs_dt, HS.out, HD.out, HV.out]), hb0⟩
end Go.Proofs.YtchobeakieljpaaGreatDoor
