import Derived.Test.YtchobeakieljpaaGreatDoorLvA
import Derived.Deep.RegionHeld
set_option linter.unusedVariables false
set_option linter.unusedSimpArgs false
namespace Go.Proofs.YtchobeakieljpaaGreatDoor
open Go.ChangeShapes Go.WideShapes Go.ChangeAt Go.RowKit

/-- The text of pieces none of which ends a block. -/
def ptx (o : Nat) : List Pt → List UInt8
  | [] => []
  | p :: r => (if p.form = 0 then p.text else tabs o) ++ ptx o r
theorem bs_of {a : ByteArray} {L : List UInt8} (h : a.data.toList = L) : a = bs L := by
  rw [← h]
  simp [bs]
theorem bs_dt (L : List UInt8) : (bs L).data.toList = L := by simp [bs]
theorem dt_app (a b : ByteArray) : (a ++ b).data.toList = a.data.toList ++ b.data.toList := by simp
theorem typeT_len (d : Nat) (h : d < 4) : (bs (typeT (d : Int))).size ≤ 5 := by
  rw [bs_size]
  rcases (by omega : d = 0 ∨ d = 1 ∨ d = 2 ∨ d = 3) with rfl | rfl | rfl | rfl <;> decide
theorem opT_len (d : Nat) (h : d < 23) : (bs (opT (d : Int))).size ≤ 2 := by
  rw [bs_size]
  rcases (by omega : d = 0 ∨ d = 1 ∨ d = 2 ∨ d = 3 ∨ d = 4 ∨ d = 5 ∨ d = 6 ∨ d = 7 ∨ d = 8 ∨ d = 9 ∨ d = 10 ∨ d = 11 ∨ d = 12 ∨ d = 13 ∨ d = 14 ∨ d = 15 ∨ d = 16 ∨ d = 17 ∨ d = 18 ∨ d = 19 ∨ d = 20 ∨ d = 21 ∨ d = 22) with rfl | rfl | rfl | rfl | rfl | rfl | rfl | rfl | rfl | rfl | rfl | rfl | rfl | rfl | rfl | rfl | rfl | rfl | rfl | rfl | rfl | rfl | rfl <;> decide
/-- What ahead is asked: a node of a tree, one of its kids. -/
structure AhE (w : World) (no : Option Addr) (nc nn : Nat) (N : List Nd) (nd : Nd) (ka : Option Addr) (kc kl : Nat) (s : ByteArray) (i d p : Nat) : Prop where
  enn : nn = N.length
  enod : Nodes w no nc N
  ekds : Ints w ka kc nd.kids
  ekl : kl = nd.kids.length
  ei : i < kl
  erg : ∀ x ∈ nd.kids, 0 ≤ x ∧ x < nn
  ekb : kl ≤ 1000000000
  enb : nn ≤ 1000000000
  es : s = bs nd.name
  esl : nd.name.length ≤ 64
  ed : nd.decl = (d : Int)
  ed4 : d < 4
  ep : nd.op = (p : Int)
  ep23 : p < 23
theorem AhE.ar {w no nc nn N nd ka kc kl s i d p} (h : AhE w no nc nn N nd ka kc kl s i d p) (fo : Option Addr) (fc fn : Nat) (k : Int) (hk : nd.kind = k) (R : Bool) (hR : R = ard N nd i) : ∀ wx, Below w.heap.size w wx → Calls Tryz.prog 23 #[.agg #[.slice no nn nc, .slice fo fn fc], .agg #[.int .i64 k, .int .i64 nd.at_, .int .i64 nd.wh, .int .i64 nd.close, .int .i64 (d : Int), .int .i64 nd.typ, .int .i64 (p : Int), .int .i64 nd.val, .string s, .slice ka kl kc], .int .i64 i] wx fun e w' => e = .returned (.bool R) ∧ Below wx.heap.size wx w' := fun wx hx => by
  have := rAround_any wx no nc nn fo fc fn N h.enn (h.enod.below hx (Nat.le_refl _)) nd ka kc kl s (h.ekds.below hx (Nat.le_refl _)) h.ekl i h.ei h.erg h.ekb h.enb R hR
  rw [hk, h.ed, h.ep] at this
  exact this
set_option maxRecDepth 10000 in
set_option maxHeartbeats 4000000 in
theorem ah1a (w : World) (no : Option Addr) (nc nn : Nat) (fo : Option Addr) (fc fn : Nat) (N : List Nd) (nd : Nd) (ka : Option Addr) (kc kl : Nat) (s : ByteArray) (i d p : Nat) (H : AhE w no nc nn N nd ka kc kl s i d p) (hk : nd.kind = 1) (o : Nat) (ho : o ≤ 100000000) (hi0 : i = 0) (hl1 : ¬ nd.kids.length = 1) (R : Bool) (hR : R = ard N nd i) :
    Calls Tryz.prog 24 #[.agg #[.slice no nn nc, .slice fo fn fc], .agg #[.int .i64 1, .int .i64 nd.at_, .int .i64 nd.wh, .int .i64 nd.close, .int .i64 (d : Int), .int .i64 nd.typ, .int .i64 (p : Int), .int .i64 nd.val, .string s, .slice ka kl kc], .int .i64 i, .int .i64 o] w fun e w' => e = .returned (.string (bs (ptx o (pre nd i) ++ if R = true then [40] else []))) ∧ Below w.heap.size w w' := by
  have AR := H.ar fo fc fn 1 hk R hR
  have HP : Hid (ptx o (pre nd i) = ([102, 117, 110, 99, 32] : List UInt8) ++ nd.name ++ ([40] : List UInt8)) := by
    show _ = _
    simp [ptx, pre, hk, tp, np, hi0, hl1, Ne.symm hl1, show ¬ 1 = nd.kids.length from fun e => hl1 e.symm]
  have HS : Hid (s = bs nd.name) := H.es
  have hsz : s.size ≤ 64 := by rw [H.es, bs_size]; exact H.esl
  have HD : Hid (nd.decl = (d : Int)) := H.ed
  have HO : Hid (nd.op = (p : Int)) := H.ep
  have hRf : R = false := by rw [hR]; simp [ard, hk]
  subst hRf
  have hkl := H.ekl
  have hi := H.ei
  have hkb := H.ekb
  have q1 : ((i : Int) == 0) = true := by simp; omega
  have q2 : ((i : Int) == (kl : Int) - 1) = false := by simp; omega
  clear hR H hk hkl hi0 hl1
  obtain ⟨w0, hw0⟩ : ∃ w0, w0 = (w.alloc (.cells #[.slice no nn nc, .slice fo fn fc] 27)).alloc (.cells #[.int .i64 1, .int .i64 nd.at_, .int .i64 nd.wh, .int .i64 nd.close, .int .i64 (d : Int), .int .i64 nd.typ, .int .i64 (p : Int), .int .i64 nd.val, .string s, .slice ka kl kc] 39) := ⟨_, rfl⟩
  have hb0 : Below w.heap.size w w0 := by rw [hw0]; exact ((Below.refl _ _).alloc (Nat.le_refl _) _).alloc (by simp) _
  have hs0 : w.heap.size + 2 ≤ w0.heap.size := by rw [hw0]; simp
  have z0 : w0.cell? ⟨w.heap.size, 0, none⟩ = some (.slice no nn nc) := by rw [hw0]; simp
  have z1 : w0.cell? ⟨w.heap.size, 1, none⟩ = some (.slice fo fn fc) := by rw [hw0]; simp
  have y0 : w0.cell? ⟨w.heap.size + 1, 0, none⟩ = some (.int .i64 1) := by rw [hw0]; simp
  have y1 : w0.cell? ⟨w.heap.size + 1, 1, none⟩ = some (.int .i64 nd.at_) := by rw [hw0]; simp
  have y2 : w0.cell? ⟨w.heap.size + 1, 2, none⟩ = some (.int .i64 nd.wh) := by rw [hw0]; simp
  have y3 : w0.cell? ⟨w.heap.size + 1, 3, none⟩ = some (.int .i64 nd.close) := by rw [hw0]; simp
  have y4 : w0.cell? ⟨w.heap.size + 1, 4, none⟩ = some (.int .i64 (d : Int)) := by rw [hw0]; simp
  have y5 : w0.cell? ⟨w.heap.size + 1, 5, none⟩ = some (.int .i64 nd.typ) := by rw [hw0]; simp
  have y6 : w0.cell? ⟨w.heap.size + 1, 6, none⟩ = some (.int .i64 (p : Int)) := by rw [hw0]; simp
  have y7 : w0.cell? ⟨w.heap.size + 1, 7, none⟩ = some (.int .i64 nd.val) := by rw [hw0]; simp
  have y8 : w0.cell? ⟨w.heap.size + 1, 8, none⟩ = some (.string s) := by rw [hw0]; simp
  have y9 : w0.cell? ⟨w.heap.size + 1, 9, none⟩ = some (.slice ka kl kc) := by rw [hw0]; simp
  have HW0 : Hid _ := hw0
  clear hw0
  go_enter Tryz.func24, Tryz.ntmps24
  go_wp2_with (first | (go_at_call 23; rw [← HW0.out]; refine (AR _ hb0).mono ?_; rintro e w9 ⟨rfl, hb9⟩; have hB9 : Below w.heap.size w w9 := hb0.trans (hb9.mono (by omega))) | (go_at_call 23; refine (AR _ hbw1).mono ?_; rintro e w9 ⟨rfl, hb9⟩; have hB9 : Below w.heap.size w w9 := hbw1.trans (hb9.mono hbw1.size)))
  go_ret
  exact ⟨ret_s (by rw [HP.out]; apply bs_of; simp [dt_app, bs_dt, HS.out, HD.out, HO.out]), hB9⟩
set_option maxRecDepth 10000 in
set_option maxHeartbeats 4000000 in
theorem ah1b (w : World) (no : Option Addr) (nc nn : Nat) (fo : Option Addr) (fc fn : Nat) (N : List Nd) (nd : Nd) (ka : Option Addr) (kc kl : Nat) (s : ByteArray) (i d p : Nat) (H : AhE w no nc nn N nd ka kc kl s i d p) (hk : nd.kind = 1) (o : Nat) (ho : o ≤ 100000000) (hi0 : ¬ i = 0) (hl1 : ¬ i + 1 = nd.kids.length) (R : Bool) (hR : R = ard N nd i) :
    Calls Tryz.prog 24 #[.agg #[.slice no nn nc, .slice fo fn fc], .agg #[.int .i64 1, .int .i64 nd.at_, .int .i64 nd.wh, .int .i64 nd.close, .int .i64 (d : Int), .int .i64 nd.typ, .int .i64 (p : Int), .int .i64 nd.val, .string s, .slice ka kl kc], .int .i64 i, .int .i64 o] w fun e w' => e = .returned (.string (bs (ptx o (pre nd i) ++ if R = true then [40] else []))) ∧ Below w.heap.size w w' := by
  have AR := H.ar fo fc fn 1 hk R hR
  have HP : Hid (ptx o (pre nd i) = ([44, 32] : List UInt8)) := by
    show _ = _
    simp [ptx, pre, hk, tp, np, hi0, hl1]
  have HS : Hid (s = bs nd.name) := H.es
  have hsz : s.size ≤ 64 := by rw [H.es, bs_size]; exact H.esl
  have HD : Hid (nd.decl = (d : Int)) := H.ed
  have HO : Hid (nd.op = (p : Int)) := H.ep
  have hRf : R = false := by rw [hR]; simp [ard, hk]
  subst hRf
  have hkl := H.ekl
  have hi := H.ei
  have hkb := H.ekb
  have q1 : ¬ (i : Int) = 0 := by omega
  have q2 : ((i : Int) == (kl : Int) - 1) = false := by simp; omega
  clear hR H hk hkl hi0 hl1
  obtain ⟨w0, hw0⟩ : ∃ w0, w0 = (w.alloc (.cells #[.slice no nn nc, .slice fo fn fc] 27)).alloc (.cells #[.int .i64 1, .int .i64 nd.at_, .int .i64 nd.wh, .int .i64 nd.close, .int .i64 (d : Int), .int .i64 nd.typ, .int .i64 (p : Int), .int .i64 nd.val, .string s, .slice ka kl kc] 39) := ⟨_, rfl⟩
  have hb0 : Below w.heap.size w w0 := by rw [hw0]; exact ((Below.refl _ _).alloc (Nat.le_refl _) _).alloc (by simp) _
  have hs0 : w.heap.size + 2 ≤ w0.heap.size := by rw [hw0]; simp
  have z0 : w0.cell? ⟨w.heap.size, 0, none⟩ = some (.slice no nn nc) := by rw [hw0]; simp
  have z1 : w0.cell? ⟨w.heap.size, 1, none⟩ = some (.slice fo fn fc) := by rw [hw0]; simp
  have y0 : w0.cell? ⟨w.heap.size + 1, 0, none⟩ = some (.int .i64 1) := by rw [hw0]; simp
  have y1 : w0.cell? ⟨w.heap.size + 1, 1, none⟩ = some (.int .i64 nd.at_) := by rw [hw0]; simp
  have y2 : w0.cell? ⟨w.heap.size + 1, 2, none⟩ = some (.int .i64 nd.wh) := by rw [hw0]; simp
  have y3 : w0.cell? ⟨w.heap.size + 1, 3, none⟩ = some (.int .i64 nd.close) := by rw [hw0]; simp
  have y4 : w0.cell? ⟨w.heap.size + 1, 4, none⟩ = some (.int .i64 (d : Int)) := by rw [hw0]; simp
  have y5 : w0.cell? ⟨w.heap.size + 1, 5, none⟩ = some (.int .i64 nd.typ) := by rw [hw0]; simp
  have y6 : w0.cell? ⟨w.heap.size + 1, 6, none⟩ = some (.int .i64 (p : Int)) := by rw [hw0]; simp
  have y7 : w0.cell? ⟨w.heap.size + 1, 7, none⟩ = some (.int .i64 nd.val) := by rw [hw0]; simp
  have y8 : w0.cell? ⟨w.heap.size + 1, 8, none⟩ = some (.string s) := by rw [hw0]; simp
  have y9 : w0.cell? ⟨w.heap.size + 1, 9, none⟩ = some (.slice ka kl kc) := by rw [hw0]; simp
  have HW0 : Hid _ := hw0
  clear hw0
  go_enter Tryz.func24, Tryz.ntmps24
  go_wp2_with (first | (go_at_call 23; rw [← HW0.out]; refine (AR _ hb0).mono ?_; rintro e w9 ⟨rfl, hb9⟩; have hB9 : Below w.heap.size w w9 := hb0.trans (hb9.mono (by omega))) | (go_at_call 23; refine (AR _ hbw1).mono ?_; rintro e w9 ⟨rfl, hb9⟩; have hB9 : Below w.heap.size w w9 := hbw1.trans (hb9.mono hbw1.size)))
  go_ret
  exact ⟨ret_s (by rw [HP.out]; apply bs_of; simp [dt_app, bs_dt, HS.out, HD.out, HO.out]), hB9⟩
set_option maxRecDepth 10000 in
set_option maxHeartbeats 4000000 in
theorem ah1c (w : World) (no : Option Addr) (nc nn : Nat) (fo : Option Addr) (fc fn : Nat) (N : List Nd) (nd : Nd) (ka : Option Addr) (kc kl : Nat) (s : ByteArray) (i d p : Nat) (H : AhE w no nc nn N nd ka kc kl s i d p) (hk : nd.kind = 1) (o : Nat) (ho : o ≤ 100000000) (hi0 : i = 0) (hl1 : i + 1 = nd.kids.length) (hd0 : d = 0) (R : Bool) (hR : R = ard N nd i) :
    Calls Tryz.prog 24 #[.agg #[.slice no nn nc, .slice fo fn fc], .agg #[.int .i64 1, .int .i64 nd.at_, .int .i64 nd.wh, .int .i64 nd.close, .int .i64 (d : Int), .int .i64 nd.typ, .int .i64 (p : Int), .int .i64 nd.val, .string s, .slice ka kl kc], .int .i64 i, .int .i64 o] w fun e w' => e = .returned (.string (bs (ptx o (pre nd i) ++ if R = true then [40] else []))) ∧ Below w.heap.size w w' := by
  have AR := H.ar fo fc fn 1 hk R hR
  have HP : Hid (ptx o (pre nd i) = ([102, 117, 110, 99, 32] : List UInt8) ++ nd.name ++ ([40] : List UInt8) ++ ([41, 32] : List UInt8)) := by
    show _ = _
    simp [ptx, pre, hk, tp, np, hi0, hl1, H.ed, hd0, ← hl1]
  have HS : Hid (s = bs nd.name) := H.es
  have hsz : s.size ≤ 64 := by rw [H.es, bs_size]; exact H.esl
  have HD : Hid (nd.decl = (d : Int)) := H.ed
  have HO : Hid (nd.op = (p : Int)) := H.ep
  have TYP := fun w => rTypeName_any w d H.ed4
  have hul := typeT_len d H.ed4
  have hRf : R = false := by rw [hR]; simp [ard, hk]
  subst hRf
  have hkl := H.ekl
  have hi := H.ei
  have hkb := H.ekb
  have q1 : ((i : Int) == 0) = true := by simp; omega
  have q2 : ((i : Int) == (kl : Int) - 1) = true := by simp; omega
  have q4 : ¬ 0 < (i : Int) := by omega
  have hde : ((d : Int) != 0) = false := by simp; omega
  have HZ : Hid (typeT (d : Int) = ([] : List UInt8)) := by show _ = _; rw [hd0]; rfl
  clear hR H hk hkl hi0 hl1 hd0
  obtain ⟨u, hu⟩ : ∃ u, u = bs (typeT (d : Int)) := ⟨_, rfl⟩
  simp only [← hu] at hul TYP
  have HU : Hid (u = bs (typeT (d : Int))) := hu
  clear hu
  obtain ⟨w0, hw0⟩ : ∃ w0, w0 = (w.alloc (.cells #[.slice no nn nc, .slice fo fn fc] 27)).alloc (.cells #[.int .i64 1, .int .i64 nd.at_, .int .i64 nd.wh, .int .i64 nd.close, .int .i64 (d : Int), .int .i64 nd.typ, .int .i64 (p : Int), .int .i64 nd.val, .string s, .slice ka kl kc] 39) := ⟨_, rfl⟩
  have hb0 : Below w.heap.size w w0 := by rw [hw0]; exact ((Below.refl _ _).alloc (Nat.le_refl _) _).alloc (by simp) _
  have hs0 : w.heap.size + 2 ≤ w0.heap.size := by rw [hw0]; simp
  have z0 : w0.cell? ⟨w.heap.size, 0, none⟩ = some (.slice no nn nc) := by rw [hw0]; simp
  have z1 : w0.cell? ⟨w.heap.size, 1, none⟩ = some (.slice fo fn fc) := by rw [hw0]; simp
  have y0 : w0.cell? ⟨w.heap.size + 1, 0, none⟩ = some (.int .i64 1) := by rw [hw0]; simp
  have y1 : w0.cell? ⟨w.heap.size + 1, 1, none⟩ = some (.int .i64 nd.at_) := by rw [hw0]; simp
  have y2 : w0.cell? ⟨w.heap.size + 1, 2, none⟩ = some (.int .i64 nd.wh) := by rw [hw0]; simp
  have y3 : w0.cell? ⟨w.heap.size + 1, 3, none⟩ = some (.int .i64 nd.close) := by rw [hw0]; simp
  have y4 : w0.cell? ⟨w.heap.size + 1, 4, none⟩ = some (.int .i64 (d : Int)) := by rw [hw0]; simp
  have y5 : w0.cell? ⟨w.heap.size + 1, 5, none⟩ = some (.int .i64 nd.typ) := by rw [hw0]; simp
  have y6 : w0.cell? ⟨w.heap.size + 1, 6, none⟩ = some (.int .i64 (p : Int)) := by rw [hw0]; simp
  have y7 : w0.cell? ⟨w.heap.size + 1, 7, none⟩ = some (.int .i64 nd.val) := by rw [hw0]; simp
  have y8 : w0.cell? ⟨w.heap.size + 1, 8, none⟩ = some (.string s) := by rw [hw0]; simp
  have y9 : w0.cell? ⟨w.heap.size + 1, 9, none⟩ = some (.slice ka kl kc) := by rw [hw0]; simp
  have HW0 : Hid _ := hw0
  clear hw0
  go_enter Tryz.func24, Tryz.ntmps24
  go_wp2_with (first | (go_at_call 39; rw [← HW0.out]; refine (TYP _).mono ?_; rintro e w1 ⟨rfl, hb1⟩; have hs1 := hb1.size; have hbw1 : Below w.heap.size w w1 := hb0.trans (hb1.mono (by omega)); have a0 := cell_below hb1 (by omega) z0; have a1 := cell_below hb1 (by omega) z1; have b0 := cell_below hb1 (by omega) y0; have b1 := cell_below hb1 (by omega) y1; have b2 := cell_below hb1 (by omega) y2; have b3 := cell_below hb1 (by omega) y3; have b4 := cell_below hb1 (by omega) y4; have b5 := cell_below hb1 (by omega) y5; have b6 := cell_below hb1 (by omega) y6; have b7 := cell_below hb1 (by omega) y7; have b8 := cell_below hb1 (by omega) y8; have b9 := cell_below hb1 (by omega) y9; clear z0 z1 y0 y1 y2 y3 y4 y5 y6 y7 y8 y9) | (go_at_call 23; rw [← HW0.out]; refine (AR _ hb0).mono ?_; rintro e w9 ⟨rfl, hb9⟩; have hB9 : Below w.heap.size w w9 := hb0.trans (hb9.mono (by omega))) | (go_at_call 23; refine (AR _ hbw1).mono ?_; rintro e w9 ⟨rfl, hb9⟩; have hB9 : Below w.heap.size w w9 := hbw1.trans (hb9.mono hbw1.size)))
  go_ret
  exact ⟨ret_s (by rw [HP.out]; apply bs_of; simp [dt_app, bs_dt, HS.out, HU.out, HZ.out, HD.out, HO.out]), hB9⟩
set_option maxRecDepth 10000 in
set_option maxHeartbeats 4000000 in
theorem ah1d (w : World) (no : Option Addr) (nc nn : Nat) (fo : Option Addr) (fc fn : Nat) (N : List Nd) (nd : Nd) (ka : Option Addr) (kc kl : Nat) (s : ByteArray) (i d p : Nat) (H : AhE w no nc nn N nd ka kc kl s i d p) (hk : nd.kind = 1) (o : Nat) (ho : o ≤ 100000000) (hi0 : i = 0) (hl1 : i + 1 = nd.kids.length) (hd0 : ¬ d = 0) (R : Bool) (hR : R = ard N nd i) :
    Calls Tryz.prog 24 #[.agg #[.slice no nn nc, .slice fo fn fc], .agg #[.int .i64 1, .int .i64 nd.at_, .int .i64 nd.wh, .int .i64 nd.close, .int .i64 (d : Int), .int .i64 nd.typ, .int .i64 (p : Int), .int .i64 nd.val, .string s, .slice ka kl kc], .int .i64 i, .int .i64 o] w fun e w' => e = .returned (.string (bs (ptx o (pre nd i) ++ if R = true then [40] else []))) ∧ Below w.heap.size w w' := by
  have AR := H.ar fo fc fn 1 hk R hR
  have HP : Hid (ptx o (pre nd i) = ([102, 117, 110, 99, 32] : List UInt8) ++ nd.name ++ ([40] : List UInt8) ++ ([41, 32] : List UInt8) ++ typeT (d : Int) ++ ([32] : List UInt8)) := by
    show _ = _
    simp [ptx, pre, hk, tp, np, hi0, hl1, H.ed, hd0, ← hl1]
  have HS : Hid (s = bs nd.name) := H.es
  have hsz : s.size ≤ 64 := by rw [H.es, bs_size]; exact H.esl
  have HD : Hid (nd.decl = (d : Int)) := H.ed
  have HO : Hid (nd.op = (p : Int)) := H.ep
  have TYP := fun w => rTypeName_any w d H.ed4
  have hul := typeT_len d H.ed4
  have hRf : R = false := by rw [hR]; simp [ard, hk]
  subst hRf
  have hkl := H.ekl
  have hi := H.ei
  have hkb := H.ekb
  have q1 : ((i : Int) == 0) = true := by simp; omega
  have q2 : ((i : Int) == (kl : Int) - 1) = true := by simp; omega
  have q4 : ¬ 0 < (i : Int) := by omega
  have hde : ¬ (d : Int) = 0 := by omega
  clear hR H hk hkl hi0 hl1 hd0
  obtain ⟨u, hu⟩ : ∃ u, u = bs (typeT (d : Int)) := ⟨_, rfl⟩
  simp only [← hu] at hul TYP
  have HU : Hid (u = bs (typeT (d : Int))) := hu
  clear hu
  obtain ⟨w0, hw0⟩ : ∃ w0, w0 = (w.alloc (.cells #[.slice no nn nc, .slice fo fn fc] 27)).alloc (.cells #[.int .i64 1, .int .i64 nd.at_, .int .i64 nd.wh, .int .i64 nd.close, .int .i64 (d : Int), .int .i64 nd.typ, .int .i64 (p : Int), .int .i64 nd.val, .string s, .slice ka kl kc] 39) := ⟨_, rfl⟩
  have hb0 : Below w.heap.size w w0 := by rw [hw0]; exact ((Below.refl _ _).alloc (Nat.le_refl _) _).alloc (by simp) _
  have hs0 : w.heap.size + 2 ≤ w0.heap.size := by rw [hw0]; simp
  have z0 : w0.cell? ⟨w.heap.size, 0, none⟩ = some (.slice no nn nc) := by rw [hw0]; simp
  have z1 : w0.cell? ⟨w.heap.size, 1, none⟩ = some (.slice fo fn fc) := by rw [hw0]; simp
  have y0 : w0.cell? ⟨w.heap.size + 1, 0, none⟩ = some (.int .i64 1) := by rw [hw0]; simp
  have y1 : w0.cell? ⟨w.heap.size + 1, 1, none⟩ = some (.int .i64 nd.at_) := by rw [hw0]; simp
  have y2 : w0.cell? ⟨w.heap.size + 1, 2, none⟩ = some (.int .i64 nd.wh) := by rw [hw0]; simp
  have y3 : w0.cell? ⟨w.heap.size + 1, 3, none⟩ = some (.int .i64 nd.close) := by rw [hw0]; simp
  have y4 : w0.cell? ⟨w.heap.size + 1, 4, none⟩ = some (.int .i64 (d : Int)) := by rw [hw0]; simp
  have y5 : w0.cell? ⟨w.heap.size + 1, 5, none⟩ = some (.int .i64 nd.typ) := by rw [hw0]; simp
  have y6 : w0.cell? ⟨w.heap.size + 1, 6, none⟩ = some (.int .i64 (p : Int)) := by rw [hw0]; simp
  have y7 : w0.cell? ⟨w.heap.size + 1, 7, none⟩ = some (.int .i64 nd.val) := by rw [hw0]; simp
  have y8 : w0.cell? ⟨w.heap.size + 1, 8, none⟩ = some (.string s) := by rw [hw0]; simp
  have y9 : w0.cell? ⟨w.heap.size + 1, 9, none⟩ = some (.slice ka kl kc) := by rw [hw0]; simp
  have HW0 : Hid _ := hw0
  clear hw0
  go_enter Tryz.func24, Tryz.ntmps24
  go_wp2_with (first | (go_at_call 39; rw [← HW0.out]; refine (TYP _).mono ?_; rintro e w1 ⟨rfl, hb1⟩; have hs1 := hb1.size; have hbw1 : Below w.heap.size w w1 := hb0.trans (hb1.mono (by omega)); have a0 := cell_below hb1 (by omega) z0; have a1 := cell_below hb1 (by omega) z1; have b0 := cell_below hb1 (by omega) y0; have b1 := cell_below hb1 (by omega) y1; have b2 := cell_below hb1 (by omega) y2; have b3 := cell_below hb1 (by omega) y3; have b4 := cell_below hb1 (by omega) y4; have b5 := cell_below hb1 (by omega) y5; have b6 := cell_below hb1 (by omega) y6; have b7 := cell_below hb1 (by omega) y7; have b8 := cell_below hb1 (by omega) y8; have b9 := cell_below hb1 (by omega) y9; clear z0 z1 y0 y1 y2 y3 y4 y5 y6 y7 y8 y9) | (go_at_call 23; rw [← HW0.out]; refine (AR _ hb0).mono ?_; rintro e w9 ⟨rfl, hb9⟩; have hB9 : Below w.heap.size w w9 := hb0.trans (hb9.mono (by omega))) | (go_at_call 23; refine (AR _ hbw1).mono ?_; rintro e w9 ⟨rfl, hb9⟩; have hB9 : Below w.heap.size w w9 := hbw1.trans (hb9.mono hbw1.size)))
  go_ret
  exact ⟨ret_s (by rw [HP.out]; apply bs_of; simp [dt_app, bs_dt, HS.out, HU.out, HD.out, HO.out]), hB9⟩
set_option maxRecDepth 10000 in
set_option maxHeartbeats 4000000 in
theorem ah1e (w : World) (no : Option Addr) (nc nn : Nat) (fo : Option Addr) (fc fn : Nat) (N : List Nd) (nd : Nd) (ka : Option Addr) (kc kl : Nat) (s : ByteArray) (i d p : Nat) (H : AhE w no nc nn N nd ka kc kl s i d p) (hk : nd.kind = 1) (o : Nat) (ho : o ≤ 100000000) (hi0 : ¬ i = 0) (hl1 : i + 1 = nd.kids.length) (hd0 : d = 0) (R : Bool) (hR : R = ard N nd i) :
    Calls Tryz.prog 24 #[.agg #[.slice no nn nc, .slice fo fn fc], .agg #[.int .i64 1, .int .i64 nd.at_, .int .i64 nd.wh, .int .i64 nd.close, .int .i64 (d : Int), .int .i64 nd.typ, .int .i64 (p : Int), .int .i64 nd.val, .string s, .slice ka kl kc], .int .i64 i, .int .i64 o] w fun e w' => e = .returned (.string (bs (ptx o (pre nd i) ++ if R = true then [40] else []))) ∧ Below w.heap.size w w' := by
  have AR := H.ar fo fc fn 1 hk R hR
  have HP : Hid (ptx o (pre nd i) = ([41, 32] : List UInt8)) := by
    show _ = _
    simp [ptx, pre, hk, tp, np, hi0, hl1, H.ed, hd0]
  have HS : Hid (s = bs nd.name) := H.es
  have hsz : s.size ≤ 64 := by rw [H.es, bs_size]; exact H.esl
  have HD : Hid (nd.decl = (d : Int)) := H.ed
  have HO : Hid (nd.op = (p : Int)) := H.ep
  have TYP := fun w => rTypeName_any w d H.ed4
  have hul := typeT_len d H.ed4
  have hRf : R = false := by rw [hR]; simp [ard, hk]
  subst hRf
  have hkl := H.ekl
  have hi := H.ei
  have hkb := H.ekb
  have q1 : ¬ (i : Int) = 0 := by omega
  have q2 : ((i : Int) == (kl : Int) - 1) = true := by simp; omega
  have q4 : 0 < (i : Int) := by omega
  have hde : ((d : Int) != 0) = false := by simp; omega
  have HZ : Hid (typeT (d : Int) = ([] : List UInt8)) := by show _ = _; rw [hd0]; rfl
  clear hR H hk hkl hi0 hl1 hd0
  obtain ⟨u, hu⟩ : ∃ u, u = bs (typeT (d : Int)) := ⟨_, rfl⟩
  simp only [← hu] at hul TYP
  have HU : Hid (u = bs (typeT (d : Int))) := hu
  clear hu
  obtain ⟨w0, hw0⟩ : ∃ w0, w0 = (w.alloc (.cells #[.slice no nn nc, .slice fo fn fc] 27)).alloc (.cells #[.int .i64 1, .int .i64 nd.at_, .int .i64 nd.wh, .int .i64 nd.close, .int .i64 (d : Int), .int .i64 nd.typ, .int .i64 (p : Int), .int .i64 nd.val, .string s, .slice ka kl kc] 39) := ⟨_, rfl⟩
  have hb0 : Below w.heap.size w w0 := by rw [hw0]; exact ((Below.refl _ _).alloc (Nat.le_refl _) _).alloc (by simp) _
  have hs0 : w.heap.size + 2 ≤ w0.heap.size := by rw [hw0]; simp
  have z0 : w0.cell? ⟨w.heap.size, 0, none⟩ = some (.slice no nn nc) := by rw [hw0]; simp
  have z1 : w0.cell? ⟨w.heap.size, 1, none⟩ = some (.slice fo fn fc) := by rw [hw0]; simp
  have y0 : w0.cell? ⟨w.heap.size + 1, 0, none⟩ = some (.int .i64 1) := by rw [hw0]; simp
  have y1 : w0.cell? ⟨w.heap.size + 1, 1, none⟩ = some (.int .i64 nd.at_) := by rw [hw0]; simp
  have y2 : w0.cell? ⟨w.heap.size + 1, 2, none⟩ = some (.int .i64 nd.wh) := by rw [hw0]; simp
  have y3 : w0.cell? ⟨w.heap.size + 1, 3, none⟩ = some (.int .i64 nd.close) := by rw [hw0]; simp
  have y4 : w0.cell? ⟨w.heap.size + 1, 4, none⟩ = some (.int .i64 (d : Int)) := by rw [hw0]; simp
  have y5 : w0.cell? ⟨w.heap.size + 1, 5, none⟩ = some (.int .i64 nd.typ) := by rw [hw0]; simp
  have y6 : w0.cell? ⟨w.heap.size + 1, 6, none⟩ = some (.int .i64 (p : Int)) := by rw [hw0]; simp
  have y7 : w0.cell? ⟨w.heap.size + 1, 7, none⟩ = some (.int .i64 nd.val) := by rw [hw0]; simp
  have y8 : w0.cell? ⟨w.heap.size + 1, 8, none⟩ = some (.string s) := by rw [hw0]; simp
  have y9 : w0.cell? ⟨w.heap.size + 1, 9, none⟩ = some (.slice ka kl kc) := by rw [hw0]; simp
  have HW0 : Hid _ := hw0
  clear hw0
  go_enter Tryz.func24, Tryz.ntmps24
  go_wp2_with (first | (go_at_call 39; rw [← HW0.out]; refine (TYP _).mono ?_; rintro e w1 ⟨rfl, hb1⟩; have hs1 := hb1.size; have hbw1 : Below w.heap.size w w1 := hb0.trans (hb1.mono (by omega)); have a0 := cell_below hb1 (by omega) z0; have a1 := cell_below hb1 (by omega) z1; have b0 := cell_below hb1 (by omega) y0; have b1 := cell_below hb1 (by omega) y1; have b2 := cell_below hb1 (by omega) y2; have b3 := cell_below hb1 (by omega) y3; have b4 := cell_below hb1 (by omega) y4; have b5 := cell_below hb1 (by omega) y5; have b6 := cell_below hb1 (by omega) y6; have b7 := cell_below hb1 (by omega) y7; have b8 := cell_below hb1 (by omega) y8; have b9 := cell_below hb1 (by omega) y9; clear z0 z1 y0 y1 y2 y3 y4 y5 y6 y7 y8 y9) | (go_at_call 23; rw [← HW0.out]; refine (AR _ hb0).mono ?_; rintro e w9 ⟨rfl, hb9⟩; have hB9 : Below w.heap.size w w9 := hb0.trans (hb9.mono (by omega))) | (go_at_call 23; refine (AR _ hbw1).mono ?_; rintro e w9 ⟨rfl, hb9⟩; have hB9 : Below w.heap.size w w9 := hbw1.trans (hb9.mono hbw1.size)))
  go_ret
  exact ⟨ret_s (by rw [HP.out]; apply bs_of; simp [dt_app, bs_dt, HS.out, HU.out, HZ.out, HD.out, HO.out]), hB9⟩
set_option maxRecDepth 10000 in
set_option maxHeartbeats 4000000 in
theorem ah1f (w : World) (no : Option Addr) (nc nn : Nat) (fo : Option Addr) (fc fn : Nat) (N : List Nd) (nd : Nd) (ka : Option Addr) (kc kl : Nat) (s : ByteArray) (i d p : Nat) (H : AhE w no nc nn N nd ka kc kl s i d p) (hk : nd.kind = 1) (o : Nat) (ho : o ≤ 100000000) (hi0 : ¬ i = 0) (hl1 : i + 1 = nd.kids.length) (hd0 : ¬ d = 0) (R : Bool) (hR : R = ard N nd i) :
    Calls Tryz.prog 24 #[.agg #[.slice no nn nc, .slice fo fn fc], .agg #[.int .i64 1, .int .i64 nd.at_, .int .i64 nd.wh, .int .i64 nd.close, .int .i64 (d : Int), .int .i64 nd.typ, .int .i64 (p : Int), .int .i64 nd.val, .string s, .slice ka kl kc], .int .i64 i, .int .i64 o] w fun e w' => e = .returned (.string (bs (ptx o (pre nd i) ++ if R = true then [40] else []))) ∧ Below w.heap.size w w' := by
  have AR := H.ar fo fc fn 1 hk R hR
  have HP : Hid (ptx o (pre nd i) = ([41, 32] : List UInt8) ++ typeT (d : Int) ++ ([32] : List UInt8)) := by
    show _ = _
    simp [ptx, pre, hk, tp, np, hi0, hl1, H.ed, hd0]
  have HS : Hid (s = bs nd.name) := H.es
  have hsz : s.size ≤ 64 := by rw [H.es, bs_size]; exact H.esl
  have HD : Hid (nd.decl = (d : Int)) := H.ed
  have HO : Hid (nd.op = (p : Int)) := H.ep
  have TYP := fun w => rTypeName_any w d H.ed4
  have hul := typeT_len d H.ed4
  have hRf : R = false := by rw [hR]; simp [ard, hk]
  subst hRf
  have hkl := H.ekl
  have hi := H.ei
  have hkb := H.ekb
  have q1 : ¬ (i : Int) = 0 := by omega
  have q2 : ((i : Int) == (kl : Int) - 1) = true := by simp; omega
  have q4 : 0 < (i : Int) := by omega
  have hde : ¬ (d : Int) = 0 := by omega
  clear hR H hk hkl hi0 hl1 hd0
  obtain ⟨u, hu⟩ : ∃ u, u = bs (typeT (d : Int)) := ⟨_, rfl⟩
  simp only [← hu] at hul TYP
  have HU : Hid (u = bs (typeT (d : Int))) := hu
  clear hu
  obtain ⟨w0, hw0⟩ : ∃ w0, w0 = (w.alloc (.cells #[.slice no nn nc, .slice fo fn fc] 27)).alloc (.cells #[.int .i64 1, .int .i64 nd.at_, .int .i64 nd.wh, .int .i64 nd.close, .int .i64 (d : Int), .int .i64 nd.typ, .int .i64 (p : Int), .int .i64 nd.val, .string s, .slice ka kl kc] 39) := ⟨_, rfl⟩
  have hb0 : Below w.heap.size w w0 := by rw [hw0]; exact ((Below.refl _ _).alloc (Nat.le_refl _) _).alloc (by simp) _
  have hs0 : w.heap.size + 2 ≤ w0.heap.size := by rw [hw0]; simp
  have z0 : w0.cell? ⟨w.heap.size, 0, none⟩ = some (.slice no nn nc) := by rw [hw0]; simp
  have z1 : w0.cell? ⟨w.heap.size, 1, none⟩ = some (.slice fo fn fc) := by rw [hw0]; simp
  have y0 : w0.cell? ⟨w.heap.size + 1, 0, none⟩ = some (.int .i64 1) := by rw [hw0]; simp
  have y1 : w0.cell? ⟨w.heap.size + 1, 1, none⟩ = some (.int .i64 nd.at_) := by rw [hw0]; simp
  have y2 : w0.cell? ⟨w.heap.size + 1, 2, none⟩ = some (.int .i64 nd.wh) := by rw [hw0]; simp
  have y3 : w0.cell? ⟨w.heap.size + 1, 3, none⟩ = some (.int .i64 nd.close) := by rw [hw0]; simp
  have y4 : w0.cell? ⟨w.heap.size + 1, 4, none⟩ = some (.int .i64 (d : Int)) := by rw [hw0]; simp
  have y5 : w0.cell? ⟨w.heap.size + 1, 5, none⟩ = some (.int .i64 nd.typ) := by rw [hw0]; simp
  have y6 : w0.cell? ⟨w.heap.size + 1, 6, none⟩ = some (.int .i64 (p : Int)) := by rw [hw0]; simp
  have y7 : w0.cell? ⟨w.heap.size + 1, 7, none⟩ = some (.int .i64 nd.val) := by rw [hw0]; simp
  have y8 : w0.cell? ⟨w.heap.size + 1, 8, none⟩ = some (.string s) := by rw [hw0]; simp
  have y9 : w0.cell? ⟨w.heap.size + 1, 9, none⟩ = some (.slice ka kl kc) := by rw [hw0]; simp
  have HW0 : Hid _ := hw0
  clear hw0
  go_enter Tryz.func24, Tryz.ntmps24
  go_wp2_with (first | (go_at_call 39; rw [← HW0.out]; refine (TYP _).mono ?_; rintro e w1 ⟨rfl, hb1⟩; have hs1 := hb1.size; have hbw1 : Below w.heap.size w w1 := hb0.trans (hb1.mono (by omega)); have a0 := cell_below hb1 (by omega) z0; have a1 := cell_below hb1 (by omega) z1; have b0 := cell_below hb1 (by omega) y0; have b1 := cell_below hb1 (by omega) y1; have b2 := cell_below hb1 (by omega) y2; have b3 := cell_below hb1 (by omega) y3; have b4 := cell_below hb1 (by omega) y4; have b5 := cell_below hb1 (by omega) y5; have b6 := cell_below hb1 (by omega) y6; have b7 := cell_below hb1 (by omega) y7; have b8 := cell_below hb1 (by omega) y8; have b9 := cell_below hb1 (by omega) y9; clear z0 z1 y0 y1 y2 y3 y4 y5 y6 y7 y8 y9) | (go_at_call 23; rw [← HW0.out]; refine (AR _ hb0).mono ?_; rintro e w9 ⟨rfl, hb9⟩; have hB9 : Below w.heap.size w w9 := hb0.trans (hb9.mono (by omega))) | (go_at_call 23; refine (AR _ hbw1).mono ?_; rintro e w9 ⟨rfl, hb9⟩; have hB9 : Below w.heap.size w w9 := hbw1.trans (hb9.mono hbw1.size)))
  go_ret
  exact ⟨ret_s (by rw [HP.out]; apply bs_of; simp [dt_app, bs_dt, HS.out, HU.out, HD.out, HO.out]), hB9⟩
set_option maxRecDepth 10000 in
set_option maxHeartbeats 4000000 in
theorem ah3a (w : World) (no : Option Addr) (nc nn : Nat) (fo : Option Addr) (fc fn : Nat) (N : List Nd) (nd : Nd) (ka : Option Addr) (kc kl : Nat) (s : ByteArray) (i d p : Nat) (H : AhE w no nc nn N nd ka kc kl s i d p) (hk : nd.kind = 3) (o : Nat) (ho : o ≤ 100000000) (hi0 : i = 0) (R : Bool) (hR : R = ard N nd i) :
    Calls Tryz.prog 24 #[.agg #[.slice no nn nc, .slice fo fn fc], .agg #[.int .i64 3, .int .i64 nd.at_, .int .i64 nd.wh, .int .i64 nd.close, .int .i64 (d : Int), .int .i64 nd.typ, .int .i64 (p : Int), .int .i64 nd.val, .string s, .slice ka kl kc], .int .i64 i, .int .i64 o] w fun e w' => e = .returned (.string (bs (ptx o (pre nd i) ++ if R = true then [40] else []))) ∧ Below w.heap.size w w' := by
  have AR := H.ar fo fc fn 3 hk R hR
  have HP : Hid (ptx o (pre nd i) = ([123] : List UInt8) ++ tabs o) := by
    show _ = _
    simp [ptx, pre, hk, tp, np, hi0]
  have HS : Hid (s = bs nd.name) := H.es
  have hsz : s.size ≤ 64 := by rw [H.es, bs_size]; exact H.esl
  have HD : Hid (nd.decl = (d : Int)) := H.ed
  have HO : Hid (nd.op = (p : Int)) := H.ep
  have LIN := fun w => rLine_any w o ho
  have hRf : R = false := by rw [hR]; simp [ard, hk]
  subst hRf
  have hkl := H.ekl
  have hi := H.ei
  have hkb := H.ekb
  have q1 : ((i : Int) == 0) = true := by simp; omega
  clear hR H hk hkl hi0
  obtain ⟨w0, hw0⟩ : ∃ w0, w0 = (w.alloc (.cells #[.slice no nn nc, .slice fo fn fc] 27)).alloc (.cells #[.int .i64 3, .int .i64 nd.at_, .int .i64 nd.wh, .int .i64 nd.close, .int .i64 (d : Int), .int .i64 nd.typ, .int .i64 (p : Int), .int .i64 nd.val, .string s, .slice ka kl kc] 39) := ⟨_, rfl⟩
  have hb0 : Below w.heap.size w w0 := by rw [hw0]; exact ((Below.refl _ _).alloc (Nat.le_refl _) _).alloc (by simp) _
  have hs0 : w.heap.size + 2 ≤ w0.heap.size := by rw [hw0]; simp
  have z0 : w0.cell? ⟨w.heap.size, 0, none⟩ = some (.slice no nn nc) := by rw [hw0]; simp
  have z1 : w0.cell? ⟨w.heap.size, 1, none⟩ = some (.slice fo fn fc) := by rw [hw0]; simp
  have y0 : w0.cell? ⟨w.heap.size + 1, 0, none⟩ = some (.int .i64 3) := by rw [hw0]; simp
  have y1 : w0.cell? ⟨w.heap.size + 1, 1, none⟩ = some (.int .i64 nd.at_) := by rw [hw0]; simp
  have y2 : w0.cell? ⟨w.heap.size + 1, 2, none⟩ = some (.int .i64 nd.wh) := by rw [hw0]; simp
  have y3 : w0.cell? ⟨w.heap.size + 1, 3, none⟩ = some (.int .i64 nd.close) := by rw [hw0]; simp
  have y4 : w0.cell? ⟨w.heap.size + 1, 4, none⟩ = some (.int .i64 (d : Int)) := by rw [hw0]; simp
  have y5 : w0.cell? ⟨w.heap.size + 1, 5, none⟩ = some (.int .i64 nd.typ) := by rw [hw0]; simp
  have y6 : w0.cell? ⟨w.heap.size + 1, 6, none⟩ = some (.int .i64 (p : Int)) := by rw [hw0]; simp
  have y7 : w0.cell? ⟨w.heap.size + 1, 7, none⟩ = some (.int .i64 nd.val) := by rw [hw0]; simp
  have y8 : w0.cell? ⟨w.heap.size + 1, 8, none⟩ = some (.string s) := by rw [hw0]; simp
  have y9 : w0.cell? ⟨w.heap.size + 1, 9, none⟩ = some (.slice ka kl kc) := by rw [hw0]; simp
  have HW0 : Hid _ := hw0
  clear hw0
  go_enter Tryz.func24, Tryz.ntmps24
  go_wp2_with (first | (go_at_call 40; rw [← HW0.out]; refine (LIN _).mono ?_; rintro e w1 ⟨⟨la, lc, rfl, HLO⟩, hb1⟩; have hcv := HLO.conv0; have htl : (bs (tabs o)).size ≤ 100000001 := (by rw [bs_size]; have := HLO.len; omega); generalize hTT : bs (tabs o) = tt at hcv htl; have HTT : Hid (bs (tabs o) = tt) := hTT; clear hTT; have hs1 := hb1.size; have hbw1 : Below w.heap.size w w1 := hb0.trans (hb1.mono (by omega)); have a0 := cell_below hb1 (by omega) z0; have a1 := cell_below hb1 (by omega) z1; have b0 := cell_below hb1 (by omega) y0; have b1 := cell_below hb1 (by omega) y1; have b2 := cell_below hb1 (by omega) y2; have b3 := cell_below hb1 (by omega) y3; have b4 := cell_below hb1 (by omega) y4; have b5 := cell_below hb1 (by omega) y5; have b6 := cell_below hb1 (by omega) y6; have b7 := cell_below hb1 (by omega) y7; have b8 := cell_below hb1 (by omega) y8; have b9 := cell_below hb1 (by omega) y9; clear z0 z1 y0 y1 y2 y3 y4 y5 y6 y7 y8 y9) | (go_at_call 23; rw [← HW0.out]; refine (AR _ hb0).mono ?_; rintro e w9 ⟨rfl, hb9⟩; have hB9 : Below w.heap.size w w9 := hb0.trans (hb9.mono (by omega))) | (go_at_call 23; refine (AR _ hbw1).mono ?_; rintro e w9 ⟨rfl, hb9⟩; have hB9 : Below w.heap.size w w9 := hbw1.trans (hb9.mono hbw1.size)))
  go_ret
  exact ⟨ret_s (by rw [HP.out]; apply bs_of; simp [dt_app, bs_dt, HS.out, ← HTT.out, HD.out, HO.out]), hB9⟩
set_option maxRecDepth 10000 in
set_option maxHeartbeats 4000000 in
theorem ah3b (w : World) (no : Option Addr) (nc nn : Nat) (fo : Option Addr) (fc fn : Nat) (N : List Nd) (nd : Nd) (ka : Option Addr) (kc kl : Nat) (s : ByteArray) (i d p : Nat) (H : AhE w no nc nn N nd ka kc kl s i d p) (hk : nd.kind = 3) (o : Nat) (ho : o ≤ 100000000) (hi0 : ¬ i = 0) (R : Bool) (hR : R = ard N nd i) :
    Calls Tryz.prog 24 #[.agg #[.slice no nn nc, .slice fo fn fc], .agg #[.int .i64 3, .int .i64 nd.at_, .int .i64 nd.wh, .int .i64 nd.close, .int .i64 (d : Int), .int .i64 nd.typ, .int .i64 (p : Int), .int .i64 nd.val, .string s, .slice ka kl kc], .int .i64 i, .int .i64 o] w fun e w' => e = .returned (.string (bs (ptx o (pre nd i) ++ if R = true then [40] else []))) ∧ Below w.heap.size w w' := by
  have AR := H.ar fo fc fn 3 hk R hR
  have HP : Hid (ptx o (pre nd i) = tabs o) := by
    show _ = _
    simp [ptx, pre, hk, tp, np, hi0]
  have HS : Hid (s = bs nd.name) := H.es
  have hsz : s.size ≤ 64 := by rw [H.es, bs_size]; exact H.esl
  have HD : Hid (nd.decl = (d : Int)) := H.ed
  have HO : Hid (nd.op = (p : Int)) := H.ep
  have LIN := fun w => rLine_any w o ho
  have hRf : R = false := by rw [hR]; simp [ard, hk]
  subst hRf
  have hkl := H.ekl
  have hi := H.ei
  have hkb := H.ekb
  have q1 : ¬ (i : Int) = 0 := by omega
  clear hR H hk hkl hi0
  obtain ⟨w0, hw0⟩ : ∃ w0, w0 = (w.alloc (.cells #[.slice no nn nc, .slice fo fn fc] 27)).alloc (.cells #[.int .i64 3, .int .i64 nd.at_, .int .i64 nd.wh, .int .i64 nd.close, .int .i64 (d : Int), .int .i64 nd.typ, .int .i64 (p : Int), .int .i64 nd.val, .string s, .slice ka kl kc] 39) := ⟨_, rfl⟩
  have hb0 : Below w.heap.size w w0 := by rw [hw0]; exact ((Below.refl _ _).alloc (Nat.le_refl _) _).alloc (by simp) _
  have hs0 : w.heap.size + 2 ≤ w0.heap.size := by rw [hw0]; simp
  have z0 : w0.cell? ⟨w.heap.size, 0, none⟩ = some (.slice no nn nc) := by rw [hw0]; simp
  have z1 : w0.cell? ⟨w.heap.size, 1, none⟩ = some (.slice fo fn fc) := by rw [hw0]; simp
  have y0 : w0.cell? ⟨w.heap.size + 1, 0, none⟩ = some (.int .i64 3) := by rw [hw0]; simp
  have y1 : w0.cell? ⟨w.heap.size + 1, 1, none⟩ = some (.int .i64 nd.at_) := by rw [hw0]; simp
  have y2 : w0.cell? ⟨w.heap.size + 1, 2, none⟩ = some (.int .i64 nd.wh) := by rw [hw0]; simp
  have y3 : w0.cell? ⟨w.heap.size + 1, 3, none⟩ = some (.int .i64 nd.close) := by rw [hw0]; simp
  have y4 : w0.cell? ⟨w.heap.size + 1, 4, none⟩ = some (.int .i64 (d : Int)) := by rw [hw0]; simp
  have y5 : w0.cell? ⟨w.heap.size + 1, 5, none⟩ = some (.int .i64 nd.typ) := by rw [hw0]; simp
  have y6 : w0.cell? ⟨w.heap.size + 1, 6, none⟩ = some (.int .i64 (p : Int)) := by rw [hw0]; simp
  have y7 : w0.cell? ⟨w.heap.size + 1, 7, none⟩ = some (.int .i64 nd.val) := by rw [hw0]; simp
  have y8 : w0.cell? ⟨w.heap.size + 1, 8, none⟩ = some (.string s) := by rw [hw0]; simp
  have y9 : w0.cell? ⟨w.heap.size + 1, 9, none⟩ = some (.slice ka kl kc) := by rw [hw0]; simp
  have HW0 : Hid _ := hw0
  clear hw0
  go_enter Tryz.func24, Tryz.ntmps24
  go_wp2_with (first | (go_at_call 40; rw [← HW0.out]; refine (LIN _).mono ?_; rintro e w1 ⟨⟨la, lc, rfl, HLO⟩, hb1⟩; have hcv := HLO.conv0; have htl : (bs (tabs o)).size ≤ 100000001 := (by rw [bs_size]; have := HLO.len; omega); generalize hTT : bs (tabs o) = tt at hcv htl; have HTT : Hid (bs (tabs o) = tt) := hTT; clear hTT; have hs1 := hb1.size; have hbw1 : Below w.heap.size w w1 := hb0.trans (hb1.mono (by omega)); have a0 := cell_below hb1 (by omega) z0; have a1 := cell_below hb1 (by omega) z1; have b0 := cell_below hb1 (by omega) y0; have b1 := cell_below hb1 (by omega) y1; have b2 := cell_below hb1 (by omega) y2; have b3 := cell_below hb1 (by omega) y3; have b4 := cell_below hb1 (by omega) y4; have b5 := cell_below hb1 (by omega) y5; have b6 := cell_below hb1 (by omega) y6; have b7 := cell_below hb1 (by omega) y7; have b8 := cell_below hb1 (by omega) y8; have b9 := cell_below hb1 (by omega) y9; clear z0 z1 y0 y1 y2 y3 y4 y5 y6 y7 y8 y9) | (go_at_call 23; rw [← HW0.out]; refine (AR _ hb0).mono ?_; rintro e w9 ⟨rfl, hb9⟩; have hB9 : Below w.heap.size w w9 := hb0.trans (hb9.mono (by omega))) | (go_at_call 23; refine (AR _ hbw1).mono ?_; rintro e w9 ⟨rfl, hb9⟩; have hB9 : Below w.heap.size w w9 := hbw1.trans (hb9.mono hbw1.size)))
  go_ret
  exact ⟨ret_s (by rw [HP.out]; apply bs_of; simp [dt_app, bs_dt, HS.out, ← HTT.out, HD.out, HO.out]), hB9⟩
set_option maxRecDepth 10000 in
set_option maxHeartbeats 4000000 in
theorem ah4 (w : World) (no : Option Addr) (nc nn : Nat) (fo : Option Addr) (fc fn : Nat) (N : List Nd) (nd : Nd) (ka : Option Addr) (kc kl : Nat) (s : ByteArray) (i d p : Nat) (H : AhE w no nc nn N nd ka kc kl s i d p) (hk : nd.kind = 4) (o : Nat) (ho : o ≤ 100000000) (R : Bool) (hR : R = ard N nd i) :
    Calls Tryz.prog 24 #[.agg #[.slice no nn nc, .slice fo fn fc], .agg #[.int .i64 4, .int .i64 nd.at_, .int .i64 nd.wh, .int .i64 nd.close, .int .i64 (d : Int), .int .i64 nd.typ, .int .i64 (p : Int), .int .i64 nd.val, .string s, .slice ka kl kc], .int .i64 i, .int .i64 o] w fun e w' => e = .returned (.string (bs (ptx o (pre nd i) ++ if R = true then [40] else []))) ∧ Below w.heap.size w w' := by
  have AR := H.ar fo fc fn 4 hk R hR
  have HP : Hid (ptx o (pre nd i) = ([118, 97, 114, 32] : List UInt8) ++ nd.name ++ ([32] : List UInt8) ++ typeT (d : Int) ++ ([32, 61, 32] : List UInt8)) := by
    show _ = _
    simp [ptx, pre, hk, tp, np, H.ed]
  have HS : Hid (s = bs nd.name) := H.es
  have hsz : s.size ≤ 64 := by rw [H.es, bs_size]; exact H.esl
  have HD : Hid (nd.decl = (d : Int)) := H.ed
  have HO : Hid (nd.op = (p : Int)) := H.ep
  have TYP := fun w => rTypeName_any w d H.ed4
  have hul := typeT_len d H.ed4
  have hRf : R = false := by rw [hR]; simp [ard, hk]
  subst hRf
  have hkl := H.ekl
  have hi := H.ei
  have hkb := H.ekb
  clear hR H hk hkl
  obtain ⟨u, hu⟩ : ∃ u, u = bs (typeT (d : Int)) := ⟨_, rfl⟩
  simp only [← hu] at hul TYP
  have HU : Hid (u = bs (typeT (d : Int))) := hu
  clear hu
  obtain ⟨w0, hw0⟩ : ∃ w0, w0 = (w.alloc (.cells #[.slice no nn nc, .slice fo fn fc] 27)).alloc (.cells #[.int .i64 4, .int .i64 nd.at_, .int .i64 nd.wh, .int .i64 nd.close, .int .i64 (d : Int), .int .i64 nd.typ, .int .i64 (p : Int), .int .i64 nd.val, .string s, .slice ka kl kc] 39) := ⟨_, rfl⟩
  have hb0 : Below w.heap.size w w0 := by rw [hw0]; exact ((Below.refl _ _).alloc (Nat.le_refl _) _).alloc (by simp) _
  have hs0 : w.heap.size + 2 ≤ w0.heap.size := by rw [hw0]; simp
  have z0 : w0.cell? ⟨w.heap.size, 0, none⟩ = some (.slice no nn nc) := by rw [hw0]; simp
  have z1 : w0.cell? ⟨w.heap.size, 1, none⟩ = some (.slice fo fn fc) := by rw [hw0]; simp
  have y0 : w0.cell? ⟨w.heap.size + 1, 0, none⟩ = some (.int .i64 4) := by rw [hw0]; simp
  have y1 : w0.cell? ⟨w.heap.size + 1, 1, none⟩ = some (.int .i64 nd.at_) := by rw [hw0]; simp
  have y2 : w0.cell? ⟨w.heap.size + 1, 2, none⟩ = some (.int .i64 nd.wh) := by rw [hw0]; simp
  have y3 : w0.cell? ⟨w.heap.size + 1, 3, none⟩ = some (.int .i64 nd.close) := by rw [hw0]; simp
  have y4 : w0.cell? ⟨w.heap.size + 1, 4, none⟩ = some (.int .i64 (d : Int)) := by rw [hw0]; simp
  have y5 : w0.cell? ⟨w.heap.size + 1, 5, none⟩ = some (.int .i64 nd.typ) := by rw [hw0]; simp
  have y6 : w0.cell? ⟨w.heap.size + 1, 6, none⟩ = some (.int .i64 (p : Int)) := by rw [hw0]; simp
  have y7 : w0.cell? ⟨w.heap.size + 1, 7, none⟩ = some (.int .i64 nd.val) := by rw [hw0]; simp
  have y8 : w0.cell? ⟨w.heap.size + 1, 8, none⟩ = some (.string s) := by rw [hw0]; simp
  have y9 : w0.cell? ⟨w.heap.size + 1, 9, none⟩ = some (.slice ka kl kc) := by rw [hw0]; simp
  have HW0 : Hid _ := hw0
  clear hw0
  go_enter Tryz.func24, Tryz.ntmps24
  go_wp2_with fail
  rw [← HW0.out]
  have hq1 : w.heap.size + 1 < w0.drew.heap.size := by simp; omega
  go_region_held (fun w' => w'.cell? ⟨w.heap.size + 1, 8, none⟩ = some (.string s) ∧ w'.cell? ⟨w.heap.size + 1, 4, none⟩ = some (.int .i64 (d : Int)))
   (refine ⟨?_, ?_⟩ <;> first | with_reducible exact cellD y8 | with_reducible exact cellD y4 | with_reducible exact cell_below hb2 hq1 (cellD y8) | with_reducible exact cell_below hb2 hq1 (cellD y4))
   (first | (go_at_call 39; refine (TYP _).mono ?_; rintro e w1 ⟨rfl, hb2⟩; have hb1 : Below w0.heap.size w0 w1 := (Below.refl _ _).drew.trans hb2; have hs1 := hb1.size; have hbw1 : Below w.heap.size w w1 := hb0.trans (hb1.mono (by omega)); have a0 := cell_below hb1 (by omega) z0; have a1 := cell_below hb1 (by omega) z1; have b0 := cell_below hb1 (by omega) y0; have b1 := cell_below hb1 (by omega) y1; have b2 := cell_below hb1 (by omega) y2; have b3 := cell_below hb1 (by omega) y3; have b4 := cell_below hb1 (by omega) y4; have b5 := cell_below hb1 (by omega) y5; have b6 := cell_below hb1 (by omega) y6; have b7 := cell_below hb1 (by omega) y7; have b8 := cell_below hb1 (by omega) y8; have b9 := cell_below hb1 (by omega) y9))
  all_goals
    go_wp2_with (first | (go_at_call 23; refine (AR _ hbw1).mono ?_; rintro e w9 ⟨rfl, hb9⟩; have hB9 : Below w.heap.size w w9 := hbw1.trans (hb9.mono hbw1.size)))
    go_ret
    exact ⟨ret_s (by rw [HP.out]; apply bs_of; simp [dt_app, bs_dt, HS.out, HU.out, HD.out, HO.out]), hB9⟩
set_option maxRecDepth 10000 in
set_option maxHeartbeats 4000000 in
theorem ah5 (w : World) (no : Option Addr) (nc nn : Nat) (fo : Option Addr) (fc fn : Nat) (N : List Nd) (nd : Nd) (ka : Option Addr) (kc kl : Nat) (s : ByteArray) (i d p : Nat) (H : AhE w no nc nn N nd ka kc kl s i d p) (hk : nd.kind = 5) (o : Nat) (ho : o ≤ 100000000) (R : Bool) (hR : R = ard N nd i) :
    Calls Tryz.prog 24 #[.agg #[.slice no nn nc, .slice fo fn fc], .agg #[.int .i64 5, .int .i64 nd.at_, .int .i64 nd.wh, .int .i64 nd.close, .int .i64 (d : Int), .int .i64 nd.typ, .int .i64 (p : Int), .int .i64 nd.val, .string s, .slice ka kl kc], .int .i64 i, .int .i64 o] w fun e w' => e = .returned (.string (bs (ptx o (pre nd i) ++ if R = true then [40] else []))) ∧ Below w.heap.size w w' := by
  have AR := H.ar fo fc fn 5 hk R hR
  have HP : Hid (ptx o (pre nd i) = nd.name ++ ([32, 61, 32] : List UInt8)) := by
    show _ = _
    simp [ptx, pre, hk, tp, np]
  have HS : Hid (s = bs nd.name) := H.es
  have hsz : s.size ≤ 64 := by rw [H.es, bs_size]; exact H.esl
  have HD : Hid (nd.decl = (d : Int)) := H.ed
  have HO : Hid (nd.op = (p : Int)) := H.ep
  have hRf : R = false := by rw [hR]; simp [ard, hk]
  subst hRf
  have hkl := H.ekl
  have hi := H.ei
  have hkb := H.ekb
  clear hR H hk hkl
  obtain ⟨w0, hw0⟩ : ∃ w0, w0 = (w.alloc (.cells #[.slice no nn nc, .slice fo fn fc] 27)).alloc (.cells #[.int .i64 5, .int .i64 nd.at_, .int .i64 nd.wh, .int .i64 nd.close, .int .i64 (d : Int), .int .i64 nd.typ, .int .i64 (p : Int), .int .i64 nd.val, .string s, .slice ka kl kc] 39) := ⟨_, rfl⟩
  have hb0 : Below w.heap.size w w0 := by rw [hw0]; exact ((Below.refl _ _).alloc (Nat.le_refl _) _).alloc (by simp) _
  have hs0 : w.heap.size + 2 ≤ w0.heap.size := by rw [hw0]; simp
  have z0 : w0.cell? ⟨w.heap.size, 0, none⟩ = some (.slice no nn nc) := by rw [hw0]; simp
  have z1 : w0.cell? ⟨w.heap.size, 1, none⟩ = some (.slice fo fn fc) := by rw [hw0]; simp
  have y0 : w0.cell? ⟨w.heap.size + 1, 0, none⟩ = some (.int .i64 5) := by rw [hw0]; simp
  have y1 : w0.cell? ⟨w.heap.size + 1, 1, none⟩ = some (.int .i64 nd.at_) := by rw [hw0]; simp
  have y2 : w0.cell? ⟨w.heap.size + 1, 2, none⟩ = some (.int .i64 nd.wh) := by rw [hw0]; simp
  have y3 : w0.cell? ⟨w.heap.size + 1, 3, none⟩ = some (.int .i64 nd.close) := by rw [hw0]; simp
  have y4 : w0.cell? ⟨w.heap.size + 1, 4, none⟩ = some (.int .i64 (d : Int)) := by rw [hw0]; simp
  have y5 : w0.cell? ⟨w.heap.size + 1, 5, none⟩ = some (.int .i64 nd.typ) := by rw [hw0]; simp
  have y6 : w0.cell? ⟨w.heap.size + 1, 6, none⟩ = some (.int .i64 (p : Int)) := by rw [hw0]; simp
  have y7 : w0.cell? ⟨w.heap.size + 1, 7, none⟩ = some (.int .i64 nd.val) := by rw [hw0]; simp
  have y8 : w0.cell? ⟨w.heap.size + 1, 8, none⟩ = some (.string s) := by rw [hw0]; simp
  have y9 : w0.cell? ⟨w.heap.size + 1, 9, none⟩ = some (.slice ka kl kc) := by rw [hw0]; simp
  have HW0 : Hid _ := hw0
  clear hw0
  go_enter Tryz.func24, Tryz.ntmps24
  go_wp2_with (first | (go_at_call 23; rw [← HW0.out]; refine (AR _ hb0).mono ?_; rintro e w9 ⟨rfl, hb9⟩; have hB9 : Below w.heap.size w w9 := hb0.trans (hb9.mono (by omega))) | (go_at_call 23; refine (AR _ hbw1).mono ?_; rintro e w9 ⟨rfl, hb9⟩; have hB9 : Below w.heap.size w w9 := hbw1.trans (hb9.mono hbw1.size)))
  go_ret
  exact ⟨ret_s (by rw [HP.out]; apply bs_of; simp [dt_app, bs_dt, HS.out, HD.out, HO.out]), hB9⟩
end Go.Proofs.YtchobeakieljpaaGreatDoor
