import Derived.Test.YtchobeakieljpaaGreatDoorTvE
import Derived.Deep.RegionHeld
set_option linter.unusedVariables false
set_option linter.unusedSimpArgs false
namespace Go.Proofs.YtchobeakieljpaaGreatDoor
open Go.ChangeShapes Go.WideShapes Go.ChangeAt Go.RowKit

set_option maxRecDepth 10000 in
set_option maxHeartbeats 4000000 in
theorem ah6a (w : World) (no : Option Addr) (nc nn : Nat) (fo : Option Addr) (fc fn : Nat) (N : List Nd) (nd : Nd) (ka : Option Addr) (kc kl : Nat) (s : ByteArray) (i d p : Nat) (H : AhE w no nc nn N nd ka kc kl s i d p) (hk : nd.kind = 6) (o : Nat) (ho : o ≤ 100000000) (hi0 : i = 0) (R : Bool) (hR : R = ard N nd i) :
    Calls Tryz.prog 24 #[.agg #[.slice no nn nc, .slice fo fn fc], .agg #[.int .i64 6, .int .i64 nd.at_, .int .i64 nd.wh, .int .i64 nd.close, .int .i64 (d : Int), .int .i64 nd.typ, .int .i64 (p : Int), .int .i64 nd.val, .string s, .slice ka kl kc], .int .i64 i, .int .i64 o] w fun e w' => e = .returned (.string (bs (ptx o (pre nd i) ++ if R = true then [40] else []))) ∧ Below w.heap.size w w' := by
  have AR := H.ar fo fc fn 6 hk R hR
  have HP : Hid (ptx o (pre nd i) = nd.name ++ ([91] : List UInt8)) := by
    show _ = _
    simp [ptx, pre, hk, tp, np, hi0]
  have HS : Hid (s = bs nd.name) := H.es
  have hsz : s.size ≤ 64 := by rw [H.es, bs_size]; exact H.esl
  have HD : Hid (nd.decl = (d : Int)) := H.ed
  have HO : Hid (nd.op = (p : Int)) := H.ep
  have hRf : R = false := by rw [hR]; simp [ard, hk]
  subst hRf
  have hkl := H.ekl
  have hi := H.ei
  have hkb := H.ekb
  have q1 : ¬ (i : Int) = 1 := by omega
  clear hR H hk hkl hi0
  obtain ⟨w0, hw0⟩ : ∃ w0, w0 = (w.alloc (.cells #[.slice no nn nc, .slice fo fn fc] 27)).alloc (.cells #[.int .i64 6, .int .i64 nd.at_, .int .i64 nd.wh, .int .i64 nd.close, .int .i64 (d : Int), .int .i64 nd.typ, .int .i64 (p : Int), .int .i64 nd.val, .string s, .slice ka kl kc] 39) := ⟨_, rfl⟩
  have hb0 : Below w.heap.size w w0 := by rw [hw0]; exact ((Below.refl _ _).alloc (Nat.le_refl _) _).alloc (by simp) _
  have hs0 : w.heap.size + 2 ≤ w0.heap.size := by rw [hw0]; simp
  have z0 : w0.cell? ⟨w.heap.size, 0, none⟩ = some (.slice no nn nc) := by rw [hw0]; simp
  have z1 : w0.cell? ⟨w.heap.size, 1, none⟩ = some (.slice fo fn fc) := by rw [hw0]; simp
  have y0 : w0.cell? ⟨w.heap.size + 1, 0, none⟩ = some (.int .i64 6) := by rw [hw0]; simp
  have y1 : w0.cell? ⟨w.heap.size + 1, 1, none⟩ = some (.int .i64 nd.at_) := by rw [hw0]; simp
  have y2 : w0.cell? ⟨w.heap.size + 1, 2, none⟩ = some (.int .i64 nd.wh) := by rw [hw0]; simp
  have y3 : w0.cell? ⟨w.heap.size + 1, 3, none⟩ = some (.int .i64 nd.close) := by rw [hw0]; simp
  have y4 : w0.cell? ⟨w.heap.size + 1, 4, none⟩ = some (.int .i64 (d : Int)) := by rw [hw0]; simp
  have y5 : w0.cell? ⟨w.heap.size + 1, 5, none⟩ = some (.int .i64 nd.typ) := by rw [hw0]; simp
  have y6 : w0.cell? ⟨w.heap.size + 1, 6, none⟩ = some (.int .i64 (p : Int)) := by rw [hw0]; simp
  have y7 : w0.cell? ⟨w.heap.size + 1, 7, none⟩ = some (.int .i64 nd.val) := by rw [hw0]; simp
  have y8 : w0.cell? ⟨w.heap.size + 1, 8, none⟩ = some (.string s) := by rw [hw0]; simp
  have y9 : w0.cell? ⟨w.heap.size + 1, 9, none⟩ = some (.slice ka kl kc) := by rw [hw0]; simp
  have HW0 : Hid _ := hw0
  clear hw0
  go_enter Tryz.func24, Tryz.ntmps24
  go_wp2_with (first | (go_at_call 23; rw [← HW0.out]; refine (AR _ hb0).mono ?_; rintro e w9 ⟨rfl, hb9⟩; have hB9 : Below w.heap.size w w9 := hb0.trans (hb9.mono (by omega))) | (go_at_call 23; refine (AR _ hbw1).mono ?_; rintro e w9 ⟨rfl, hb9⟩; have hB9 : Below w.heap.size w w9 := hbw1.trans (hb9.mono hbw1.size)))
  go_ret
  exact ⟨ret_s (by rw [HP.out]; apply bs_of; simp [dt_app, bs_dt, HS.out, HD.out, HO.out]), hB9⟩
set_option maxRecDepth 10000 in
set_option maxHeartbeats 4000000 in
theorem ah6b (w : World) (no : Option Addr) (nc nn : Nat) (fo : Option Addr) (fc fn : Nat) (N : List Nd) (nd : Nd) (ka : Option Addr) (kc kl : Nat) (s : ByteArray) (i d p : Nat) (H : AhE w no nc nn N nd ka kc kl s i d p) (hk : nd.kind = 6) (o : Nat) (ho : o ≤ 100000000) (hi0 : i = 1) (R : Bool) (hR : R = ard N nd i) :
    Calls Tryz.prog 24 #[.agg #[.slice no nn nc, .slice fo fn fc], .agg #[.int .i64 6, .int .i64 nd.at_, .int .i64 nd.wh, .int .i64 nd.close, .int .i64 (d : Int), .int .i64 nd.typ, .int .i64 (p : Int), .int .i64 nd.val, .string s, .slice ka kl kc], .int .i64 i, .int .i64 o] w fun e w' => e = .returned (.string (bs (ptx o (pre nd i) ++ if R = true then [40] else []))) ∧ Below w.heap.size w w' := by
  have AR := H.ar fo fc fn 6 hk R hR
  have HP : Hid (ptx o (pre nd i) = ([93, 32, 61, 32] : List UInt8)) := by
    show _ = _
    simp [ptx, pre, hk, tp, np, hi0]
  have HS : Hid (s = bs nd.name) := H.es
  have hsz : s.size ≤ 64 := by rw [H.es, bs_size]; exact H.esl
  have HD : Hid (nd.decl = (d : Int)) := H.ed
  have HO : Hid (nd.op = (p : Int)) := H.ep
  have hRf : R = false := by rw [hR]; simp [ard, hk]
  subst hRf
  have hkl := H.ekl
  have hi := H.ei
  have hkb := H.ekb
  have q1 : ((i : Int) == 1) = true := by simp; omega
  clear hR H hk hkl hi0
  obtain ⟨w0, hw0⟩ : ∃ w0, w0 = (w.alloc (.cells #[.slice no nn nc, .slice fo fn fc] 27)).alloc (.cells #[.int .i64 6, .int .i64 nd.at_, .int .i64 nd.wh, .int .i64 nd.close, .int .i64 (d : Int), .int .i64 nd.typ, .int .i64 (p : Int), .int .i64 nd.val, .string s, .slice ka kl kc] 39) := ⟨_, rfl⟩
  have hb0 : Below w.heap.size w w0 := by rw [hw0]; exact ((Below.refl _ _).alloc (Nat.le_refl _) _).alloc (by simp) _
  have hs0 : w.heap.size + 2 ≤ w0.heap.size := by rw [hw0]; simp
  have z0 : w0.cell? ⟨w.heap.size, 0, none⟩ = some (.slice no nn nc) := by rw [hw0]; simp
  have z1 : w0.cell? ⟨w.heap.size, 1, none⟩ = some (.slice fo fn fc) := by rw [hw0]; simp
  have y0 : w0.cell? ⟨w.heap.size + 1, 0, none⟩ = some (.int .i64 6) := by rw [hw0]; simp
  have y1 : w0.cell? ⟨w.heap.size + 1, 1, none⟩ = some (.int .i64 nd.at_) := by rw [hw0]; simp
  have y2 : w0.cell? ⟨w.heap.size + 1, 2, none⟩ = some (.int .i64 nd.wh) := by rw [hw0]; simp
  have y3 : w0.cell? ⟨w.heap.size + 1, 3, none⟩ = some (.int .i64 nd.close) := by rw [hw0]; simp
  have y4 : w0.cell? ⟨w.heap.size + 1, 4, none⟩ = some (.int .i64 (d : Int)) := by rw [hw0]; simp
  have y5 : w0.cell? ⟨w.heap.size + 1, 5, none⟩ = some (.int .i64 nd.typ) := by rw [hw0]; simp
  have y6 : w0.cell? ⟨w.heap.size + 1, 6, none⟩ = some (.int .i64 (p : Int)) := by rw [hw0]; simp
  have y7 : w0.cell? ⟨w.heap.size + 1, 7, none⟩ = some (.int .i64 nd.val) := by rw [hw0]; simp
  have y8 : w0.cell? ⟨w.heap.size + 1, 8, none⟩ = some (.string s) := by rw [hw0]; simp
  have y9 : w0.cell? ⟨w.heap.size + 1, 9, none⟩ = some (.slice ka kl kc) := by rw [hw0]; simp
  have HW0 : Hid _ := hw0
  clear hw0
  go_enter Tryz.func24, Tryz.ntmps24
  go_wp2_with (first | (go_at_call 23; rw [← HW0.out]; refine (AR _ hb0).mono ?_; rintro e w9 ⟨rfl, hb9⟩; have hB9 : Below w.heap.size w w9 := hb0.trans (hb9.mono (by omega))) | (go_at_call 23; refine (AR _ hbw1).mono ?_; rintro e w9 ⟨rfl, hb9⟩; have hB9 : Below w.heap.size w w9 := hbw1.trans (hb9.mono hbw1.size)))
  go_ret
  exact ⟨ret_s (by rw [HP.out]; apply bs_of; simp [dt_app, bs_dt, HS.out, HD.out, HO.out]), hB9⟩
set_option maxRecDepth 10000 in
set_option maxHeartbeats 4000000 in
theorem ah8 (w : World) (no : Option Addr) (nc nn : Nat) (fo : Option Addr) (fc fn : Nat) (N : List Nd) (nd : Nd) (ka : Option Addr) (kc kl : Nat) (s : ByteArray) (i d p : Nat) (H : AhE w no nc nn N nd ka kc kl s i d p) (hk : nd.kind = 8) (o : Nat) (ho : o ≤ 100000000) (R : Bool) (hR : R = ard N nd i) :
    Calls Tryz.prog 24 #[.agg #[.slice no nn nc, .slice fo fn fc], .agg #[.int .i64 8, .int .i64 nd.at_, .int .i64 nd.wh, .int .i64 nd.close, .int .i64 (d : Int), .int .i64 nd.typ, .int .i64 (p : Int), .int .i64 nd.val, .string s, .slice ka kl kc], .int .i64 i, .int .i64 o] w fun e w' => e = .returned (.string (bs (ptx o (pre nd i) ++ if R = true then [40] else []))) ∧ Below w.heap.size w w' := by
  have AR := H.ar fo fc fn 8 hk R hR
  have HP : Hid (ptx o (pre nd i) = ([112, 114, 105, 110, 116, 40] : List UInt8)) := by
    show _ = _
    simp [ptx, pre, hk, tp, np]
  have HS : Hid (s = bs nd.name) := H.es
  have hsz : s.size ≤ 64 := by rw [H.es, bs_size]; exact H.esl
  have HD : Hid (nd.decl = (d : Int)) := H.ed
  have HO : Hid (nd.op = (p : Int)) := H.ep
  have hRf : R = false := by rw [hR]; simp [ard, hk]
  subst hRf
  have hkl := H.ekl
  have hi := H.ei
  have hkb := H.ekb
  clear hR H hk hkl
  obtain ⟨w0, hw0⟩ : ∃ w0, w0 = (w.alloc (.cells #[.slice no nn nc, .slice fo fn fc] 27)).alloc (.cells #[.int .i64 8, .int .i64 nd.at_, .int .i64 nd.wh, .int .i64 nd.close, .int .i64 (d : Int), .int .i64 nd.typ, .int .i64 (p : Int), .int .i64 nd.val, .string s, .slice ka kl kc] 39) := ⟨_, rfl⟩
  have hb0 : Below w.heap.size w w0 := by rw [hw0]; exact ((Below.refl _ _).alloc (Nat.le_refl _) _).alloc (by simp) _
  have hs0 : w.heap.size + 2 ≤ w0.heap.size := by rw [hw0]; simp
  have z0 : w0.cell? ⟨w.heap.size, 0, none⟩ = some (.slice no nn nc) := by rw [hw0]; simp
  have z1 : w0.cell? ⟨w.heap.size, 1, none⟩ = some (.slice fo fn fc) := by rw [hw0]; simp
  have y0 : w0.cell? ⟨w.heap.size + 1, 0, none⟩ = some (.int .i64 8) := by rw [hw0]; simp
  have y1 : w0.cell? ⟨w.heap.size + 1, 1, none⟩ = some (.int .i64 nd.at_) := by rw [hw0]; simp
  have y2 : w0.cell? ⟨w.heap.size + 1, 2, none⟩ = some (.int .i64 nd.wh) := by rw [hw0]; simp
  have y3 : w0.cell? ⟨w.heap.size + 1, 3, none⟩ = some (.int .i64 nd.close) := by rw [hw0]; simp
  have y4 : w0.cell? ⟨w.heap.size + 1, 4, none⟩ = some (.int .i64 (d : Int)) := by rw [hw0]; simp
  have y5 : w0.cell? ⟨w.heap.size + 1, 5, none⟩ = some (.int .i64 nd.typ) := by rw [hw0]; simp
  have y6 : w0.cell? ⟨w.heap.size + 1, 6, none⟩ = some (.int .i64 (p : Int)) := by rw [hw0]; simp
  have y7 : w0.cell? ⟨w.heap.size + 1, 7, none⟩ = some (.int .i64 nd.val) := by rw [hw0]; simp
  have y8 : w0.cell? ⟨w.heap.size + 1, 8, none⟩ = some (.string s) := by rw [hw0]; simp
  have y9 : w0.cell? ⟨w.heap.size + 1, 9, none⟩ = some (.slice ka kl kc) := by rw [hw0]; simp
  have HW0 : Hid _ := hw0
  clear hw0
  go_enter Tryz.func24, Tryz.ntmps24
  go_wp2_with (first | (go_at_call 23; rw [← HW0.out]; refine (AR _ hb0).mono ?_; rintro e w9 ⟨rfl, hb9⟩; have hB9 : Below w.heap.size w w9 := hb0.trans (hb9.mono (by omega))) | (go_at_call 23; refine (AR _ hbw1).mono ?_; rintro e w9 ⟨rfl, hb9⟩; have hB9 : Below w.heap.size w w9 := hbw1.trans (hb9.mono hbw1.size)))
  go_ret
  exact ⟨ret_s (by rw [HP.out]; apply bs_of; simp [dt_app, bs_dt, HS.out, HD.out, HO.out]), hB9⟩
set_option maxRecDepth 10000 in
set_option maxHeartbeats 4000000 in
theorem ah9 (w : World) (no : Option Addr) (nc nn : Nat) (fo : Option Addr) (fc fn : Nat) (N : List Nd) (nd : Nd) (ka : Option Addr) (kc kl : Nat) (s : ByteArray) (i d p : Nat) (H : AhE w no nc nn N nd ka kc kl s i d p) (hk : nd.kind = 9) (o : Nat) (ho : o ≤ 100000000) (R : Bool) (hR : R = ard N nd i) :
    Calls Tryz.prog 24 #[.agg #[.slice no nn nc, .slice fo fn fc], .agg #[.int .i64 9, .int .i64 nd.at_, .int .i64 nd.wh, .int .i64 nd.close, .int .i64 (d : Int), .int .i64 nd.typ, .int .i64 (p : Int), .int .i64 nd.val, .string s, .slice ka kl kc], .int .i64 i, .int .i64 o] w fun e w' => e = .returned (.string (bs (ptx o (pre nd i) ++ if R = true then [40] else []))) ∧ Below w.heap.size w w' := by
  have AR := H.ar fo fc fn 9 hk R hR
  have HP : Hid (ptx o (pre nd i) = ([112, 97, 110, 105, 99, 40] : List UInt8)) := by
    show _ = _
    simp [ptx, pre, hk, tp, np]
  have HS : Hid (s = bs nd.name) := H.es
  have hsz : s.size ≤ 64 := by rw [H.es, bs_size]; exact H.esl
  have HD : Hid (nd.decl = (d : Int)) := H.ed
  have HO : Hid (nd.op = (p : Int)) := H.ep
  have hRf : R = false := by rw [hR]; simp [ard, hk]
  subst hRf
  have hkl := H.ekl
  have hi := H.ei
  have hkb := H.ekb
  clear hR H hk hkl
  obtain ⟨w0, hw0⟩ : ∃ w0, w0 = (w.alloc (.cells #[.slice no nn nc, .slice fo fn fc] 27)).alloc (.cells #[.int .i64 9, .int .i64 nd.at_, .int .i64 nd.wh, .int .i64 nd.close, .int .i64 (d : Int), .int .i64 nd.typ, .int .i64 (p : Int), .int .i64 nd.val, .string s, .slice ka kl kc] 39) := ⟨_, rfl⟩
  have hb0 : Below w.heap.size w w0 := by rw [hw0]; exact ((Below.refl _ _).alloc (Nat.le_refl _) _).alloc (by simp) _
  have hs0 : w.heap.size + 2 ≤ w0.heap.size := by rw [hw0]; simp
  have z0 : w0.cell? ⟨w.heap.size, 0, none⟩ = some (.slice no nn nc) := by rw [hw0]; simp
  have z1 : w0.cell? ⟨w.heap.size, 1, none⟩ = some (.slice fo fn fc) := by rw [hw0]; simp
  have y0 : w0.cell? ⟨w.heap.size + 1, 0, none⟩ = some (.int .i64 9) := by rw [hw0]; simp
  have y1 : w0.cell? ⟨w.heap.size + 1, 1, none⟩ = some (.int .i64 nd.at_) := by rw [hw0]; simp
  have y2 : w0.cell? ⟨w.heap.size + 1, 2, none⟩ = some (.int .i64 nd.wh) := by rw [hw0]; simp
  have y3 : w0.cell? ⟨w.heap.size + 1, 3, none⟩ = some (.int .i64 nd.close) := by rw [hw0]; simp
  have y4 : w0.cell? ⟨w.heap.size + 1, 4, none⟩ = some (.int .i64 (d : Int)) := by rw [hw0]; simp
  have y5 : w0.cell? ⟨w.heap.size + 1, 5, none⟩ = some (.int .i64 nd.typ) := by rw [hw0]; simp
  have y6 : w0.cell? ⟨w.heap.size + 1, 6, none⟩ = some (.int .i64 (p : Int)) := by rw [hw0]; simp
  have y7 : w0.cell? ⟨w.heap.size + 1, 7, none⟩ = some (.int .i64 nd.val) := by rw [hw0]; simp
  have y8 : w0.cell? ⟨w.heap.size + 1, 8, none⟩ = some (.string s) := by rw [hw0]; simp
  have y9 : w0.cell? ⟨w.heap.size + 1, 9, none⟩ = some (.slice ka kl kc) := by rw [hw0]; simp
  have HW0 : Hid _ := hw0
  clear hw0
  go_enter Tryz.func24, Tryz.ntmps24
  go_wp2_with (first | (go_at_call 23; rw [← HW0.out]; refine (AR _ hb0).mono ?_; rintro e w9 ⟨rfl, hb9⟩; have hB9 : Below w.heap.size w w9 := hb0.trans (hb9.mono (by omega))) | (go_at_call 23; refine (AR _ hbw1).mono ?_; rintro e w9 ⟨rfl, hb9⟩; have hB9 : Below w.heap.size w w9 := hbw1.trans (hb9.mono hbw1.size)))
  go_ret
  exact ⟨ret_s (by rw [HP.out]; apply bs_of; simp [dt_app, bs_dt, HS.out, HD.out, HO.out]), hB9⟩
set_option maxRecDepth 10000 in
set_option maxHeartbeats 4000000 in
theorem ah10a (w : World) (no : Option Addr) (nc nn : Nat) (fo : Option Addr) (fc fn : Nat) (N : List Nd) (nd : Nd) (ka : Option Addr) (kc kl : Nat) (s : ByteArray) (i d p : Nat) (H : AhE w no nc nn N nd ka kc kl s i d p) (hk : nd.kind = 10) (o : Nat) (ho : o ≤ 100000000) (hi0 : i = 0) (R : Bool) (hR : R = ard N nd i) :
    Calls Tryz.prog 24 #[.agg #[.slice no nn nc, .slice fo fn fc], .agg #[.int .i64 10, .int .i64 nd.at_, .int .i64 nd.wh, .int .i64 nd.close, .int .i64 (d : Int), .int .i64 nd.typ, .int .i64 (p : Int), .int .i64 nd.val, .string s, .slice ka kl kc], .int .i64 i, .int .i64 o] w fun e w' => e = .returned (.string (bs (ptx o (pre nd i) ++ if R = true then [40] else []))) ∧ Below w.heap.size w w' := by
  have AR := H.ar fo fc fn 10 hk R hR
  have HP : Hid (ptx o (pre nd i) = ([105, 102, 32] : List UInt8)) := by
    show _ = _
    simp [ptx, pre, hk, tp, np, hi0]
  have HS : Hid (s = bs nd.name) := H.es
  have hsz : s.size ≤ 64 := by rw [H.es, bs_size]; exact H.esl
  have HD : Hid (nd.decl = (d : Int)) := H.ed
  have HO : Hid (nd.op = (p : Int)) := H.ep
  have hRf : R = false := by rw [hR]; simp [ard, hk]
  subst hRf
  have hkl := H.ekl
  have hi := H.ei
  have hkb := H.ekb
  subst hi0
  rw [show ((0 : Nat) : Int) = 0 from rfl] at AR
  clear hR H hk hkl
  obtain ⟨w0, hw0⟩ : ∃ w0, w0 = (w.alloc (.cells #[.slice no nn nc, .slice fo fn fc] 27)).alloc (.cells #[.int .i64 10, .int .i64 nd.at_, .int .i64 nd.wh, .int .i64 nd.close, .int .i64 (d : Int), .int .i64 nd.typ, .int .i64 (p : Int), .int .i64 nd.val, .string s, .slice ka kl kc] 39) := ⟨_, rfl⟩
  have hb0 : Below w.heap.size w w0 := by rw [hw0]; exact ((Below.refl _ _).alloc (Nat.le_refl _) _).alloc (by simp) _
  have hs0 : w.heap.size + 2 ≤ w0.heap.size := by rw [hw0]; simp
  have z0 : w0.cell? ⟨w.heap.size, 0, none⟩ = some (.slice no nn nc) := by rw [hw0]; simp
  have z1 : w0.cell? ⟨w.heap.size, 1, none⟩ = some (.slice fo fn fc) := by rw [hw0]; simp
  have y0 : w0.cell? ⟨w.heap.size + 1, 0, none⟩ = some (.int .i64 10) := by rw [hw0]; simp
  have y1 : w0.cell? ⟨w.heap.size + 1, 1, none⟩ = some (.int .i64 nd.at_) := by rw [hw0]; simp
  have y2 : w0.cell? ⟨w.heap.size + 1, 2, none⟩ = some (.int .i64 nd.wh) := by rw [hw0]; simp
  have y3 : w0.cell? ⟨w.heap.size + 1, 3, none⟩ = some (.int .i64 nd.close) := by rw [hw0]; simp
  have y4 : w0.cell? ⟨w.heap.size + 1, 4, none⟩ = some (.int .i64 (d : Int)) := by rw [hw0]; simp
  have y5 : w0.cell? ⟨w.heap.size + 1, 5, none⟩ = some (.int .i64 nd.typ) := by rw [hw0]; simp
  have y6 : w0.cell? ⟨w.heap.size + 1, 6, none⟩ = some (.int .i64 (p : Int)) := by rw [hw0]; simp
  have y7 : w0.cell? ⟨w.heap.size + 1, 7, none⟩ = some (.int .i64 nd.val) := by rw [hw0]; simp
  have y8 : w0.cell? ⟨w.heap.size + 1, 8, none⟩ = some (.string s) := by rw [hw0]; simp
  have y9 : w0.cell? ⟨w.heap.size + 1, 9, none⟩ = some (.slice ka kl kc) := by rw [hw0]; simp
  have HW0 : Hid _ := hw0
  clear hw0
  go_enter Tryz.func24, Tryz.ntmps24
  go_wp2_with (first | (go_at_call 23; rw [← HW0.out]; refine (AR _ (hb0.alloc (by omega) _)).mono ?_; rintro e w9 ⟨rfl, hb9⟩; have hB9 : Below w.heap.size w w9 := (hb0.alloc (by omega) _).trans (hb9.mono (by simp; omega))) | (go_at_call 23; rw [← HW0.out]; refine (AR _ hb0).mono ?_; rintro e w9 ⟨rfl, hb9⟩; have hB9 : Below w.heap.size w w9 := hb0.trans (hb9.mono (by omega))) | (go_at_call 23; refine (AR _ hbw1).mono ?_; rintro e w9 ⟨rfl, hb9⟩; have hB9 : Below w.heap.size w w9 := hbw1.trans (hb9.mono hbw1.size)))
  go_ret
  exact ⟨ret_s (by rw [HP.out]; apply bs_of; simp [dt_app, bs_dt, HS.out, HD.out, HO.out]), hB9⟩
set_option maxRecDepth 10000 in
set_option maxHeartbeats 4000000 in
theorem ah10b (w : World) (no : Option Addr) (nc nn : Nat) (fo : Option Addr) (fc fn : Nat) (N : List Nd) (nd : Nd) (ka : Option Addr) (kc kl : Nat) (s : ByteArray) (i d p : Nat) (H : AhE w no nc nn N nd ka kc kl s i d p) (hk : nd.kind = 10) (o : Nat) (ho : o ≤ 100000000) (hi0 : i = 1) (R : Bool) (hR : R = ard N nd i) :
    Calls Tryz.prog 24 #[.agg #[.slice no nn nc, .slice fo fn fc], .agg #[.int .i64 10, .int .i64 nd.at_, .int .i64 nd.wh, .int .i64 nd.close, .int .i64 (d : Int), .int .i64 nd.typ, .int .i64 (p : Int), .int .i64 nd.val, .string s, .slice ka kl kc], .int .i64 i, .int .i64 o] w fun e w' => e = .returned (.string (bs (ptx o (pre nd i) ++ if R = true then [40] else []))) ∧ Below w.heap.size w w' := by
  have AR := H.ar fo fc fn 10 hk R hR
  have HP : Hid (ptx o (pre nd i) = ([32] : List UInt8)) := by
    show _ = _
    simp [ptx, pre, hk, tp, np, hi0]
  have HS : Hid (s = bs nd.name) := H.es
  have hsz : s.size ≤ 64 := by rw [H.es, bs_size]; exact H.esl
  have HD : Hid (nd.decl = (d : Int)) := H.ed
  have HO : Hid (nd.op = (p : Int)) := H.ep
  have hRf : R = false := by rw [hR]; simp [ard, hk]
  subst hRf
  have hkl := H.ekl
  have hi := H.ei
  have hkb := H.ekb
  subst hi0
  rw [show ((1 : Nat) : Int) = 1 from rfl] at AR
  clear hR H hk hkl
  obtain ⟨w0, hw0⟩ : ∃ w0, w0 = (w.alloc (.cells #[.slice no nn nc, .slice fo fn fc] 27)).alloc (.cells #[.int .i64 10, .int .i64 nd.at_, .int .i64 nd.wh, .int .i64 nd.close, .int .i64 (d : Int), .int .i64 nd.typ, .int .i64 (p : Int), .int .i64 nd.val, .string s, .slice ka kl kc] 39) := ⟨_, rfl⟩
  have hb0 : Below w.heap.size w w0 := by rw [hw0]; exact ((Below.refl _ _).alloc (Nat.le_refl _) _).alloc (by simp) _
  have hs0 : w.heap.size + 2 ≤ w0.heap.size := by rw [hw0]; simp
  have z0 : w0.cell? ⟨w.heap.size, 0, none⟩ = some (.slice no nn nc) := by rw [hw0]; simp
  have z1 : w0.cell? ⟨w.heap.size, 1, none⟩ = some (.slice fo fn fc) := by rw [hw0]; simp
  have y0 : w0.cell? ⟨w.heap.size + 1, 0, none⟩ = some (.int .i64 10) := by rw [hw0]; simp
  have y1 : w0.cell? ⟨w.heap.size + 1, 1, none⟩ = some (.int .i64 nd.at_) := by rw [hw0]; simp
  have y2 : w0.cell? ⟨w.heap.size + 1, 2, none⟩ = some (.int .i64 nd.wh) := by rw [hw0]; simp
  have y3 : w0.cell? ⟨w.heap.size + 1, 3, none⟩ = some (.int .i64 nd.close) := by rw [hw0]; simp
  have y4 : w0.cell? ⟨w.heap.size + 1, 4, none⟩ = some (.int .i64 (d : Int)) := by rw [hw0]; simp
  have y5 : w0.cell? ⟨w.heap.size + 1, 5, none⟩ = some (.int .i64 nd.typ) := by rw [hw0]; simp
  have y6 : w0.cell? ⟨w.heap.size + 1, 6, none⟩ = some (.int .i64 (p : Int)) := by rw [hw0]; simp
  have y7 : w0.cell? ⟨w.heap.size + 1, 7, none⟩ = some (.int .i64 nd.val) := by rw [hw0]; simp
  have y8 : w0.cell? ⟨w.heap.size + 1, 8, none⟩ = some (.string s) := by rw [hw0]; simp
  have y9 : w0.cell? ⟨w.heap.size + 1, 9, none⟩ = some (.slice ka kl kc) := by rw [hw0]; simp
  have HW0 : Hid _ := hw0
  clear hw0
  go_enter Tryz.func24, Tryz.ntmps24
  go_wp2_with (first | (go_at_call 23; rw [← HW0.out]; refine (AR _ (hb0.alloc (by omega) _)).mono ?_; rintro e w9 ⟨rfl, hb9⟩; have hB9 : Below w.heap.size w w9 := (hb0.alloc (by omega) _).trans (hb9.mono (by simp; omega))) | (go_at_call 23; rw [← HW0.out]; refine (AR _ hb0).mono ?_; rintro e w9 ⟨rfl, hb9⟩; have hB9 : Below w.heap.size w w9 := hb0.trans (hb9.mono (by omega))) | (go_at_call 23; refine (AR _ hbw1).mono ?_; rintro e w9 ⟨rfl, hb9⟩; have hB9 : Below w.heap.size w w9 := hbw1.trans (hb9.mono hbw1.size)))
  go_ret
  exact ⟨ret_s (by rw [HP.out]; apply bs_of; simp [dt_app, bs_dt, HS.out, HD.out, HO.out]), hB9⟩
set_option maxRecDepth 10000 in
set_option maxHeartbeats 4000000 in
theorem ah10c (w : World) (no : Option Addr) (nc nn : Nat) (fo : Option Addr) (fc fn : Nat) (N : List Nd) (nd : Nd) (ka : Option Addr) (kc kl : Nat) (s : ByteArray) (i d p : Nat) (H : AhE w no nc nn N nd ka kc kl s i d p) (hk : nd.kind = 10) (o : Nat) (ho : o ≤ 100000000) (hi0 : i = 2) (R : Bool) (hR : R = ard N nd i) :
    Calls Tryz.prog 24 #[.agg #[.slice no nn nc, .slice fo fn fc], .agg #[.int .i64 10, .int .i64 nd.at_, .int .i64 nd.wh, .int .i64 nd.close, .int .i64 (d : Int), .int .i64 nd.typ, .int .i64 (p : Int), .int .i64 nd.val, .string s, .slice ka kl kc], .int .i64 i, .int .i64 o] w fun e w' => e = .returned (.string (bs (ptx o (pre nd i) ++ if R = true then [40] else []))) ∧ Below w.heap.size w w' := by
  have AR := H.ar fo fc fn 10 hk R hR
  have HP : Hid (ptx o (pre nd i) = ([32, 101, 108, 115, 101, 32] : List UInt8)) := by
    show _ = _
    simp [ptx, pre, hk, tp, np, hi0]
  have HS : Hid (s = bs nd.name) := H.es
  have hsz : s.size ≤ 64 := by rw [H.es, bs_size]; exact H.esl
  have HD : Hid (nd.decl = (d : Int)) := H.ed
  have HO : Hid (nd.op = (p : Int)) := H.ep
  have hRf : R = false := by rw [hR]; simp [ard, hk]
  subst hRf
  have hkl := H.ekl
  have hi := H.ei
  have hkb := H.ekb
  subst hi0
  rw [show ((2 : Nat) : Int) = 2 from rfl] at AR
  clear hR H hk hkl
  obtain ⟨w0, hw0⟩ : ∃ w0, w0 = (w.alloc (.cells #[.slice no nn nc, .slice fo fn fc] 27)).alloc (.cells #[.int .i64 10, .int .i64 nd.at_, .int .i64 nd.wh, .int .i64 nd.close, .int .i64 (d : Int), .int .i64 nd.typ, .int .i64 (p : Int), .int .i64 nd.val, .string s, .slice ka kl kc] 39) := ⟨_, rfl⟩
  have hb0 : Below w.heap.size w w0 := by rw [hw0]; exact ((Below.refl _ _).alloc (Nat.le_refl _) _).alloc (by simp) _
  have hs0 : w.heap.size + 2 ≤ w0.heap.size := by rw [hw0]; simp
  have z0 : w0.cell? ⟨w.heap.size, 0, none⟩ = some (.slice no nn nc) := by rw [hw0]; simp
  have z1 : w0.cell? ⟨w.heap.size, 1, none⟩ = some (.slice fo fn fc) := by rw [hw0]; simp
  have y0 : w0.cell? ⟨w.heap.size + 1, 0, none⟩ = some (.int .i64 10) := by rw [hw0]; simp
  have y1 : w0.cell? ⟨w.heap.size + 1, 1, none⟩ = some (.int .i64 nd.at_) := by rw [hw0]; simp
  have y2 : w0.cell? ⟨w.heap.size + 1, 2, none⟩ = some (.int .i64 nd.wh) := by rw [hw0]; simp
  have y3 : w0.cell? ⟨w.heap.size + 1, 3, none⟩ = some (.int .i64 nd.close) := by rw [hw0]; simp
  have y4 : w0.cell? ⟨w.heap.size + 1, 4, none⟩ = some (.int .i64 (d : Int)) := by rw [hw0]; simp
  have y5 : w0.cell? ⟨w.heap.size + 1, 5, none⟩ = some (.int .i64 nd.typ) := by rw [hw0]; simp
  have y6 : w0.cell? ⟨w.heap.size + 1, 6, none⟩ = some (.int .i64 (p : Int)) := by rw [hw0]; simp
  have y7 : w0.cell? ⟨w.heap.size + 1, 7, none⟩ = some (.int .i64 nd.val) := by rw [hw0]; simp
  have y8 : w0.cell? ⟨w.heap.size + 1, 8, none⟩ = some (.string s) := by rw [hw0]; simp
  have y9 : w0.cell? ⟨w.heap.size + 1, 9, none⟩ = some (.slice ka kl kc) := by rw [hw0]; simp
  have HW0 : Hid _ := hw0
  clear hw0
  go_enter Tryz.func24, Tryz.ntmps24
  go_wp2_with (first | (go_at_call 23; rw [← HW0.out]; refine (AR _ (hb0.alloc (by omega) _)).mono ?_; rintro e w9 ⟨rfl, hb9⟩; have hB9 : Below w.heap.size w w9 := (hb0.alloc (by omega) _).trans (hb9.mono (by simp; omega))) | (go_at_call 23; rw [← HW0.out]; refine (AR _ hb0).mono ?_; rintro e w9 ⟨rfl, hb9⟩; have hB9 : Below w.heap.size w w9 := hb0.trans (hb9.mono (by omega))) | (go_at_call 23; refine (AR _ hbw1).mono ?_; rintro e w9 ⟨rfl, hb9⟩; have hB9 : Below w.heap.size w w9 := hbw1.trans (hb9.mono hbw1.size)))
  go_ret
  exact ⟨ret_s (by rw [HP.out]; apply bs_of; simp [dt_app, bs_dt, HS.out, HD.out, HO.out]), hB9⟩
set_option maxRecDepth 10000 in
set_option maxHeartbeats 4000000 in
theorem ah11a (w : World) (no : Option Addr) (nc nn : Nat) (fo : Option Addr) (fc fn : Nat) (N : List Nd) (nd : Nd) (ka : Option Addr) (kc kl : Nat) (s : ByteArray) (i d p : Nat) (H : AhE w no nc nn N nd ka kc kl s i d p) (hk : nd.kind = 11) (o : Nat) (ho : o ≤ 100000000) (hi0 : i = 0) (R : Bool) (hR : R = ard N nd i) :
    Calls Tryz.prog 24 #[.agg #[.slice no nn nc, .slice fo fn fc], .agg #[.int .i64 11, .int .i64 nd.at_, .int .i64 nd.wh, .int .i64 nd.close, .int .i64 (d : Int), .int .i64 nd.typ, .int .i64 (p : Int), .int .i64 nd.val, .string s, .slice ka kl kc], .int .i64 i, .int .i64 o] w fun e w' => e = .returned (.string (bs (ptx o (pre nd i) ++ if R = true then [40] else []))) ∧ Below w.heap.size w w' := by
  have AR := H.ar fo fc fn 11 hk R hR
  have HP : Hid (ptx o (pre nd i) = ([102, 111, 114, 32] : List UInt8)) := by
    show _ = _
    simp [ptx, pre, hk, tp, np, hi0]
  have HS : Hid (s = bs nd.name) := H.es
  have hsz : s.size ≤ 64 := by rw [H.es, bs_size]; exact H.esl
  have HD : Hid (nd.decl = (d : Int)) := H.ed
  have HO : Hid (nd.op = (p : Int)) := H.ep
  have hRf : R = false := by rw [hR]; simp [ard, hk]
  subst hRf
  have hkl := H.ekl
  have hi := H.ei
  have hkb := H.ekb
  have q1 : ¬ (i : Int) = 1 := by omega
  clear hR H hk hkl hi0
  obtain ⟨w0, hw0⟩ : ∃ w0, w0 = (w.alloc (.cells #[.slice no nn nc, .slice fo fn fc] 27)).alloc (.cells #[.int .i64 11, .int .i64 nd.at_, .int .i64 nd.wh, .int .i64 nd.close, .int .i64 (d : Int), .int .i64 nd.typ, .int .i64 (p : Int), .int .i64 nd.val, .string s, .slice ka kl kc] 39) := ⟨_, rfl⟩
  have hb0 : Below w.heap.size w w0 := by rw [hw0]; exact ((Below.refl _ _).alloc (Nat.le_refl _) _).alloc (by simp) _
  have hs0 : w.heap.size + 2 ≤ w0.heap.size := by rw [hw0]; simp
  have z0 : w0.cell? ⟨w.heap.size, 0, none⟩ = some (.slice no nn nc) := by rw [hw0]; simp
  have z1 : w0.cell? ⟨w.heap.size, 1, none⟩ = some (.slice fo fn fc) := by rw [hw0]; simp
  have y0 : w0.cell? ⟨w.heap.size + 1, 0, none⟩ = some (.int .i64 11) := by rw [hw0]; simp
  have y1 : w0.cell? ⟨w.heap.size + 1, 1, none⟩ = some (.int .i64 nd.at_) := by rw [hw0]; simp
  have y2 : w0.cell? ⟨w.heap.size + 1, 2, none⟩ = some (.int .i64 nd.wh) := by rw [hw0]; simp
  have y3 : w0.cell? ⟨w.heap.size + 1, 3, none⟩ = some (.int .i64 nd.close) := by rw [hw0]; simp
  have y4 : w0.cell? ⟨w.heap.size + 1, 4, none⟩ = some (.int .i64 (d : Int)) := by rw [hw0]; simp
  have y5 : w0.cell? ⟨w.heap.size + 1, 5, none⟩ = some (.int .i64 nd.typ) := by rw [hw0]; simp
  have y6 : w0.cell? ⟨w.heap.size + 1, 6, none⟩ = some (.int .i64 (p : Int)) := by rw [hw0]; simp
  have y7 : w0.cell? ⟨w.heap.size + 1, 7, none⟩ = some (.int .i64 nd.val) := by rw [hw0]; simp
  have y8 : w0.cell? ⟨w.heap.size + 1, 8, none⟩ = some (.string s) := by rw [hw0]; simp
  have y9 : w0.cell? ⟨w.heap.size + 1, 9, none⟩ = some (.slice ka kl kc) := by rw [hw0]; simp
  have HW0 : Hid _ := hw0
  clear hw0
  go_enter Tryz.func24, Tryz.ntmps24
  go_wp2_with (first | (go_at_call 23; rw [← HW0.out]; refine (AR _ hb0).mono ?_; rintro e w9 ⟨rfl, hb9⟩; have hB9 : Below w.heap.size w w9 := hb0.trans (hb9.mono (by omega))) | (go_at_call 23; refine (AR _ hbw1).mono ?_; rintro e w9 ⟨rfl, hb9⟩; have hB9 : Below w.heap.size w w9 := hbw1.trans (hb9.mono hbw1.size)))
  go_ret
  exact ⟨ret_s (by rw [HP.out]; apply bs_of; simp [dt_app, bs_dt, HS.out, HD.out, HO.out]), hB9⟩
set_option maxRecDepth 10000 in
set_option maxHeartbeats 4000000 in
theorem ah11b (w : World) (no : Option Addr) (nc nn : Nat) (fo : Option Addr) (fc fn : Nat) (N : List Nd) (nd : Nd) (ka : Option Addr) (kc kl : Nat) (s : ByteArray) (i d p : Nat) (H : AhE w no nc nn N nd ka kc kl s i d p) (hk : nd.kind = 11) (o : Nat) (ho : o ≤ 100000000) (hi0 : i = 1) (R : Bool) (hR : R = ard N nd i) :
    Calls Tryz.prog 24 #[.agg #[.slice no nn nc, .slice fo fn fc], .agg #[.int .i64 11, .int .i64 nd.at_, .int .i64 nd.wh, .int .i64 nd.close, .int .i64 (d : Int), .int .i64 nd.typ, .int .i64 (p : Int), .int .i64 nd.val, .string s, .slice ka kl kc], .int .i64 i, .int .i64 o] w fun e w' => e = .returned (.string (bs (ptx o (pre nd i) ++ if R = true then [40] else []))) ∧ Below w.heap.size w w' := by
  have AR := H.ar fo fc fn 11 hk R hR
  have HP : Hid (ptx o (pre nd i) = ([32] : List UInt8)) := by
    show _ = _
    simp [ptx, pre, hk, tp, np, hi0]
  have HS : Hid (s = bs nd.name) := H.es
  have hsz : s.size ≤ 64 := by rw [H.es, bs_size]; exact H.esl
  have HD : Hid (nd.decl = (d : Int)) := H.ed
  have HO : Hid (nd.op = (p : Int)) := H.ep
  have hRf : R = false := by rw [hR]; simp [ard, hk]
  subst hRf
  have hkl := H.ekl
  have hi := H.ei
  have hkb := H.ekb
  have q1 : ((i : Int) == 1) = true := by simp; omega
  clear hR H hk hkl hi0
  obtain ⟨w0, hw0⟩ : ∃ w0, w0 = (w.alloc (.cells #[.slice no nn nc, .slice fo fn fc] 27)).alloc (.cells #[.int .i64 11, .int .i64 nd.at_, .int .i64 nd.wh, .int .i64 nd.close, .int .i64 (d : Int), .int .i64 nd.typ, .int .i64 (p : Int), .int .i64 nd.val, .string s, .slice ka kl kc] 39) := ⟨_, rfl⟩
  have hb0 : Below w.heap.size w w0 := by rw [hw0]; exact ((Below.refl _ _).alloc (Nat.le_refl _) _).alloc (by simp) _
  have hs0 : w.heap.size + 2 ≤ w0.heap.size := by rw [hw0]; simp
  have z0 : w0.cell? ⟨w.heap.size, 0, none⟩ = some (.slice no nn nc) := by rw [hw0]; simp
  have z1 : w0.cell? ⟨w.heap.size, 1, none⟩ = some (.slice fo fn fc) := by rw [hw0]; simp
  have y0 : w0.cell? ⟨w.heap.size + 1, 0, none⟩ = some (.int .i64 11) := by rw [hw0]; simp
  have y1 : w0.cell? ⟨w.heap.size + 1, 1, none⟩ = some (.int .i64 nd.at_) := by rw [hw0]; simp
  have y2 : w0.cell? ⟨w.heap.size + 1, 2, none⟩ = some (.int .i64 nd.wh) := by rw [hw0]; simp
  have y3 : w0.cell? ⟨w.heap.size + 1, 3, none⟩ = some (.int .i64 nd.close) := by rw [hw0]; simp
  have y4 : w0.cell? ⟨w.heap.size + 1, 4, none⟩ = some (.int .i64 (d : Int)) := by rw [hw0]; simp
  have y5 : w0.cell? ⟨w.heap.size + 1, 5, none⟩ = some (.int .i64 nd.typ) := by rw [hw0]; simp
  have y6 : w0.cell? ⟨w.heap.size + 1, 6, none⟩ = some (.int .i64 (p : Int)) := by rw [hw0]; simp
  have y7 : w0.cell? ⟨w.heap.size + 1, 7, none⟩ = some (.int .i64 nd.val) := by rw [hw0]; simp
  have y8 : w0.cell? ⟨w.heap.size + 1, 8, none⟩ = some (.string s) := by rw [hw0]; simp
  have y9 : w0.cell? ⟨w.heap.size + 1, 9, none⟩ = some (.slice ka kl kc) := by rw [hw0]; simp
  have HW0 : Hid _ := hw0
  clear hw0
  go_enter Tryz.func24, Tryz.ntmps24
  go_wp2_with (first | (go_at_call 23; rw [← HW0.out]; refine (AR _ hb0).mono ?_; rintro e w9 ⟨rfl, hb9⟩; have hB9 : Below w.heap.size w w9 := hb0.trans (hb9.mono (by omega))) | (go_at_call 23; refine (AR _ hbw1).mono ?_; rintro e w9 ⟨rfl, hb9⟩; have hB9 : Below w.heap.size w w9 := hbw1.trans (hb9.mono hbw1.size)))
  go_ret
  exact ⟨ret_s (by rw [HP.out]; apply bs_of; simp [dt_app, bs_dt, HS.out, HD.out, HO.out]), hB9⟩
set_option maxRecDepth 10000 in
set_option maxHeartbeats 4000000 in
theorem ah12 (w : World) (no : Option Addr) (nc nn : Nat) (fo : Option Addr) (fc fn : Nat) (N : List Nd) (nd : Nd) (ka : Option Addr) (kc kl : Nat) (s : ByteArray) (i d p : Nat) (H : AhE w no nc nn N nd ka kc kl s i d p) (hk : nd.kind = 12) (o : Nat) (ho : o ≤ 100000000) (R : Bool) (hR : R = ard N nd i) :
    Calls Tryz.prog 24 #[.agg #[.slice no nn nc, .slice fo fn fc], .agg #[.int .i64 12, .int .i64 nd.at_, .int .i64 nd.wh, .int .i64 nd.close, .int .i64 (d : Int), .int .i64 nd.typ, .int .i64 (p : Int), .int .i64 nd.val, .string s, .slice ka kl kc], .int .i64 i, .int .i64 o] w fun e w' => e = .returned (.string (bs (ptx o (pre nd i) ++ if R = true then [40] else []))) ∧ Below w.heap.size w w' := by
  have AR := H.ar fo fc fn 12 hk R hR
  have HP : Hid (ptx o (pre nd i) = ([114, 101, 116, 117, 114, 110, 32] : List UInt8)) := by
    show _ = _
    simp [ptx, pre, hk, tp, np]
  have HS : Hid (s = bs nd.name) := H.es
  have hsz : s.size ≤ 64 := by rw [H.es, bs_size]; exact H.esl
  have HD : Hid (nd.decl = (d : Int)) := H.ed
  have HO : Hid (nd.op = (p : Int)) := H.ep
  have hRf : R = false := by rw [hR]; simp [ard, hk]
  subst hRf
  have hkl := H.ekl
  have hi := H.ei
  have hkb := H.ekb
  clear hR H hk hkl
  obtain ⟨w0, hw0⟩ : ∃ w0, w0 = (w.alloc (.cells #[.slice no nn nc, .slice fo fn fc] 27)).alloc (.cells #[.int .i64 12, .int .i64 nd.at_, .int .i64 nd.wh, .int .i64 nd.close, .int .i64 (d : Int), .int .i64 nd.typ, .int .i64 (p : Int), .int .i64 nd.val, .string s, .slice ka kl kc] 39) := ⟨_, rfl⟩
  have hb0 : Below w.heap.size w w0 := by rw [hw0]; exact ((Below.refl _ _).alloc (Nat.le_refl _) _).alloc (by simp) _
  have hs0 : w.heap.size + 2 ≤ w0.heap.size := by rw [hw0]; simp
  have z0 : w0.cell? ⟨w.heap.size, 0, none⟩ = some (.slice no nn nc) := by rw [hw0]; simp
  have z1 : w0.cell? ⟨w.heap.size, 1, none⟩ = some (.slice fo fn fc) := by rw [hw0]; simp
  have y0 : w0.cell? ⟨w.heap.size + 1, 0, none⟩ = some (.int .i64 12) := by rw [hw0]; simp
  have y1 : w0.cell? ⟨w.heap.size + 1, 1, none⟩ = some (.int .i64 nd.at_) := by rw [hw0]; simp
  have y2 : w0.cell? ⟨w.heap.size + 1, 2, none⟩ = some (.int .i64 nd.wh) := by rw [hw0]; simp
  have y3 : w0.cell? ⟨w.heap.size + 1, 3, none⟩ = some (.int .i64 nd.close) := by rw [hw0]; simp
  have y4 : w0.cell? ⟨w.heap.size + 1, 4, none⟩ = some (.int .i64 (d : Int)) := by rw [hw0]; simp
  have y5 : w0.cell? ⟨w.heap.size + 1, 5, none⟩ = some (.int .i64 nd.typ) := by rw [hw0]; simp
  have y6 : w0.cell? ⟨w.heap.size + 1, 6, none⟩ = some (.int .i64 (p : Int)) := by rw [hw0]; simp
  have y7 : w0.cell? ⟨w.heap.size + 1, 7, none⟩ = some (.int .i64 nd.val) := by rw [hw0]; simp
  have y8 : w0.cell? ⟨w.heap.size + 1, 8, none⟩ = some (.string s) := by rw [hw0]; simp
  have y9 : w0.cell? ⟨w.heap.size + 1, 9, none⟩ = some (.slice ka kl kc) := by rw [hw0]; simp
  have HW0 : Hid _ := hw0
  clear hw0
  go_enter Tryz.func24, Tryz.ntmps24
  go_wp2_with (first | (go_at_call 23; rw [← HW0.out]; refine (AR _ hb0).mono ?_; rintro e w9 ⟨rfl, hb9⟩; have hB9 : Below w.heap.size w w9 := hb0.trans (hb9.mono (by omega))) | (go_at_call 23; refine (AR _ hbw1).mono ?_; rintro e w9 ⟨rfl, hb9⟩; have hB9 : Below w.heap.size w w9 := hbw1.trans (hb9.mono hbw1.size)))
  go_ret
  exact ⟨ret_s (by rw [HP.out]; apply bs_of; simp [dt_app, bs_dt, HS.out, HD.out, HO.out]), hB9⟩
set_option maxRecDepth 10000 in
set_option maxHeartbeats 4000000 in
theorem ah25a (w : World) (no : Option Addr) (nc nn : Nat) (fo : Option Addr) (fc fn : Nat) (N : List Nd) (nd : Nd) (ka : Option Addr) (kc kl : Nat) (s : ByteArray) (i d p : Nat) (H : AhE w no nc nn N nd ka kc kl s i d p) (hk : nd.kind = 25) (o : Nat) (ho : o ≤ 100000000) (hi0 : i = 0) (R : Bool) (hR : R = ard N nd i) :
    Calls Tryz.prog 24 #[.agg #[.slice no nn nc, .slice fo fn fc], .agg #[.int .i64 25, .int .i64 nd.at_, .int .i64 nd.wh, .int .i64 nd.close, .int .i64 (d : Int), .int .i64 nd.typ, .int .i64 (p : Int), .int .i64 nd.val, .string s, .slice ka kl kc], .int .i64 i, .int .i64 o] w fun e w' => e = .returned (.string (bs (ptx o (pre nd i) ++ if R = true then [40] else []))) ∧ Below w.heap.size w w' := by
  have AR := H.ar fo fc fn 25 hk R hR
  have HP : Hid (ptx o (pre nd i) = nd.name ++ ([40] : List UInt8)) := by
    show _ = _
    simp [ptx, pre, hk, tp, np, hi0]
  have HS : Hid (s = bs nd.name) := H.es
  have hsz : s.size ≤ 64 := by rw [H.es, bs_size]; exact H.esl
  have HD : Hid (nd.decl = (d : Int)) := H.ed
  have HO : Hid (nd.op = (p : Int)) := H.ep
  have hRf : R = false := by rw [hR]; simp [ard, hk]
  subst hRf
  have hkl := H.ekl
  have hi := H.ei
  have hkb := H.ekb
  have q1 : ((i : Int) == 0) = true := by simp; omega
  clear hR H hk hkl hi0
  obtain ⟨w0, hw0⟩ : ∃ w0, w0 = (w.alloc (.cells #[.slice no nn nc, .slice fo fn fc] 27)).alloc (.cells #[.int .i64 25, .int .i64 nd.at_, .int .i64 nd.wh, .int .i64 nd.close, .int .i64 (d : Int), .int .i64 nd.typ, .int .i64 (p : Int), .int .i64 nd.val, .string s, .slice ka kl kc] 39) := ⟨_, rfl⟩
  have hb0 : Below w.heap.size w w0 := by rw [hw0]; exact ((Below.refl _ _).alloc (Nat.le_refl _) _).alloc (by simp) _
  have hs0 : w.heap.size + 2 ≤ w0.heap.size := by rw [hw0]; simp
  have z0 : w0.cell? ⟨w.heap.size, 0, none⟩ = some (.slice no nn nc) := by rw [hw0]; simp
  have z1 : w0.cell? ⟨w.heap.size, 1, none⟩ = some (.slice fo fn fc) := by rw [hw0]; simp
  have y0 : w0.cell? ⟨w.heap.size + 1, 0, none⟩ = some (.int .i64 25) := by rw [hw0]; simp
  have y1 : w0.cell? ⟨w.heap.size + 1, 1, none⟩ = some (.int .i64 nd.at_) := by rw [hw0]; simp
  have y2 : w0.cell? ⟨w.heap.size + 1, 2, none⟩ = some (.int .i64 nd.wh) := by rw [hw0]; simp
  have y3 : w0.cell? ⟨w.heap.size + 1, 3, none⟩ = some (.int .i64 nd.close) := by rw [hw0]; simp
  have y4 : w0.cell? ⟨w.heap.size + 1, 4, none⟩ = some (.int .i64 (d : Int)) := by rw [hw0]; simp
  have y5 : w0.cell? ⟨w.heap.size + 1, 5, none⟩ = some (.int .i64 nd.typ) := by rw [hw0]; simp
  have y6 : w0.cell? ⟨w.heap.size + 1, 6, none⟩ = some (.int .i64 (p : Int)) := by rw [hw0]; simp
  have y7 : w0.cell? ⟨w.heap.size + 1, 7, none⟩ = some (.int .i64 nd.val) := by rw [hw0]; simp
  have y8 : w0.cell? ⟨w.heap.size + 1, 8, none⟩ = some (.string s) := by rw [hw0]; simp
  have y9 : w0.cell? ⟨w.heap.size + 1, 9, none⟩ = some (.slice ka kl kc) := by rw [hw0]; simp
  have HW0 : Hid _ := hw0
  clear hw0
  go_enter Tryz.func24, Tryz.ntmps24
  go_wp2_with (first | (go_at_call 23; rw [← HW0.out]; refine (AR _ hb0).mono ?_; rintro e w9 ⟨rfl, hb9⟩; have hB9 : Below w.heap.size w w9 := hb0.trans (hb9.mono (by omega))) | (go_at_call 23; refine (AR _ hbw1).mono ?_; rintro e w9 ⟨rfl, hb9⟩; have hB9 : Below w.heap.size w w9 := hbw1.trans (hb9.mono hbw1.size)))
  go_ret
  exact ⟨ret_s (by rw [HP.out]; apply bs_of; simp [dt_app, bs_dt, HS.out, HD.out, HO.out]), hB9⟩
set_option maxRecDepth 10000 in
set_option maxHeartbeats 4000000 in
theorem ah25b (w : World) (no : Option Addr) (nc nn : Nat) (fo : Option Addr) (fc fn : Nat) (N : List Nd) (nd : Nd) (ka : Option Addr) (kc kl : Nat) (s : ByteArray) (i d p : Nat) (H : AhE w no nc nn N nd ka kc kl s i d p) (hk : nd.kind = 25) (o : Nat) (ho : o ≤ 100000000) (hi0 : ¬ i = 0) (R : Bool) (hR : R = ard N nd i) :
    Calls Tryz.prog 24 #[.agg #[.slice no nn nc, .slice fo fn fc], .agg #[.int .i64 25, .int .i64 nd.at_, .int .i64 nd.wh, .int .i64 nd.close, .int .i64 (d : Int), .int .i64 nd.typ, .int .i64 (p : Int), .int .i64 nd.val, .string s, .slice ka kl kc], .int .i64 i, .int .i64 o] w fun e w' => e = .returned (.string (bs (ptx o (pre nd i) ++ if R = true then [40] else []))) ∧ Below w.heap.size w w' := by
  have AR := H.ar fo fc fn 25 hk R hR
  have HP : Hid (ptx o (pre nd i) = ([44, 32] : List UInt8)) := by
    show _ = _
    simp [ptx, pre, hk, tp, np, hi0]
  have HS : Hid (s = bs nd.name) := H.es
  have hsz : s.size ≤ 64 := by rw [H.es, bs_size]; exact H.esl
  have HD : Hid (nd.decl = (d : Int)) := H.ed
  have HO : Hid (nd.op = (p : Int)) := H.ep
  have hRf : R = false := by rw [hR]; simp [ard, hk]
  subst hRf
  have hkl := H.ekl
  have hi := H.ei
  have hkb := H.ekb
  have q1 : ¬ (i : Int) = 0 := by omega
  clear hR H hk hkl hi0
  obtain ⟨w0, hw0⟩ : ∃ w0, w0 = (w.alloc (.cells #[.slice no nn nc, .slice fo fn fc] 27)).alloc (.cells #[.int .i64 25, .int .i64 nd.at_, .int .i64 nd.wh, .int .i64 nd.close, .int .i64 (d : Int), .int .i64 nd.typ, .int .i64 (p : Int), .int .i64 nd.val, .string s, .slice ka kl kc] 39) := ⟨_, rfl⟩
  have hb0 : Below w.heap.size w w0 := by rw [hw0]; exact ((Below.refl _ _).alloc (Nat.le_refl _) _).alloc (by simp) _
  have hs0 : w.heap.size + 2 ≤ w0.heap.size := by rw [hw0]; simp
  have z0 : w0.cell? ⟨w.heap.size, 0, none⟩ = some (.slice no nn nc) := by rw [hw0]; simp
  have z1 : w0.cell? ⟨w.heap.size, 1, none⟩ = some (.slice fo fn fc) := by rw [hw0]; simp
  have y0 : w0.cell? ⟨w.heap.size + 1, 0, none⟩ = some (.int .i64 25) := by rw [hw0]; simp
  have y1 : w0.cell? ⟨w.heap.size + 1, 1, none⟩ = some (.int .i64 nd.at_) := by rw [hw0]; simp
  have y2 : w0.cell? ⟨w.heap.size + 1, 2, none⟩ = some (.int .i64 nd.wh) := by rw [hw0]; simp
  have y3 : w0.cell? ⟨w.heap.size + 1, 3, none⟩ = some (.int .i64 nd.close) := by rw [hw0]; simp
  have y4 : w0.cell? ⟨w.heap.size + 1, 4, none⟩ = some (.int .i64 (d : Int)) := by rw [hw0]; simp
  have y5 : w0.cell? ⟨w.heap.size + 1, 5, none⟩ = some (.int .i64 nd.typ) := by rw [hw0]; simp
  have y6 : w0.cell? ⟨w.heap.size + 1, 6, none⟩ = some (.int .i64 (p : Int)) := by rw [hw0]; simp
  have y7 : w0.cell? ⟨w.heap.size + 1, 7, none⟩ = some (.int .i64 nd.val) := by rw [hw0]; simp
  have y8 : w0.cell? ⟨w.heap.size + 1, 8, none⟩ = some (.string s) := by rw [hw0]; simp
  have y9 : w0.cell? ⟨w.heap.size + 1, 9, none⟩ = some (.slice ka kl kc) := by rw [hw0]; simp
  have HW0 : Hid _ := hw0
  clear hw0
  go_enter Tryz.func24, Tryz.ntmps24
  go_wp2_with (first | (go_at_call 23; rw [← HW0.out]; refine (AR _ hb0).mono ?_; rintro e w9 ⟨rfl, hb9⟩; have hB9 : Below w.heap.size w w9 := hb0.trans (hb9.mono (by omega))) | (go_at_call 23; refine (AR _ hbw1).mono ?_; rintro e w9 ⟨rfl, hb9⟩; have hB9 : Below w.heap.size w w9 := hbw1.trans (hb9.mono hbw1.size)))
  go_ret
  exact ⟨ret_s (by rw [HP.out]; apply bs_of; simp [dt_app, bs_dt, HS.out, HD.out, HO.out]), hB9⟩
set_option maxRecDepth 10000 in
set_option maxHeartbeats 4000000 in
theorem ah27 (w : World) (no : Option Addr) (nc nn : Nat) (fo : Option Addr) (fc fn : Nat) (N : List Nd) (nd : Nd) (ka : Option Addr) (kc kl : Nat) (s : ByteArray) (i d p : Nat) (H : AhE w no nc nn N nd ka kc kl s i d p) (hk : nd.kind = 27) (o : Nat) (ho : o ≤ 100000000) (R : Bool) (hR : R = ard N nd i) :
    Calls Tryz.prog 24 #[.agg #[.slice no nn nc, .slice fo fn fc], .agg #[.int .i64 27, .int .i64 nd.at_, .int .i64 nd.wh, .int .i64 nd.close, .int .i64 (d : Int), .int .i64 nd.typ, .int .i64 (p : Int), .int .i64 nd.val, .string s, .slice ka kl kc], .int .i64 i, .int .i64 o] w fun e w' => e = .returned (.string (bs (ptx o (pre nd i) ++ if R = true then [40] else []))) ∧ Below w.heap.size w w' := by
  have AR := H.ar fo fc fn 27 hk R hR
  have HP : Hid (ptx o (pre nd i) = ([108, 101, 110, 40] : List UInt8)) := by
    show _ = _
    simp [ptx, pre, hk, tp, np]
  have HS : Hid (s = bs nd.name) := H.es
  have hsz : s.size ≤ 64 := by rw [H.es, bs_size]; exact H.esl
  have HD : Hid (nd.decl = (d : Int)) := H.ed
  have HO : Hid (nd.op = (p : Int)) := H.ep
  have hRf : R = false := by rw [hR]; simp [ard, hk]
  subst hRf
  have hkl := H.ekl
  have hi := H.ei
  have hkb := H.ekb
  clear hR H hk hkl
  obtain ⟨w0, hw0⟩ : ∃ w0, w0 = (w.alloc (.cells #[.slice no nn nc, .slice fo fn fc] 27)).alloc (.cells #[.int .i64 27, .int .i64 nd.at_, .int .i64 nd.wh, .int .i64 nd.close, .int .i64 (d : Int), .int .i64 nd.typ, .int .i64 (p : Int), .int .i64 nd.val, .string s, .slice ka kl kc] 39) := ⟨_, rfl⟩
  have hb0 : Below w.heap.size w w0 := by rw [hw0]; exact ((Below.refl _ _).alloc (Nat.le_refl _) _).alloc (by simp) _
  have hs0 : w.heap.size + 2 ≤ w0.heap.size := by rw [hw0]; simp
  have z0 : w0.cell? ⟨w.heap.size, 0, none⟩ = some (.slice no nn nc) := by rw [hw0]; simp
  have z1 : w0.cell? ⟨w.heap.size, 1, none⟩ = some (.slice fo fn fc) := by rw [hw0]; simp
  have y0 : w0.cell? ⟨w.heap.size + 1, 0, none⟩ = some (.int .i64 27) := by rw [hw0]; simp
  have y1 : w0.cell? ⟨w.heap.size + 1, 1, none⟩ = some (.int .i64 nd.at_) := by rw [hw0]; simp
  have y2 : w0.cell? ⟨w.heap.size + 1, 2, none⟩ = some (.int .i64 nd.wh) := by rw [hw0]; simp
  have y3 : w0.cell? ⟨w.heap.size + 1, 3, none⟩ = some (.int .i64 nd.close) := by rw [hw0]; simp
  have y4 : w0.cell? ⟨w.heap.size + 1, 4, none⟩ = some (.int .i64 (d : Int)) := by rw [hw0]; simp
  have y5 : w0.cell? ⟨w.heap.size + 1, 5, none⟩ = some (.int .i64 nd.typ) := by rw [hw0]; simp
  have y6 : w0.cell? ⟨w.heap.size + 1, 6, none⟩ = some (.int .i64 (p : Int)) := by rw [hw0]; simp
  have y7 : w0.cell? ⟨w.heap.size + 1, 7, none⟩ = some (.int .i64 nd.val) := by rw [hw0]; simp
  have y8 : w0.cell? ⟨w.heap.size + 1, 8, none⟩ = some (.string s) := by rw [hw0]; simp
  have y9 : w0.cell? ⟨w.heap.size + 1, 9, none⟩ = some (.slice ka kl kc) := by rw [hw0]; simp
  have HW0 : Hid _ := hw0
  clear hw0
  go_enter Tryz.func24, Tryz.ntmps24
  go_wp2_with (first | (go_at_call 23; rw [← HW0.out]; refine (AR _ hb0).mono ?_; rintro e w9 ⟨rfl, hb9⟩; have hB9 : Below w.heap.size w w9 := hb0.trans (hb9.mono (by omega))) | (go_at_call 23; refine (AR _ hbw1).mono ?_; rintro e w9 ⟨rfl, hb9⟩; have hB9 : Below w.heap.size w w9 := hbw1.trans (hb9.mono hbw1.size)))
  go_ret
  exact ⟨ret_s (by rw [HP.out]; apply bs_of; simp [dt_app, bs_dt, HS.out, HD.out, HO.out]), hB9⟩
set_option maxRecDepth 10000 in
set_option maxHeartbeats 4000000 in
theorem ah28 (w : World) (no : Option Addr) (nc nn : Nat) (fo : Option Addr) (fc fn : Nat) (N : List Nd) (nd : Nd) (ka : Option Addr) (kc kl : Nat) (s : ByteArray) (i d p : Nat) (H : AhE w no nc nn N nd ka kc kl s i d p) (hk : nd.kind = 28) (o : Nat) (ho : o ≤ 100000000) (R : Bool) (hR : R = ard N nd i) :
    Calls Tryz.prog 24 #[.agg #[.slice no nn nc, .slice fo fn fc], .agg #[.int .i64 28, .int .i64 nd.at_, .int .i64 nd.wh, .int .i64 nd.close, .int .i64 (d : Int), .int .i64 nd.typ, .int .i64 (p : Int), .int .i64 nd.val, .string s, .slice ka kl kc], .int .i64 i, .int .i64 o] w fun e w' => e = .returned (.string (bs (ptx o (pre nd i) ++ if R = true then [40] else []))) ∧ Below w.heap.size w w' := by
  have AR := H.ar fo fc fn 28 hk R hR
  have HP : Hid (ptx o (pre nd i) = ([109, 97, 107, 101, 40, 91, 93, 105, 110, 116, 44, 32] : List UInt8)) := by
    show _ = _
    simp [ptx, pre, hk, tp, np]
  have HS : Hid (s = bs nd.name) := H.es
  have hsz : s.size ≤ 64 := by rw [H.es, bs_size]; exact H.esl
  have HD : Hid (nd.decl = (d : Int)) := H.ed
  have HO : Hid (nd.op = (p : Int)) := H.ep
  have hRf : R = false := by rw [hR]; simp [ard, hk]
  subst hRf
  have hkl := H.ekl
  have hi := H.ei
  have hkb := H.ekb
  clear hR H hk hkl
  obtain ⟨w0, hw0⟩ : ∃ w0, w0 = (w.alloc (.cells #[.slice no nn nc, .slice fo fn fc] 27)).alloc (.cells #[.int .i64 28, .int .i64 nd.at_, .int .i64 nd.wh, .int .i64 nd.close, .int .i64 (d : Int), .int .i64 nd.typ, .int .i64 (p : Int), .int .i64 nd.val, .string s, .slice ka kl kc] 39) := ⟨_, rfl⟩
  have hb0 : Below w.heap.size w w0 := by rw [hw0]; exact ((Below.refl _ _).alloc (Nat.le_refl _) _).alloc (by simp) _
  have hs0 : w.heap.size + 2 ≤ w0.heap.size := by rw [hw0]; simp
  have z0 : w0.cell? ⟨w.heap.size, 0, none⟩ = some (.slice no nn nc) := by rw [hw0]; simp
  have z1 : w0.cell? ⟨w.heap.size, 1, none⟩ = some (.slice fo fn fc) := by rw [hw0]; simp
  have y0 : w0.cell? ⟨w.heap.size + 1, 0, none⟩ = some (.int .i64 28) := by rw [hw0]; simp
  have y1 : w0.cell? ⟨w.heap.size + 1, 1, none⟩ = some (.int .i64 nd.at_) := by rw [hw0]; simp
  have y2 : w0.cell? ⟨w.heap.size + 1, 2, none⟩ = some (.int .i64 nd.wh) := by rw [hw0]; simp
  have y3 : w0.cell? ⟨w.heap.size + 1, 3, none⟩ = some (.int .i64 nd.close) := by rw [hw0]; simp
  have y4 : w0.cell? ⟨w.heap.size + 1, 4, none⟩ = some (.int .i64 (d : Int)) := by rw [hw0]; simp
  have y5 : w0.cell? ⟨w.heap.size + 1, 5, none⟩ = some (.int .i64 nd.typ) := by rw [hw0]; simp
  have y6 : w0.cell? ⟨w.heap.size + 1, 6, none⟩ = some (.int .i64 (p : Int)) := by rw [hw0]; simp
  have y7 : w0.cell? ⟨w.heap.size + 1, 7, none⟩ = some (.int .i64 nd.val) := by rw [hw0]; simp
  have y8 : w0.cell? ⟨w.heap.size + 1, 8, none⟩ = some (.string s) := by rw [hw0]; simp
  have y9 : w0.cell? ⟨w.heap.size + 1, 9, none⟩ = some (.slice ka kl kc) := by rw [hw0]; simp
  have HW0 : Hid _ := hw0
  clear hw0
  go_enter Tryz.func24, Tryz.ntmps24
  go_wp2_with (first | (go_at_call 23; rw [← HW0.out]; refine (AR _ hb0).mono ?_; rintro e w9 ⟨rfl, hb9⟩; have hB9 : Below w.heap.size w w9 := hb0.trans (hb9.mono (by omega))) | (go_at_call 23; refine (AR _ hbw1).mono ?_; rintro e w9 ⟨rfl, hb9⟩; have hB9 : Below w.heap.size w w9 := hbw1.trans (hb9.mono hbw1.size)))
  go_ret
  exact ⟨ret_s (by rw [HP.out]; apply bs_of; simp [dt_app, bs_dt, HS.out, HD.out, HO.out]), hB9⟩
set_option maxRecDepth 10000 in
set_option maxHeartbeats 4000000 in
theorem ah7 (w : World) (no : Option Addr) (nc nn : Nat) (fo : Option Addr) (fc fn : Nat) (N : List Nd) (nd : Nd) (ka : Option Addr) (kc kl : Nat) (s : ByteArray) (i d p : Nat) (H : AhE w no nc nn N nd ka kc kl s i d p) (hk : nd.kind = 7) (o : Nat) (ho : o ≤ 100000000) (R : Bool) (hR : R = ard N nd i) :
    Calls Tryz.prog 24 #[.agg #[.slice no nn nc, .slice fo fn fc], .agg #[.int .i64 7, .int .i64 nd.at_, .int .i64 nd.wh, .int .i64 nd.close, .int .i64 (d : Int), .int .i64 nd.typ, .int .i64 (p : Int), .int .i64 nd.val, .string s, .slice ka kl kc], .int .i64 i, .int .i64 o] w fun e w' => e = .returned (.string (bs (ptx o (pre nd i) ++ if R = true then [40] else []))) ∧ Below w.heap.size w w' := by
  have AR := H.ar fo fc fn 7 hk R hR
  have HP : Hid (ptx o (pre nd i) = ([] : List UInt8)) := by
    show _ = _
    simp [ptx, pre, hk, tp, np]
  have HS : Hid (s = bs nd.name) := H.es
  have hsz : s.size ≤ 64 := by rw [H.es, bs_size]; exact H.esl
  have HD : Hid (nd.decl = (d : Int)) := H.ed
  have HO : Hid (nd.op = (p : Int)) := H.ep
  have hRf : R = false := by rw [hR]; simp [ard, hk]
  subst hRf
  have hkl := H.ekl
  have hi := H.ei
  have hkb := H.ekb
  clear hR H hk hkl
  obtain ⟨w0, hw0⟩ : ∃ w0, w0 = (w.alloc (.cells #[.slice no nn nc, .slice fo fn fc] 27)).alloc (.cells #[.int .i64 7, .int .i64 nd.at_, .int .i64 nd.wh, .int .i64 nd.close, .int .i64 (d : Int), .int .i64 nd.typ, .int .i64 (p : Int), .int .i64 nd.val, .string s, .slice ka kl kc] 39) := ⟨_, rfl⟩
  have hb0 : Below w.heap.size w w0 := by rw [hw0]; exact ((Below.refl _ _).alloc (Nat.le_refl _) _).alloc (by simp) _
  have hs0 : w.heap.size + 2 ≤ w0.heap.size := by rw [hw0]; simp
  have z0 : w0.cell? ⟨w.heap.size, 0, none⟩ = some (.slice no nn nc) := by rw [hw0]; simp
  have z1 : w0.cell? ⟨w.heap.size, 1, none⟩ = some (.slice fo fn fc) := by rw [hw0]; simp
  have y0 : w0.cell? ⟨w.heap.size + 1, 0, none⟩ = some (.int .i64 7) := by rw [hw0]; simp
  have y1 : w0.cell? ⟨w.heap.size + 1, 1, none⟩ = some (.int .i64 nd.at_) := by rw [hw0]; simp
  have y2 : w0.cell? ⟨w.heap.size + 1, 2, none⟩ = some (.int .i64 nd.wh) := by rw [hw0]; simp
  have y3 : w0.cell? ⟨w.heap.size + 1, 3, none⟩ = some (.int .i64 nd.close) := by rw [hw0]; simp
  have y4 : w0.cell? ⟨w.heap.size + 1, 4, none⟩ = some (.int .i64 (d : Int)) := by rw [hw0]; simp
  have y5 : w0.cell? ⟨w.heap.size + 1, 5, none⟩ = some (.int .i64 nd.typ) := by rw [hw0]; simp
  have y6 : w0.cell? ⟨w.heap.size + 1, 6, none⟩ = some (.int .i64 (p : Int)) := by rw [hw0]; simp
  have y7 : w0.cell? ⟨w.heap.size + 1, 7, none⟩ = some (.int .i64 nd.val) := by rw [hw0]; simp
  have y8 : w0.cell? ⟨w.heap.size + 1, 8, none⟩ = some (.string s) := by rw [hw0]; simp
  have y9 : w0.cell? ⟨w.heap.size + 1, 9, none⟩ = some (.slice ka kl kc) := by rw [hw0]; simp
  have HW0 : Hid _ := hw0
  clear hw0
  go_enter Tryz.func24, Tryz.ntmps24
  go_wp2_with (first | (go_at_call 23; rw [← HW0.out]; refine (AR _ hb0).mono ?_; rintro e w9 ⟨rfl, hb9⟩; have hB9 : Below w.heap.size w w9 := hb0.trans (hb9.mono (by omega))) | (go_at_call 23; refine (AR _ hbw1).mono ?_; rintro e w9 ⟨rfl, hb9⟩; have hB9 : Below w.heap.size w w9 := hbw1.trans (hb9.mono hbw1.size)))
  go_ret
  exact ⟨ret_s (by rw [HP.out]; apply bs_of; simp [dt_app, bs_dt, HS.out, HD.out, HO.out]), hB9⟩
set_option maxRecDepth 10000 in
set_option maxHeartbeats 4000000 in
theorem ah29a (w : World) (no : Option Addr) (nc nn : Nat) (fo : Option Addr) (fc fn : Nat) (N : List Nd) (nd : Nd) (ka : Option Addr) (kc kl : Nat) (s : ByteArray) (i d p : Nat) (H : AhE w no nc nn N nd ka kc kl s i d p) (hk : nd.kind = 29) (o : Nat) (ho : o ≤ 100000000) (hi0 : i = 0) (R : Bool) (hR : R = ard N nd i) :
    Calls Tryz.prog 24 #[.agg #[.slice no nn nc, .slice fo fn fc], .agg #[.int .i64 29, .int .i64 nd.at_, .int .i64 nd.wh, .int .i64 nd.close, .int .i64 (d : Int), .int .i64 nd.typ, .int .i64 (p : Int), .int .i64 nd.val, .string s, .slice ka kl kc], .int .i64 i, .int .i64 o] w fun e w' => e = .returned (.string (bs (ptx o (pre nd i) ++ if R = true then [40] else []))) ∧ Below w.heap.size w w' := by
  have AR := H.ar fo fc fn 29 hk R hR
  have HP : Hid (ptx o (pre nd i) = ([] : List UInt8)) := by
    show _ = _
    simp [ptx, pre, hk, tp, np, hi0]
  have HS : Hid (s = bs nd.name) := H.es
  have hsz : s.size ≤ 64 := by rw [H.es, bs_size]; exact H.esl
  have HD : Hid (nd.decl = (d : Int)) := H.ed
  have HO : Hid (nd.op = (p : Int)) := H.ep
  have hkl := H.ekl
  have hi := H.ei
  have hkb := H.ekb
  have q1 : ¬ (i : Int) = 1 := by omega
  clear hR H hk hkl hi0
  obtain ⟨w0, hw0⟩ : ∃ w0, w0 = (w.alloc (.cells #[.slice no nn nc, .slice fo fn fc] 27)).alloc (.cells #[.int .i64 29, .int .i64 nd.at_, .int .i64 nd.wh, .int .i64 nd.close, .int .i64 (d : Int), .int .i64 nd.typ, .int .i64 (p : Int), .int .i64 nd.val, .string s, .slice ka kl kc] 39) := ⟨_, rfl⟩
  have hb0 : Below w.heap.size w w0 := by rw [hw0]; exact ((Below.refl _ _).alloc (Nat.le_refl _) _).alloc (by simp) _
  have hs0 : w.heap.size + 2 ≤ w0.heap.size := by rw [hw0]; simp
  have z0 : w0.cell? ⟨w.heap.size, 0, none⟩ = some (.slice no nn nc) := by rw [hw0]; simp
  have z1 : w0.cell? ⟨w.heap.size, 1, none⟩ = some (.slice fo fn fc) := by rw [hw0]; simp
  have y0 : w0.cell? ⟨w.heap.size + 1, 0, none⟩ = some (.int .i64 29) := by rw [hw0]; simp
  have y1 : w0.cell? ⟨w.heap.size + 1, 1, none⟩ = some (.int .i64 nd.at_) := by rw [hw0]; simp
  have y2 : w0.cell? ⟨w.heap.size + 1, 2, none⟩ = some (.int .i64 nd.wh) := by rw [hw0]; simp
  have y3 : w0.cell? ⟨w.heap.size + 1, 3, none⟩ = some (.int .i64 nd.close) := by rw [hw0]; simp
  have y4 : w0.cell? ⟨w.heap.size + 1, 4, none⟩ = some (.int .i64 (d : Int)) := by rw [hw0]; simp
  have y5 : w0.cell? ⟨w.heap.size + 1, 5, none⟩ = some (.int .i64 nd.typ) := by rw [hw0]; simp
  have y6 : w0.cell? ⟨w.heap.size + 1, 6, none⟩ = some (.int .i64 (p : Int)) := by rw [hw0]; simp
  have y7 : w0.cell? ⟨w.heap.size + 1, 7, none⟩ = some (.int .i64 nd.val) := by rw [hw0]; simp
  have y8 : w0.cell? ⟨w.heap.size + 1, 8, none⟩ = some (.string s) := by rw [hw0]; simp
  have y9 : w0.cell? ⟨w.heap.size + 1, 9, none⟩ = some (.slice ka kl kc) := by rw [hw0]; simp
  have HW0 : Hid _ := hw0
  clear hw0
  cases R
  all_goals
    go_enter Tryz.func24, Tryz.ntmps24
    go_wp2_with (first | (go_at_call 23; rw [← HW0.out]; refine (AR _ hb0).mono ?_; rintro e w9 ⟨rfl, hb9⟩; have hB9 : Below w.heap.size w w9 := hb0.trans (hb9.mono (by omega))) | (go_at_call 23; refine (AR _ hbw1).mono ?_; rintro e w9 ⟨rfl, hb9⟩; have hB9 : Below w.heap.size w w9 := hbw1.trans (hb9.mono hbw1.size)))
    go_ret
    exact ⟨ret_s (by rw [HP.out]; apply bs_of; simp [dt_app, bs_dt, HS.out, HD.out, HO.out]), hB9⟩
set_option maxRecDepth 10000 in
set_option maxHeartbeats 4000000 in
theorem ah29b (w : World) (no : Option Addr) (nc nn : Nat) (fo : Option Addr) (fc fn : Nat) (N : List Nd) (nd : Nd) (ka : Option Addr) (kc kl : Nat) (s : ByteArray) (i d p : Nat) (H : AhE w no nc nn N nd ka kc kl s i d p) (hk : nd.kind = 29) (o : Nat) (ho : o ≤ 100000000) (hi0 : i = 1) (R : Bool) (hR : R = ard N nd i) :
    Calls Tryz.prog 24 #[.agg #[.slice no nn nc, .slice fo fn fc], .agg #[.int .i64 29, .int .i64 nd.at_, .int .i64 nd.wh, .int .i64 nd.close, .int .i64 (d : Int), .int .i64 nd.typ, .int .i64 (p : Int), .int .i64 nd.val, .string s, .slice ka kl kc], .int .i64 i, .int .i64 o] w fun e w' => e = .returned (.string (bs (ptx o (pre nd i) ++ if R = true then [40] else []))) ∧ Below w.heap.size w w' := by
  have AR := H.ar fo fc fn 29 hk R hR
  have HP : Hid (ptx o (pre nd i) = ([91] : List UInt8)) := by
    show _ = _
    simp [ptx, pre, hk, tp, np, hi0]
  have HS : Hid (s = bs nd.name) := H.es
  have hsz : s.size ≤ 64 := by rw [H.es, bs_size]; exact H.esl
  have HD : Hid (nd.decl = (d : Int)) := H.ed
  have HO : Hid (nd.op = (p : Int)) := H.ep
  have hkl := H.ekl
  have hi := H.ei
  have hkb := H.ekb
  have q1 : ((i : Int) == 1) = true := by simp; omega
  clear hR H hk hkl hi0
  obtain ⟨w0, hw0⟩ : ∃ w0, w0 = (w.alloc (.cells #[.slice no nn nc, .slice fo fn fc] 27)).alloc (.cells #[.int .i64 29, .int .i64 nd.at_, .int .i64 nd.wh, .int .i64 nd.close, .int .i64 (d : Int), .int .i64 nd.typ, .int .i64 (p : Int), .int .i64 nd.val, .string s, .slice ka kl kc] 39) := ⟨_, rfl⟩
  have hb0 : Below w.heap.size w w0 := by rw [hw0]; exact ((Below.refl _ _).alloc (Nat.le_refl _) _).alloc (by simp) _
  have hs0 : w.heap.size + 2 ≤ w0.heap.size := by rw [hw0]; simp
  have z0 : w0.cell? ⟨w.heap.size, 0, none⟩ = some (.slice no nn nc) := by rw [hw0]; simp
  have z1 : w0.cell? ⟨w.heap.size, 1, none⟩ = some (.slice fo fn fc) := by rw [hw0]; simp
  have y0 : w0.cell? ⟨w.heap.size + 1, 0, none⟩ = some (.int .i64 29) := by rw [hw0]; simp
  have y1 : w0.cell? ⟨w.heap.size + 1, 1, none⟩ = some (.int .i64 nd.at_) := by rw [hw0]; simp
  have y2 : w0.cell? ⟨w.heap.size + 1, 2, none⟩ = some (.int .i64 nd.wh) := by rw [hw0]; simp
  have y3 : w0.cell? ⟨w.heap.size + 1, 3, none⟩ = some (.int .i64 nd.close) := by rw [hw0]; simp
  have y4 : w0.cell? ⟨w.heap.size + 1, 4, none⟩ = some (.int .i64 (d : Int)) := by rw [hw0]; simp
  have y5 : w0.cell? ⟨w.heap.size + 1, 5, none⟩ = some (.int .i64 nd.typ) := by rw [hw0]; simp
  have y6 : w0.cell? ⟨w.heap.size + 1, 6, none⟩ = some (.int .i64 (p : Int)) := by rw [hw0]; simp
  have y7 : w0.cell? ⟨w.heap.size + 1, 7, none⟩ = some (.int .i64 nd.val) := by rw [hw0]; simp
  have y8 : w0.cell? ⟨w.heap.size + 1, 8, none⟩ = some (.string s) := by rw [hw0]; simp
  have y9 : w0.cell? ⟨w.heap.size + 1, 9, none⟩ = some (.slice ka kl kc) := by rw [hw0]; simp
  have HW0 : Hid _ := hw0
  clear hw0
  cases R
  all_goals
    go_enter Tryz.func24, Tryz.ntmps24
    go_wp2_with (first | (go_at_call 23; rw [← HW0.out]; refine (AR _ hb0).mono ?_; rintro e w9 ⟨rfl, hb9⟩; have hB9 : Below w.heap.size w w9 := hb0.trans (hb9.mono (by omega))) | (go_at_call 23; refine (AR _ hbw1).mono ?_; rintro e w9 ⟨rfl, hb9⟩; have hB9 : Below w.heap.size w w9 := hbw1.trans (hb9.mono hbw1.size)))
    go_ret
    exact ⟨ret_s (by rw [HP.out]; apply bs_of; simp [dt_app, bs_dt, HS.out, HD.out, HO.out]), hB9⟩
set_option maxRecDepth 10000 in
set_option maxHeartbeats 4000000 in
theorem ah30 (w : World) (no : Option Addr) (nc nn : Nat) (fo : Option Addr) (fc fn : Nat) (N : List Nd) (nd : Nd) (ka : Option Addr) (kc kl : Nat) (s : ByteArray) (i d p : Nat) (H : AhE w no nc nn N nd ka kc kl s i d p) (hk : nd.kind = 30) (o : Nat) (ho : o ≤ 100000000) (R : Bool) (hR : R = ard N nd i) :
    Calls Tryz.prog 24 #[.agg #[.slice no nn nc, .slice fo fn fc], .agg #[.int .i64 30, .int .i64 nd.at_, .int .i64 nd.wh, .int .i64 nd.close, .int .i64 (d : Int), .int .i64 nd.typ, .int .i64 (p : Int), .int .i64 nd.val, .string s, .slice ka kl kc], .int .i64 i, .int .i64 o] w fun e w' => e = .returned (.string (bs (ptx o (pre nd i) ++ if R = true then [40] else []))) ∧ Below w.heap.size w w' := by
  have AR := H.ar fo fc fn 30 hk R hR
  have HP : Hid (ptx o (pre nd i) = opT (p : Int)) := by
    show _ = _
    simp [ptx, pre, hk, tp, np, H.ep]
  have HS : Hid (s = bs nd.name) := H.es
  have hsz : s.size ≤ 64 := by rw [H.es, bs_size]; exact H.esl
  have HD : Hid (nd.decl = (d : Int)) := H.ed
  have HO : Hid (nd.op = (p : Int)) := H.ep
  have SGN := fun w => rSign_any w p H.ep23
  have hul := opT_len p H.ep23
  have hkl := H.ekl
  have hi := H.ei
  have hkb := H.ekb
  clear hR H hk hkl
  obtain ⟨u, hu⟩ : ∃ u, u = bs (opT (p : Int)) := ⟨_, rfl⟩
  simp only [← hu] at hul SGN
  have HU : Hid (u = bs (opT (p : Int))) := hu
  clear hu
  obtain ⟨w0, hw0⟩ : ∃ w0, w0 = (w.alloc (.cells #[.slice no nn nc, .slice fo fn fc] 27)).alloc (.cells #[.int .i64 30, .int .i64 nd.at_, .int .i64 nd.wh, .int .i64 nd.close, .int .i64 (d : Int), .int .i64 nd.typ, .int .i64 (p : Int), .int .i64 nd.val, .string s, .slice ka kl kc] 39) := ⟨_, rfl⟩
  have hb0 : Below w.heap.size w w0 := by rw [hw0]; exact ((Below.refl _ _).alloc (Nat.le_refl _) _).alloc (by simp) _
  have hs0 : w.heap.size + 2 ≤ w0.heap.size := by rw [hw0]; simp
  have z0 : w0.cell? ⟨w.heap.size, 0, none⟩ = some (.slice no nn nc) := by rw [hw0]; simp
  have z1 : w0.cell? ⟨w.heap.size, 1, none⟩ = some (.slice fo fn fc) := by rw [hw0]; simp
  have y0 : w0.cell? ⟨w.heap.size + 1, 0, none⟩ = some (.int .i64 30) := by rw [hw0]; simp
  have y1 : w0.cell? ⟨w.heap.size + 1, 1, none⟩ = some (.int .i64 nd.at_) := by rw [hw0]; simp
  have y2 : w0.cell? ⟨w.heap.size + 1, 2, none⟩ = some (.int .i64 nd.wh) := by rw [hw0]; simp
  have y3 : w0.cell? ⟨w.heap.size + 1, 3, none⟩ = some (.int .i64 nd.close) := by rw [hw0]; simp
  have y4 : w0.cell? ⟨w.heap.size + 1, 4, none⟩ = some (.int .i64 (d : Int)) := by rw [hw0]; simp
  have y5 : w0.cell? ⟨w.heap.size + 1, 5, none⟩ = some (.int .i64 nd.typ) := by rw [hw0]; simp
  have y6 : w0.cell? ⟨w.heap.size + 1, 6, none⟩ = some (.int .i64 (p : Int)) := by rw [hw0]; simp
  have y7 : w0.cell? ⟨w.heap.size + 1, 7, none⟩ = some (.int .i64 nd.val) := by rw [hw0]; simp
  have y8 : w0.cell? ⟨w.heap.size + 1, 8, none⟩ = some (.string s) := by rw [hw0]; simp
  have y9 : w0.cell? ⟨w.heap.size + 1, 9, none⟩ = some (.slice ka kl kc) := by rw [hw0]; simp
  have HW0 : Hid _ := hw0
  clear hw0
  cases R
  all_goals
    go_enter Tryz.func24, Tryz.ntmps24
    go_wp2_with (first | (go_at_call 41; rw [← HW0.out]; refine (SGN _).mono ?_; rintro e w1 ⟨rfl, hb1⟩; have hs1 := hb1.size; have hbw1 : Below w.heap.size w w1 := hb0.trans (hb1.mono (by omega)); have a0 := cell_below hb1 (by omega) z0; have a1 := cell_below hb1 (by omega) z1; have b0 := cell_below hb1 (by omega) y0; have b1 := cell_below hb1 (by omega) y1; have b2 := cell_below hb1 (by omega) y2; have b3 := cell_below hb1 (by omega) y3; have b4 := cell_below hb1 (by omega) y4; have b5 := cell_below hb1 (by omega) y5; have b6 := cell_below hb1 (by omega) y6; have b7 := cell_below hb1 (by omega) y7; have b8 := cell_below hb1 (by omega) y8; have b9 := cell_below hb1 (by omega) y9; clear z0 z1 y0 y1 y2 y3 y4 y5 y6 y7 y8 y9) | (go_at_call 23; rw [← HW0.out]; refine (AR _ hb0).mono ?_; rintro e w9 ⟨rfl, hb9⟩; have hB9 : Below w.heap.size w w9 := hb0.trans (hb9.mono (by omega))) | (go_at_call 23; refine (AR _ hbw1).mono ?_; rintro e w9 ⟨rfl, hb9⟩; have hB9 : Below w.heap.size w w9 := hbw1.trans (hb9.mono hbw1.size)))
    go_ret
    exact ⟨ret_s (by rw [HP.out]; apply bs_of; simp [dt_app, bs_dt, HS.out, HU.out, HD.out, HO.out]), hB9⟩
set_option maxRecDepth 10000 in
set_option maxHeartbeats 4000000 in
theorem ah31a (w : World) (no : Option Addr) (nc nn : Nat) (fo : Option Addr) (fc fn : Nat) (N : List Nd) (nd : Nd) (ka : Option Addr) (kc kl : Nat) (s : ByteArray) (i d p : Nat) (H : AhE w no nc nn N nd ka kc kl s i d p) (hk : nd.kind = 31) (o : Nat) (ho : o ≤ 100000000) (hi0 : i = 0) (R : Bool) (hR : R = ard N nd i) :
    Calls Tryz.prog 24 #[.agg #[.slice no nn nc, .slice fo fn fc], .agg #[.int .i64 31, .int .i64 nd.at_, .int .i64 nd.wh, .int .i64 nd.close, .int .i64 (d : Int), .int .i64 nd.typ, .int .i64 (p : Int), .int .i64 nd.val, .string s, .slice ka kl kc], .int .i64 i, .int .i64 o] w fun e w' => e = .returned (.string (bs (ptx o (pre nd i) ++ if R = true then [40] else []))) ∧ Below w.heap.size w w' := by
  have AR := H.ar fo fc fn 31 hk R hR
  have HP : Hid (ptx o (pre nd i) = ([] : List UInt8)) := by
    show _ = _
    simp [ptx, pre, hk, tp, np, hi0]
  have HS : Hid (s = bs nd.name) := H.es
  have hsz : s.size ≤ 64 := by rw [H.es, bs_size]; exact H.esl
  have HD : Hid (nd.decl = (d : Int)) := H.ed
  have HO : Hid (nd.op = (p : Int)) := H.ep
  have hkl := H.ekl
  have hi := H.ei
  have hkb := H.ekb
  have q1 : ¬ (i : Int) = 1 := by omega
  clear hR H hk hkl hi0
  obtain ⟨w0, hw0⟩ : ∃ w0, w0 = (w.alloc (.cells #[.slice no nn nc, .slice fo fn fc] 27)).alloc (.cells #[.int .i64 31, .int .i64 nd.at_, .int .i64 nd.wh, .int .i64 nd.close, .int .i64 (d : Int), .int .i64 nd.typ, .int .i64 (p : Int), .int .i64 nd.val, .string s, .slice ka kl kc] 39) := ⟨_, rfl⟩
  have hb0 : Below w.heap.size w w0 := by rw [hw0]; exact ((Below.refl _ _).alloc (Nat.le_refl _) _).alloc (by simp) _
  have hs0 : w.heap.size + 2 ≤ w0.heap.size := by rw [hw0]; simp
  have z0 : w0.cell? ⟨w.heap.size, 0, none⟩ = some (.slice no nn nc) := by rw [hw0]; simp
  have z1 : w0.cell? ⟨w.heap.size, 1, none⟩ = some (.slice fo fn fc) := by rw [hw0]; simp
  have y0 : w0.cell? ⟨w.heap.size + 1, 0, none⟩ = some (.int .i64 31) := by rw [hw0]; simp
  have y1 : w0.cell? ⟨w.heap.size + 1, 1, none⟩ = some (.int .i64 nd.at_) := by rw [hw0]; simp
  have y2 : w0.cell? ⟨w.heap.size + 1, 2, none⟩ = some (.int .i64 nd.wh) := by rw [hw0]; simp
  have y3 : w0.cell? ⟨w.heap.size + 1, 3, none⟩ = some (.int .i64 nd.close) := by rw [hw0]; simp
  have y4 : w0.cell? ⟨w.heap.size + 1, 4, none⟩ = some (.int .i64 (d : Int)) := by rw [hw0]; simp
  have y5 : w0.cell? ⟨w.heap.size + 1, 5, none⟩ = some (.int .i64 nd.typ) := by rw [hw0]; simp
  have y6 : w0.cell? ⟨w.heap.size + 1, 6, none⟩ = some (.int .i64 (p : Int)) := by rw [hw0]; simp
  have y7 : w0.cell? ⟨w.heap.size + 1, 7, none⟩ = some (.int .i64 nd.val) := by rw [hw0]; simp
  have y8 : w0.cell? ⟨w.heap.size + 1, 8, none⟩ = some (.string s) := by rw [hw0]; simp
  have y9 : w0.cell? ⟨w.heap.size + 1, 9, none⟩ = some (.slice ka kl kc) := by rw [hw0]; simp
  have HW0 : Hid _ := hw0
  clear hw0
  cases R
  all_goals
    go_enter Tryz.func24, Tryz.ntmps24
    go_wp2_with (first | (go_at_call 23; rw [← HW0.out]; refine (AR _ hb0).mono ?_; rintro e w9 ⟨rfl, hb9⟩; have hB9 : Below w.heap.size w w9 := hb0.trans (hb9.mono (by omega))) | (go_at_call 23; refine (AR _ hbw1).mono ?_; rintro e w9 ⟨rfl, hb9⟩; have hB9 : Below w.heap.size w w9 := hbw1.trans (hb9.mono hbw1.size)))
    go_ret
    exact ⟨ret_s (by rw [HP.out]; apply bs_of; simp [dt_app, bs_dt, HS.out, HD.out, HO.out]), hB9⟩
set_option maxRecDepth 10000 in
set_option maxHeartbeats 4000000 in
theorem ah31b (w : World) (no : Option Addr) (nc nn : Nat) (fo : Option Addr) (fc fn : Nat) (N : List Nd) (nd : Nd) (ka : Option Addr) (kc kl : Nat) (s : ByteArray) (i d p : Nat) (H : AhE w no nc nn N nd ka kc kl s i d p) (hk : nd.kind = 31) (o : Nat) (ho : o ≤ 100000000) (hi0 : i = 1) (R : Bool) (hR : R = ard N nd i) :
    Calls Tryz.prog 24 #[.agg #[.slice no nn nc, .slice fo fn fc], .agg #[.int .i64 31, .int .i64 nd.at_, .int .i64 nd.wh, .int .i64 nd.close, .int .i64 (d : Int), .int .i64 nd.typ, .int .i64 (p : Int), .int .i64 nd.val, .string s, .slice ka kl kc], .int .i64 i, .int .i64 o] w fun e w' => e = .returned (.string (bs (ptx o (pre nd i) ++ if R = true then [40] else []))) ∧ Below w.heap.size w w' := by
  have AR := H.ar fo fc fn 31 hk R hR
  have HP : Hid (ptx o (pre nd i) = ([32] : List UInt8) ++ opT (p : Int) ++ ([32] : List UInt8)) := by
    show _ = _
    simp [ptx, pre, hk, tp, np, hi0, H.ep]
  have HS : Hid (s = bs nd.name) := H.es
  have hsz : s.size ≤ 64 := by rw [H.es, bs_size]; exact H.esl
  have HD : Hid (nd.decl = (d : Int)) := H.ed
  have HO : Hid (nd.op = (p : Int)) := H.ep
  have SGN := fun w => rSign_any w p H.ep23
  have hul := opT_len p H.ep23
  have hkl := H.ekl
  have hi := H.ei
  have hkb := H.ekb
  have q1 : ((i : Int) == 1) = true := by simp; omega
  clear hR H hk hkl hi0
  obtain ⟨u, hu⟩ : ∃ u, u = bs (opT (p : Int)) := ⟨_, rfl⟩
  simp only [← hu] at hul SGN
  have HU : Hid (u = bs (opT (p : Int))) := hu
  clear hu
  obtain ⟨w0, hw0⟩ : ∃ w0, w0 = (w.alloc (.cells #[.slice no nn nc, .slice fo fn fc] 27)).alloc (.cells #[.int .i64 31, .int .i64 nd.at_, .int .i64 nd.wh, .int .i64 nd.close, .int .i64 (d : Int), .int .i64 nd.typ, .int .i64 (p : Int), .int .i64 nd.val, .string s, .slice ka kl kc] 39) := ⟨_, rfl⟩
  have hb0 : Below w.heap.size w w0 := by rw [hw0]; exact ((Below.refl _ _).alloc (Nat.le_refl _) _).alloc (by simp) _
  have hs0 : w.heap.size + 2 ≤ w0.heap.size := by rw [hw0]; simp
  have z0 : w0.cell? ⟨w.heap.size, 0, none⟩ = some (.slice no nn nc) := by rw [hw0]; simp
  have z1 : w0.cell? ⟨w.heap.size, 1, none⟩ = some (.slice fo fn fc) := by rw [hw0]; simp
  have y0 : w0.cell? ⟨w.heap.size + 1, 0, none⟩ = some (.int .i64 31) := by rw [hw0]; simp
  have y1 : w0.cell? ⟨w.heap.size + 1, 1, none⟩ = some (.int .i64 nd.at_) := by rw [hw0]; simp
  have y2 : w0.cell? ⟨w.heap.size + 1, 2, none⟩ = some (.int .i64 nd.wh) := by rw [hw0]; simp
  have y3 : w0.cell? ⟨w.heap.size + 1, 3, none⟩ = some (.int .i64 nd.close) := by rw [hw0]; simp
  have y4 : w0.cell? ⟨w.heap.size + 1, 4, none⟩ = some (.int .i64 (d : Int)) := by rw [hw0]; simp
  have y5 : w0.cell? ⟨w.heap.size + 1, 5, none⟩ = some (.int .i64 nd.typ) := by rw [hw0]; simp
  have y6 : w0.cell? ⟨w.heap.size + 1, 6, none⟩ = some (.int .i64 (p : Int)) := by rw [hw0]; simp
  have y7 : w0.cell? ⟨w.heap.size + 1, 7, none⟩ = some (.int .i64 nd.val) := by rw [hw0]; simp
  have y8 : w0.cell? ⟨w.heap.size + 1, 8, none⟩ = some (.string s) := by rw [hw0]; simp
  have y9 : w0.cell? ⟨w.heap.size + 1, 9, none⟩ = some (.slice ka kl kc) := by rw [hw0]; simp
  have HW0 : Hid _ := hw0
  clear hw0
  cases R
  all_goals
    go_enter Tryz.func24, Tryz.ntmps24
    go_wp2_with (first | (go_at_call 41; rw [← HW0.out]; refine (SGN _).mono ?_; rintro e w1 ⟨rfl, hb1⟩; have hs1 := hb1.size; have hbw1 : Below w.heap.size w w1 := hb0.trans (hb1.mono (by omega)); have a0 := cell_below hb1 (by omega) z0; have a1 := cell_below hb1 (by omega) z1; have b0 := cell_below hb1 (by omega) y0; have b1 := cell_below hb1 (by omega) y1; have b2 := cell_below hb1 (by omega) y2; have b3 := cell_below hb1 (by omega) y3; have b4 := cell_below hb1 (by omega) y4; have b5 := cell_below hb1 (by omega) y5; have b6 := cell_below hb1 (by omega) y6; have b7 := cell_below hb1 (by omega) y7; have b8 := cell_below hb1 (by omega) y8; have b9 := cell_below hb1 (by omega) y9; clear z0 z1 y0 y1 y2 y3 y4 y5 y6 y7 y8 y9) | (go_at_call 23; rw [← HW0.out]; refine (AR _ hb0).mono ?_; rintro e w9 ⟨rfl, hb9⟩; have hB9 : Below w.heap.size w w9 := hb0.trans (hb9.mono (by omega))) | (go_at_call 23; refine (AR _ hbw1).mono ?_; rintro e w9 ⟨rfl, hb9⟩; have hB9 : Below w.heap.size w w9 := hbw1.trans (hb9.mono hbw1.size)))
    go_ret
    exact ⟨ret_s (by rw [HP.out]; apply bs_of; simp [dt_app, bs_dt, HS.out, HU.out, HD.out, HO.out]), hB9⟩
end Go.Proofs.YtchobeakieljpaaGreatDoor
