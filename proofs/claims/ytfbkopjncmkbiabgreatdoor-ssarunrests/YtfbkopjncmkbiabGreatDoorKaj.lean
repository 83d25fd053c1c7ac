import Derived.Test.YtfbkopjncmkbiabGreatDoorKai
set_option linter.unusedVariables false
set_option linter.unusedSimpArgs false
namespace Go.Proofs.YtfbkopjncmkbiabGreatDoor
open Go.ChangeShapes Go.WideShapes Go.ChangeAt Go.RowKit Go.Maps
structure Opens (g : Nat) : Prop where
 out : ∀ args w, (callFunc g args).run Tryz.prog w = .ok (.enter g args) w
theorem Opens.of {g : Nat} {fn : Func} {c : Code} (hf : Tryz.prog.funcs[g]? = some fn) (hname : (fn.name == "runtime.NumGoroutine") = false) (hb : fn.body = some c) : Opens g := by
 refine ⟨fun args w => ?_⟩
 have h1 : fn.name ≠ "runtime.NumGoroutine" := by simpa using hname
 simp [callFunc, hf, h1, hb, mark]
def Asks {α : Type} (V : World -> Value -> α -> Prop) (g : Nat) (fs lb : Array Value) (p : Nat -> α -> Bool) (L : List α) (w : World) : Prop :=
 ∀ (W : World) (i : Nat) (x : Value) (h : i < L.length), Below w.heap.size w W -> V W x L[i] -> Calls Tryz.prog g (fs ++ (#[.int .i64 i, x] ++ lb)) W fun e w' => e = .returned (.bool (p i L[i])) /\ Below W.heap.size W w'
set_option maxRecDepth 100000 in
set_option maxHeartbeats 2000000 in
theorem everyI_any (w : World) (ao : Option Addr) (c n : Nat) (L : List Int) (hn : n = L.length) (hL : Ints w ao c L) (g : Nat) (fs lb : Array Value) (eg : Opens g) (p : Nat -> Int -> Bool) (hp : Asks IntV g fs lb p L w) :
 Calls Tryz.prog 78 #[.slice ao n c, .func (.func g) fs lb] w fun e w' => e = .returned (.bool (evr p 0 L)) /\ Below w.heap.size w w' := by
 obtain ⟨R, hR⟩ : ∃ R, R = evr p 0 L := ⟨_, rfl⟩
 rw [<- hR]
 have HA : EvR p L 0 R := ⟨by rw [hR]; simp⟩
 have HN : Hid (n = L.length) := hn
 have hb : n <= 9223372036854775807 := by have := hL.le; have := hL.mx; omega
 have HP : Hid (Asks IntV g fs lb p L w) := hp
 clear hR hn hp
 go_enter Tryz.func78, Tryz.ntmps78
 go_wp2_with fail
 go_loopw [5, 6, 9] (fun _ _ c wr => ∃ k : Nat, k <= n /\ c = .int .i64 k /\ EvR p L k R /\ Below w.heap.size w wr) (fun _ _ c _ => n - (intOf c).toNat)
 case atStart => exact ⟨0, by omega, rfl, HA, Below.refl _ _⟩
 case round =>
  obtain ⟨k, hk, rfl, HE, hbw⟩ := hrel
  by_cases hlt : k < n
  ·have hk2 : k < L.length := by have := HN.out; omega
   obtain ⟨b, o, rfl, hc⟩ := (hL.below hbw (Nat.le_refl _)).at hk2
   have HL : Hid (Ints w (some ⟨b, o, none⟩) c L) := hL
   have hcall : Hid (Calls Tryz.prog g (fs ++ (#[.int .i64 (k : Int), .int .i64 L[k]] ++ lb)) wr fun e w' => e = .returned (.bool (p k L[k])) /\ Below wr.heap.size wr w') := HP.out wr k (.int .i64 L[k]) hk2 hbw ⟨rfl⟩
   obtain ⟨h1, h2⟩ := HE.next hk2
   have H1 : Hid _ := h1
   have H2 : Hid _ := h2
   clear h1 h2 HE HP hL
   generalize L[k] = y at hc hcall H1 H2
   cases hq : p k y with
   | true =>
     rw [hq] at hcall
     go_wp2_with fail
     rw [eg.out]
     refine Calls.mono hcall.out ?_
     rintro e w' ⟨rfl, hb'⟩
     go_wp2_with fail
     go_roundw
     case rel => exact ⟨k + 1, by omega, by go_num, H1.out hq, hbw.trans (hb'.mono hbw.size)⟩
     case measure => simp [intOf]; omega
   | false =>
     rw [hq] at hcall
     go_wp2_with fail
     rw [eg.out]
     refine Calls.mono hcall.out ?_
     rintro e w' ⟨rfl, hb'⟩
     go_wp2_with fail
     go_ret
     have := H2.out hq
     subst this
     exact ⟨rfl, hbw.trans (hb'.mono hbw.size)⟩
  ·have : n = k := by omega
   subst this
   have := HE.fin (by have := HN.out; omega)
   subst this
   go_wp2_with fail
   go_ret
   exact ⟨rfl, hbw⟩
set_option maxRecDepth 100000 in
set_option maxHeartbeats 2000000 in
theorem everyL_any (w : World) (ao : Option Addr) (c n : Nat) (L : List Bool) (hn : n = L.length) (hL : Bls w ao c L) (g : Nat) (fs lb : Array Value) (eg : Opens g) (p : Nat -> Bool -> Bool) (hp : Asks BoolV g fs lb p L w) :
 Calls Tryz.prog 87 #[.slice ao n c, .func (.func g) fs lb] w fun e w' => e = .returned (.bool (evr p 0 L)) /\ Below w.heap.size w w' := by
 obtain ⟨R, hR⟩ : ∃ R, R = evr p 0 L := ⟨_, rfl⟩
 rw [<- hR]
 have HA : EvR p L 0 R := ⟨by rw [hR]; simp⟩
 have HN : Hid (n = L.length) := hn
 have hb : n <= 9223372036854775807 := by have := hL.le; have := hL.mx; omega
 have HP : Hid (Asks BoolV g fs lb p L w) := hp
 clear hR hn hp
 go_enter Tryz.func87, Tryz.ntmps87
 go_wp2_with fail
 go_loopw [5, 6, 9] (fun _ _ c wr => ∃ k : Nat, k <= n /\ c = .int .i64 k /\ EvR p L k R /\ Below w.heap.size w wr) (fun _ _ c _ => n - (intOf c).toNat)
 case atStart => exact ⟨0, by omega, rfl, HA, Below.refl _ _⟩
 case round =>
  obtain ⟨k, hk, rfl, HE, hbw⟩ := hrel
  by_cases hlt : k < n
  ·have hk2 : k < L.length := by have := HN.out; omega
   obtain ⟨b, o, rfl, hc⟩ := (hL.below hbw (Nat.le_refl _)).at hk2
   have HL : Hid (Bls w (some ⟨b, o, none⟩) c L) := hL
   have hcall : Hid (Calls Tryz.prog g (fs ++ (#[.int .i64 (k : Int), .bool L[k]] ++ lb)) wr fun e w' => e = .returned (.bool (p k L[k])) /\ Below wr.heap.size wr w') := HP.out wr k (.bool L[k]) hk2 hbw ⟨rfl⟩
   obtain ⟨h1, h2⟩ := HE.next hk2
   have H1 : Hid _ := h1
   have H2 : Hid _ := h2
   clear h1 h2 HE HP hL
   generalize L[k] = y at hc hcall H1 H2
   cases hq : p k y with
   | true =>
     rw [hq] at hcall
     go_wp2_with fail
     rw [eg.out]
     refine Calls.mono hcall.out ?_
     rintro e w' ⟨rfl, hb'⟩
     go_wp2_with fail
     go_roundw
     case rel => exact ⟨k + 1, by omega, by go_num, H1.out hq, hbw.trans (hb'.mono hbw.size)⟩
     case measure => simp [intOf]; omega
   | false =>
     rw [hq] at hcall
     go_wp2_with fail
     rw [eg.out]
     refine Calls.mono hcall.out ?_
     rintro e w' ⟨rfl, hb'⟩
     go_wp2_with fail
     go_ret
     have := H2.out hq
     subst this
     exact ⟨rfl, hbw.trans (hb'.mono hbw.size)⟩
  ·have : n = k := by omega
   subst this
   have := HE.fin (by have := HN.out; omega)
   subst this
   go_wp2_with fail
   go_ret
   exact ⟨rfl, hbw⟩
set_option maxRecDepth 100000 in
set_option maxHeartbeats 2000000 in
theorem everyV_any (w : World) (ao : Option Addr) (c n : Nat) (L : List Vl) (hn : n = L.length) (hL : Vls w ao c L) (g : Nat) (fs lb : Array Value) (eg : Opens g) (p : Nat -> Vl -> Bool) (hp : Asks VlV g fs lb p L w) :
 Calls Tryz.prog 80 #[.slice ao n c, .func (.func g) fs lb] w fun e w' => e = .returned (.bool (evr p 0 L)) /\ Below w.heap.size w w' := by
 obtain ⟨R, hR⟩ : ∃ R, R = evr p 0 L := ⟨_, rfl⟩
 rw [<- hR]
 have HA : EvR p L 0 R := ⟨by rw [hR]; simp⟩
 have HN : Hid (n = L.length) := hn
 have hb : n <= 9223372036854775807 := by have := hL.le; have := hL.mx; omega
 have HP : Hid (Asks VlV g fs lb p L w) := hp
 clear hR hn hp
 go_enter Tryz.func80, Tryz.ntmps80
 go_wp2_with fail
 go_loopw [5, 6, 9] (fun _ _ c wr => ∃ k : Nat, k <= n /\ c = .int .i64 k /\ EvR p L k R /\ Below w.heap.size w wr) (fun _ _ c _ => n - (intOf c).toNat)
 case atStart => exact ⟨0, by omega, rfl, HA, Below.refl _ _⟩
 case round =>
  obtain ⟨k, hk, rfl, HE, hbw⟩ := hrel
  by_cases hlt : k < n
  ·have hk2 : k < L.length := by have := HN.out; omega
   obtain ⟨b, o, rfl, hlb, hA⟩ := (hL.below hbw (Nat.le_refl _)).out (by intro e; rw [e] at hk2; simp at hk2)
   have HL : Hid (Vls w (some ⟨b, o, none⟩) c L) := hL
   obtain ⟨ka, kc, c0, c1, c2, c3, h1⟩ := (hA k hk2).out
   obtain ⟨h1', h2'⟩ := HE.next hk2
   have H1 : Hid _ := h1'
   have H2 : Hid _ := h2'
   have hcall0 := fun W x hW => HP.out W k x hk2 hW
   clear h1' h2' HE HP hL hA
   generalize L[k] = y at c0 c1 c2 c3 h1 hcall0 H1 H2
   obtain ⟨kl, ekl⟩ : ∃ kl, kl = y.args.length := ⟨_, rfl⟩
   rw [<- ekl] at c3
   have hnew : Below wr.heap.size wr (wr.alloc (.cells #[.int .i64 y.op, .int .i64 y.ty, .int .i64 y.imm, .slice ka kl kc] 25)) := (Below.refl _ _).alloc (Nat.le_refl _) _
   have hcall : Hid (Calls Tryz.prog g (fs ++ (#[.int .i64 (k : Int), .agg #[.int .i64 y.op, .int .i64 y.ty, .int .i64 y.imm, .slice ka kl kc]] ++ lb)) (wr.alloc (.cells #[.int .i64 y.op, .int .i64 y.ty, .int .i64 y.imm, .slice ka kl kc] 25)) fun e w' => e = .returned (.bool (p k y)) /\ Below (wr.alloc (.cells #[.int .i64 y.op, .int .i64 y.ty, .int .i64 y.imm, .slice ka kl kc] 25)).heap.size (wr.alloc (.cells #[.int .i64 y.op, .int .i64 y.ty, .int .i64 y.imm, .slice ka kl kc] 25)) w') := hcall0 (wr.alloc (.cells #[.int .i64 y.op, .int .i64 y.ty, .int .i64 y.imm, .slice ka kl kc] 25)) _ (hbw.trans (hnew.mono hbw.size)) ⟨ka, kc, by rw [ekl], h1.below hnew (Nat.le_refl _)⟩
   have hszb : b < wr.heap.size := hlb
   clear h1 hcall0 ekl
   cases hq : p k y with
   | true =>
     rw [hq] at hcall
     go_wp2_with fail
     rw [eg.out]
     refine Calls.mono hcall.out ?_
     rintro e w' ⟨rfl, hb'⟩
     go_wp2_with fail
     go_roundw
     case rel => exact ⟨k + 1, by omega, by go_num, H1.out hq, (hbw.trans (hnew.mono hbw.size)).trans (hb'.mono (by have := hbw.size; simp; omega))⟩
     case measure => simp [intOf]; omega
   | false =>
     rw [hq] at hcall
     go_wp2_with fail
     rw [eg.out]
     refine Calls.mono hcall.out ?_
     rintro e w' ⟨rfl, hb'⟩
     go_wp2_with fail
     go_ret
     have := H2.out hq
     subst this
     exact ⟨rfl, (hbw.trans (hnew.mono hbw.size)).trans (hb'.mono (by have := hbw.size; simp; omega))⟩
  ·have : n = k := by omega
   subst this
   have := HE.fin (by have := HN.out; omega)
   subst this
   go_wp2_with fail
   go_ret
   exact ⟨rfl, hbw⟩
set_option maxRecDepth 100000 in
set_option maxHeartbeats 2000000 in
theorem everyB_any (w : World) (ao : Option Addr) (c n : Nat) (L : List Bk) (hn : n = L.length) (hL : Bks w ao c L) (g : Nat) (fs lb : Array Value) (eg : Opens g) (p : Nat -> Bk -> Bool) (hp : Asks BkV g fs lb p L w) :
 Calls Tryz.prog 82 #[.slice ao n c, .func (.func g) fs lb] w fun e w' => e = .returned (.bool (evr p 0 L)) /\ Below w.heap.size w w' := by
 obtain ⟨R, hR⟩ : ∃ R, R = evr p 0 L := ⟨_, rfl⟩
 rw [<- hR]
 have HA : EvR p L 0 R := ⟨by rw [hR]; simp⟩
 have HN : Hid (n = L.length) := hn
 have hb : n <= 9223372036854775807 := by have := hL.le; have := hL.mx; omega
 have HP : Hid (Asks BkV g fs lb p L w) := hp
 clear hR hn hp
 go_enter Tryz.func82, Tryz.ntmps82
 go_wp2_with fail
 go_loopw [5, 6, 9] (fun _ _ c wr => ∃ k : Nat, k <= n /\ c = .int .i64 k /\ EvR p L k R /\ Below w.heap.size w wr) (fun _ _ c _ => n - (intOf c).toNat)
 case atStart => exact ⟨0, by omega, rfl, HA, Below.refl _ _⟩
 case round =>
  obtain ⟨k, hk, rfl, HE, hbw⟩ := hrel
  by_cases hlt : k < n
  ·have hk2 : k < L.length := by have := HN.out; omega
   obtain ⟨b, o, rfl, hlb, hA⟩ := (hL.below hbw (Nat.le_refl _)).out (by intro e; rw [e] at hk2; simp at hk2)
   have HL : Hid (Bks w (some ⟨b, o, none⟩) c L) := hL
   obtain ⟨ka, kc, la, lc, ma, mc, na, nc, c0, c1, c2, c3, c4, c5, h1, h2, h3, h4⟩ := (hA k hk2).out
   obtain ⟨h1', h2'⟩ := HE.next hk2
   have H1 : Hid _ := h1'
   have H2 : Hid _ := h2'
   have hcall0 := fun W x hW => HP.out W k x hk2 hW
   clear h1' h2' HE HP hL hA
   generalize L[k] = y at c0 c1 c2 c3 c4 c5 h1 h2 h3 h4 hcall0 H1 H2
   obtain ⟨kl, ekl⟩ : ∃ kl, kl = y.phis.length := ⟨_, rfl⟩
   rw [<- ekl] at c0
   obtain ⟨ll, ell⟩ : ∃ ll, ll = y.body.length := ⟨_, rfl⟩
   rw [<- ell] at c1
   obtain ⟨ml, eml⟩ : ∃ ml, ml = y.ways.length := ⟨_, rfl⟩
   rw [<- eml] at c4
   obtain ⟨nl, enl⟩ : ∃ nl, nl = y.preds.length := ⟨_, rfl⟩
   rw [<- enl] at c5
   have hnew : Below wr.heap.size wr (wr.alloc (.cells #[.slice ka kl kc, .slice la ll lc, .int .i64 y.kind, .int .i64 y.val, .slice ma ml mc, .slice na nl nc] 30)) := (Below.refl _ _).alloc (Nat.le_refl _) _
   have hcall : Hid (Calls Tryz.prog g (fs ++ (#[.int .i64 (k : Int), .agg #[.slice ka kl kc, .slice la ll lc, .int .i64 y.kind, .int .i64 y.val, .slice ma ml mc, .slice na nl nc]] ++ lb)) (wr.alloc (.cells #[.slice ka kl kc, .slice la ll lc, .int .i64 y.kind, .int .i64 y.val, .slice ma ml mc, .slice na nl nc] 30)) fun e w' => e = .returned (.bool (p k y)) /\ Below (wr.alloc (.cells #[.slice ka kl kc, .slice la ll lc, .int .i64 y.kind, .int .i64 y.val, .slice ma ml mc, .slice na nl nc] 30)).heap.size (wr.alloc (.cells #[.slice ka kl kc, .slice la ll lc, .int .i64 y.kind, .int .i64 y.val, .slice ma ml mc, .slice na nl nc] 30)) w') := hcall0 (wr.alloc (.cells #[.slice ka kl kc, .slice la ll lc, .int .i64 y.kind, .int .i64 y.val, .slice ma ml mc, .slice na nl nc] 30)) _ (hbw.trans (hnew.mono hbw.size)) ⟨ka, kc, la, lc, ma, mc, na, nc, by rw [ekl, ell, eml, enl], h1.below hnew (Nat.le_refl _), h2.below hnew (Nat.le_refl _), h3.below hnew (Nat.le_refl _), h4.below hnew (Nat.le_refl _)⟩
   have hszb : b < wr.heap.size := hlb
   clear h1 h2 h3 h4 hcall0 ekl ell eml enl
   cases hq : p k y with
   | true =>
     rw [hq] at hcall
     go_wp2_with fail
     rw [eg.out]
     refine Calls.mono hcall.out ?_
     rintro e w' ⟨rfl, hb'⟩
     go_wp2_with fail
     go_roundw
     case rel => exact ⟨k + 1, by omega, by go_num, H1.out hq, (hbw.trans (hnew.mono hbw.size)).trans (hb'.mono (by have := hbw.size; simp; omega))⟩
     case measure => simp [intOf]; omega
   | false =>
     rw [hq] at hcall
     go_wp2_with fail
     rw [eg.out]
     refine Calls.mono hcall.out ?_
     rintro e w' ⟨rfl, hb'⟩
     go_wp2_with fail
     go_ret
     have := H2.out hq
     subst this
     exact ⟨rfl, (hbw.trans (hnew.mono hbw.size)).trans (hb'.mono (by have := hbw.size; simp; omega))⟩
  ·have : n = k := by omega
   subst this
   have := HE.fin (by have := HN.out; omega)
   subst this
   go_wp2_with fail
   go_ret
   exact ⟨rfl, hbw⟩
set_option maxRecDepth 100000 in
set_option maxHeartbeats 2000000 in
theorem everyF_any (w : World) (ao : Option Addr) (c n : Nat) (L : List Fu) (hn : n = L.length) (hL : Fus w ao c L) (g : Nat) (fs lb : Array Value) (eg : Opens g) (p : Nat -> Fu -> Bool) (hp : Asks FuV g fs lb p L w) :
 Calls Tryz.prog 50 #[.slice ao n c, .func (.func g) fs lb] w fun e w' => e = .returned (.bool (evr p 0 L)) /\ Below w.heap.size w w' := by
 obtain ⟨R, hR⟩ : ∃ R, R = evr p 0 L := ⟨_, rfl⟩
 rw [<- hR]
 have HA : EvR p L 0 R := ⟨by rw [hR]; simp⟩
 have HN : Hid (n = L.length) := hn
 have hb : n <= 9223372036854775807 := by have := hL.le; have := hL.mx; omega
 have HP : Hid (Asks FuV g fs lb p L w) := hp
 clear hR hn hp
 go_enter Tryz.func50, Tryz.ntmps50
 go_wp2_with fail
 go_loopw [5, 6, 9] (fun _ _ c wr => ∃ k : Nat, k <= n /\ c = .int .i64 k /\ EvR p L k R /\ Below w.heap.size w wr) (fun _ _ c _ => n - (intOf c).toNat)
 case atStart => exact ⟨0, by omega, rfl, HA, Below.refl _ _⟩
 case round =>
  obtain ⟨k, hk, rfl, HE, hbw⟩ := hrel
  by_cases hlt : k < n
  ·have hk2 : k < L.length := by have := HN.out; omega
   obtain ⟨b, o, rfl, hlb, hA⟩ := (hL.below hbw (Nat.le_refl _)).out (by intro e; rw [e] at hk2; simp at hk2)
   have HL : Hid (Fus w (some ⟨b, o, none⟩) c L) := hL
   obtain ⟨ka, kc, la, lc, ma, mc, c0, c1, c2, c3, c4, h1, h2, h3⟩ := (hA k hk2).out
   obtain ⟨h1', h2'⟩ := HE.next hk2
   have H1 : Hid _ := h1'
   have H2 : Hid _ := h2'
   have hcall0 := fun W x hW => HP.out W k x hk2 hW
   clear h1' h2' HE HP hL hA
   generalize L[k] = y at c0 c1 c2 c3 c4 h1 h2 h3 hcall0 H1 H2
   obtain ⟨kl, ekl⟩ : ∃ kl, kl = y.params.length := ⟨_, rfl⟩
   rw [<- ekl] at c1
   obtain ⟨ll, ell⟩ : ∃ ll, ll = y.vals.length := ⟨_, rfl⟩
   rw [<- ell] at c3
   obtain ⟨ml, eml⟩ : ∃ ml, ml = y.blks.length := ⟨_, rfl⟩
   rw [<- eml] at c4
   obtain ⟨s, es⟩ : ∃ s, s = y.name := ⟨_, rfl⟩
   rw [<- es] at c0
   have hnew : Below wr.heap.size wr (wr.alloc (.cells #[.string s, .slice ka kl kc, .int .i64 y.result, .slice la ll lc, .slice ma ml mc] 33)) := (Below.refl _ _).alloc (Nat.le_refl _) _
   have hcall : Hid (Calls Tryz.prog g (fs ++ (#[.int .i64 (k : Int), .agg #[.string s, .slice ka kl kc, .int .i64 y.result, .slice la ll lc, .slice ma ml mc]] ++ lb)) (wr.alloc (.cells #[.string s, .slice ka kl kc, .int .i64 y.result, .slice la ll lc, .slice ma ml mc] 33)) fun e w' => e = .returned (.bool (p k y)) /\ Below (wr.alloc (.cells #[.string s, .slice ka kl kc, .int .i64 y.result, .slice la ll lc, .slice ma ml mc] 33)).heap.size (wr.alloc (.cells #[.string s, .slice ka kl kc, .int .i64 y.result, .slice la ll lc, .slice ma ml mc] 33)) w') := hcall0 (wr.alloc (.cells #[.string s, .slice ka kl kc, .int .i64 y.result, .slice la ll lc, .slice ma ml mc] 33)) _ (hbw.trans (hnew.mono hbw.size)) ⟨ka, kc, la, lc, ma, mc, by rw [ekl, ell, eml, es], h1.below hnew (Nat.le_refl _), h2.below hnew (Nat.le_refl _), h3.below hnew (Nat.le_refl _)⟩
   have hszb : b < wr.heap.size := hlb
   clear h1 h2 h3 hcall0 ekl ell eml es
   cases hq : p k y with
   | true =>
     rw [hq] at hcall
     go_wp2_with fail
     rw [eg.out]
     refine Calls.mono hcall.out ?_
     rintro e w' ⟨rfl, hb'⟩
     go_wp2_with fail
     go_roundw
     case rel => exact ⟨k + 1, by omega, by go_num, H1.out hq, (hbw.trans (hnew.mono hbw.size)).trans (hb'.mono (by have := hbw.size; simp; omega))⟩
     case measure => simp [intOf]; omega
   | false =>
     rw [hq] at hcall
     go_wp2_with fail
     rw [eg.out]
     refine Calls.mono hcall.out ?_
     rintro e w' ⟨rfl, hb'⟩
     go_wp2_with fail
     go_ret
     have := H2.out hq
     subst this
     exact ⟨rfl, (hbw.trans (hnew.mono hbw.size)).trans (hb'.mono (by have := hbw.size; simp; omega))⟩
  ·have : n = k := by omega
   subst this
   have := HE.fin (by have := HN.out; omega)
   subst this
   go_wp2_with fail
   go_ret
   exact ⟨rfl, hbw⟩
theorem below_drawn {B : Nat} {a w : World} (h : Below B a w) (q : Nat) : Below B a (w.drewN q) := ⟨h.os, h.tape, h.output, h.size, h.block⟩
def wi (n : Nat) (i : Int) : Bool := decide (0 <= i /\ i < n)
def isTy (t : Int) : Bool := decide (1 <= t /\ t <= 3)
def isTn (t : Int) : Bool := decide (0 <= t /\ t <= 3)
def isOpn (op : Int) : Bool := decide (1 <= op /\ op <= 33 /\ ¬ op = 31)
theorem Asks.one {α : Type} {V : World -> Value -> α -> Prop} {g : Nat} {q : Value} {p : Nat -> α -> Bool} {L : List α} {w : World}
 (h : ∀ (W : World) (i : Nat) (x : Value) (h : i < L.length), Below w.heap.size w W -> V W x L[i] -> Calls Tryz.prog g #[.int .i64 i, x, q] W fun e w' => e = .returned (.bool (p i L[i])) /\ Below W.heap.size W w') : Asks V g #[] #[q] p L w :=
 fun W i x hi hb hv => by simpa using h W i x hi hb hv
theorem Asks.two {α : Type} {V : World -> Value -> α -> Prop} {g : Nat} {q r : Value} {p : Nat -> α -> Bool} {L : List α} {w : World}
 (h : ∀ (W : World) (i : Nat) (x : Value) (h : i < L.length), Below w.heap.size w W -> V W x L[i] -> Calls Tryz.prog g #[.int .i64 i, x, q, r] W fun e w' => e = .returned (.bool (p i L[i])) /\ Below W.heap.size W w') : Asks V g #[] #[q, r] p L w :=
 fun W i x hi hb hv => by simpa using h W i x hi hb hv
theorem Asks.three {α : Type} {V : World -> Value -> α -> Prop} {g : Nat} {q r s : Value} {p : Nat -> α -> Bool} {L : List α} {w : World}
 (h : ∀ (W : World) (i : Nat) (x : Value) (h : i < L.length), Below w.heap.size w W -> V W x L[i] -> Calls Tryz.prog g #[.int .i64 i, x, q, r, s] W fun e w' => e = .returned (.bool (p i L[i])) /\ Below W.heap.size W w') : Asks V g #[] #[q, r, s] p L w :=
 fun W i x hi hb hv => by simpa using h W i x hi hb hv
theorem Asks.zero {α : Type} {V : World -> Value -> α -> Prop} {g : Nat} {p : Nat -> α -> Bool} {L : List α} {w : World}
 (h : ∀ (W : World) (i : Nat) (x : Value) (h : i < L.length), Below w.heap.size w W -> V W x L[i] -> Calls Tryz.prog g #[.int .i64 i, x] W fun e w' => e = .returned (.bool (p i L[i])) /\ Below W.heap.size W w') : Asks V g #[] #[] p L w :=
 fun W i x hi hb hv => by simpa using h W i x hi hb hv
theorem Asks.meth {α : Type} {V : World -> Value -> α -> Prop} {g : Nat} {q : Value} {p : Nat -> α -> Bool} {L : List α} {w : World}
 (h : ∀ (W : World) (i : Nat) (x : Value) (h : i < L.length), Below w.heap.size w W -> V W x L[i] -> Calls Tryz.prog g #[q, .int .i64 i, x] W fun e w' => e = .returned (.bool (p i L[i])) /\ Below W.heap.size W w') : Asks V g #[q] #[] p L w :=
 fun W i x hi hb hv => by simpa using h W i x hi hb hv
theorem withinV_any (w : World) (ao : Option Addr) (n c : Nat) (i : Int) : Calls Tryz.prog 119 #[.slice ao n c, .int .i64 i] w fun e w' => e = .returned (.bool (wi n i)) /\ w' = w := by
 unfold wi
 by_cases h0 : 0 <= i
 ·by_cases h1 : i < n
  ·go_enter Tryz.func119, Tryz.ntmps119
   go_wp2
   go_ret
   exact ⟨by simp [h0, h1], rfl⟩
  ·go_enter Tryz.func119, Tryz.ntmps119
   go_wp2
   go_ret
   exact ⟨by simp [h0, h1], rfl⟩
 ·go_enter Tryz.func119, Tryz.ntmps119
  go_wp2
  go_ret
  exact ⟨by simp; omega, rfl⟩
theorem withinB_any (w : World) (ao : Option Addr) (n c : Nat) (i : Int) : Calls Tryz.prog 166 #[.slice ao n c, .int .i64 i] w fun e w' => e = .returned (.bool (wi n i)) /\ w' = w := by
 unfold wi
 by_cases h0 : 0 <= i
 ·by_cases h1 : i < n
  ·go_enter Tryz.func166, Tryz.ntmps166
   go_wp2
   go_ret
   exact ⟨by simp [h0, h1], rfl⟩
  ·go_enter Tryz.func166, Tryz.ntmps166
   go_wp2
   go_ret
   exact ⟨by simp [h0, h1], rfl⟩
 ·go_enter Tryz.func166, Tryz.ntmps166
  go_wp2
  go_ret
  exact ⟨by simp; omega, rfl⟩
theorem withinF_any (w : World) (ao : Option Addr) (n c : Nat) (i : Int) : Calls Tryz.prog 76 #[.slice ao n c, .int .i64 i] w fun e w' => e = .returned (.bool (wi n i)) /\ w' = w := by
 unfold wi
 by_cases h0 : 0 <= i
 ·by_cases h1 : i < n
  ·go_enter Tryz.func76, Tryz.ntmps76
   go_wp2
   go_ret
   exact ⟨by simp [h0, h1], rfl⟩
  ·go_enter Tryz.func76, Tryz.ntmps76
   go_wp2
   go_ret
   exact ⟨by simp [h0, h1], rfl⟩
 ·go_enter Tryz.func76, Tryz.ntmps76
  go_wp2
  go_ret
  exact ⟨by simp; omega, rfl⟩
theorem isType_any (w : World) (t : Int) : Calls Tryz.prog 118 #[.int .i64 t] w fun e w' => e = .returned (.bool (isTy t)) /\ w' = w := by
 unfold isTy
 by_cases h0 : 1 <= t
 ·by_cases h1 : t <= 3
  ·go_enter Tryz.func118, Tryz.ntmps118
   go_wp2
   go_ret
   exact ⟨by simp [h0, h1], rfl⟩
  ·go_enter Tryz.func118, Tryz.ntmps118
   go_wp2
   go_ret
   exact ⟨by simp [h0, h1], rfl⟩
 ·go_enter Tryz.func118, Tryz.ntmps118
  go_wp2
  go_ret
  exact ⟨by simp; omega, rfl⟩
theorem isTypeOrNone_any (w : World) (t : Int) : Calls Tryz.prog 77 #[.int .i64 t] w fun e w' => e = .returned (.bool (isTn t)) /\ w' = w := by
 unfold isTn
 by_cases h0 : t = 0
 ·subst h0
  go_enter Tryz.func77, Tryz.ntmps77
  go_wp2
  go_ret
  exact ⟨by simp, rfl⟩
 ·have e : decide (0 <= t /\ t <= 3) = isTy t := by unfold isTy; rw [decide_eq_decide]; omega
  rw [e]
  go_enter Tryz.func77, Tryz.ntmps77
  go_wp2_with (go_at_call 118; refine (isType_any _ _).mono ?_; rintro e w' ⟨rfl, rfl⟩)
  go_ret
  exact ⟨by simp [h0], rfl⟩
theorem isOp_any (w : World) (t : Int) : Calls Tryz.prog 120 #[.int .i64 t] w fun e w' => e = .returned (.bool (isOpn t)) /\ w' = w := by
 unfold isOpn
 by_cases h0 : 1 <= t
 ·by_cases h1 : t <= 33
  ·by_cases h2 : t = 31
   ·subst h2
    go_enter Tryz.func120, Tryz.ntmps120
    go_wp2
    go_ret
    exact ⟨by simp, rfl⟩
   ·go_enter Tryz.func120, Tryz.ntmps120
    go_wp2
    go_ret
    exact ⟨by simp [h0, h1, h2], rfl⟩
  ·go_enter Tryz.func120, Tryz.ntmps120
   go_wp2
   go_ret
   exact ⟨by simp; omega, rfl⟩
 ·go_enter Tryz.func120, Tryz.ntmps120
  go_wp2
  go_ret
  exact ⟨by simp; omega, rfl⟩
theorem opens_allV : Opens 164 := Opens.of Tryz.func164 (by kernel_rfl) rfl
theorem opens_allB : Opens 165 := Opens.of Tryz.func165 (by kernel_rfl) rfl
theorem allWithinV_any (w : World) (ao : Option Addr) (c n : Nat) (L : List Int) (hn : n = L.length) (hL : Ints w ao c L) (la : Option Addr) (ln lc : Nat) :
 Calls Tryz.prog 123 #[.slice ao n c, .slice la ln lc] w fun e w' => e = .returned (.bool (L.all (wi ln))) /\ Below w.heap.size w w' := by
 have hnew : Below w.heap.size w (w.alloc (.cells #[.slice la ln lc] 26)) := (Below.refl _ _).alloc (Nat.le_refl _) _
 have ha : Asks IntV 164 #[] #[.pointer (some ⟨w.heap.size, 0, none⟩)] (fun _ x => wi ln x) L (w.alloc (.cells #[.slice la ln lc] 26)) := Asks.one (by
  intro W i x hi hb hv
  obtain rfl := hv.out
  have hc : W.cell? ⟨w.heap.size, 0, none⟩ = some (.slice la ln lc) := by rw [hb.cell (p := ⟨w.heap.size, 0, none⟩) (by simp)]; simp
  generalize L[i] = y
  go_enter Tryz.func164, Tryz.ntmps164
  go_wp2_with (go_at_call 119; refine (withinV_any _ _ _ _ _).mono ?_; rintro e w' ⟨rfl, rfl⟩)
  go_ret
  exact ⟨rfl, Below.refl _ _⟩)
 have he := everyI_any _ ao c n L hn (hL.below hnew (Nat.le_refl _)) _ #[] #[.pointer (some ⟨w.heap.size, 0, none⟩)] opens_allV _ ha
 rw [evr_plain] at he
 generalize L.all (wi ln) = R at he
 have HE : Hid (Calls _ _ _ _ _) := he
 clear he ha hL hn
 go_enter Tryz.func123, Tryz.ntmps123
 go_wp2_with (go_at_call 78; refine Calls.mono HE.out ?_; rintro e w' ⟨rfl, hb⟩)
 go_ret
 exact ⟨rfl, hnew.trans (hb.mono (by simp))⟩
theorem allWithinB_any (w : World) (ao : Option Addr) (c n : Nat) (L : List Int) (hn : n = L.length) (hL : Ints w ao c L) (la : Option Addr) (ln lc : Nat) :
 Calls Tryz.prog 125 #[.slice ao n c, .slice la ln lc] w fun e w' => e = .returned (.bool (L.all (wi ln))) /\ Below w.heap.size w w' := by
 have hnew : Below w.heap.size w (w.alloc (.cells #[.slice la ln lc] 31)) := (Below.refl _ _).alloc (Nat.le_refl _) _
 have ha : Asks IntV 165 #[] #[.pointer (some ⟨w.heap.size, 0, none⟩)] (fun _ x => wi ln x) L (w.alloc (.cells #[.slice la ln lc] 31)) := Asks.one (by
  intro W i x hi hb hv
  obtain rfl := hv.out
  have hc : W.cell? ⟨w.heap.size, 0, none⟩ = some (.slice la ln lc) := by rw [hb.cell (p := ⟨w.heap.size, 0, none⟩) (by simp)]; simp
  generalize L[i] = y
  go_enter Tryz.func165, Tryz.ntmps165
  go_wp2_with (go_at_call 166; refine (withinB_any _ _ _ _ _).mono ?_; rintro e w' ⟨rfl, rfl⟩)
  go_ret
  exact ⟨rfl, Below.refl _ _⟩)
 have he := everyI_any _ ao c n L hn (hL.below hnew (Nat.le_refl _)) _ #[] #[.pointer (some ⟨w.heap.size, 0, none⟩)] opens_allB _ ha
 rw [evr_plain] at he
 generalize L.all (wi ln) = R at he
 have HE : Hid (Calls _ _ _ _ _) := he
 clear he ha hL hn
 go_enter Tryz.func125, Tryz.ntmps125
 go_wp2_with (go_at_call 78; refine Calls.mono HE.out ?_; rintro e w' ⟨rfl, hb⟩)
 go_ret
 exact ⟨rfl, hnew.trans (hb.mono (by simp))⟩
structure Ctx (w : World) (s : ByteArray) (pa : Option Addr) (pn pc : Nat) (r : Int) (va : Option Addr) (vn vc : Nat) (ba : Option Addr) (bn bc : Nat) (fa : Option Addr) (fn fc : Nat) (f : Fu) (FS : List Fu) : Prop where
 es : s = f.name
 ep : pn = f.params.length
 er : r = f.result
 ev : vn = f.vals.length
 eb : bn = f.blks.length
 ef : fn = FS.length
 hp : Ints w pa pc f.params
 hv : Vls w va vc f.vals
 hb : Bks w ba bc f.blks
 hf : Fus w fa fc FS
theorem Ctx.below {w w' : World} {K : Nat} {s : ByteArray} {pa : Option Addr} {pn pc : Nat} {r : Int} {va : Option Addr} {vn vc : Nat} {ba : Option Addr} {bn bc : Nat} {fa : Option Addr} {fn fc : Nat} {f : Fu} {FS : List Fu} (h : Ctx w s pa pn pc r va vn vc ba bn bc fa fn fc f FS) (hb : Below K w w') (hK : w.heap.size <= K) : Ctx w' s pa pn pc r va vn vc ba bn bc fa fn fc f FS :=
 ⟨h.es, h.ep, h.er, h.ev, h.eb, h.ef, h.hp.below hb hK, h.hv.below hb hK, h.hb.below hb hK, h.hf.below hb hK⟩
def noV : Vl := ⟨0, 0, 0, []⟩
def noF : Fu := ⟨⟨#[]⟩, [], 0, [], []⟩
def noB : Bk := ⟨[], [], 0, 0, [], []⟩
def gv (f : Fu) (x : Int) : Vl := f.vals.getD x.toNat noV
theorem gv_at (f : Fu) (j : Nat) (h : j < f.vals.length) : gv f (j : Int) = f.vals[j] := by simp [gv, h]
theorem withinV_at (w : World) (ao : Option Addr) (n c : Nat) (i : Int) (R : Bool) (hR : wi n i = R) : Calls Tryz.prog 119 #[.slice ao n c, .int .i64 i] w fun e w' => e = .returned (.bool R) /\ w' = w := by
 subst hR; exact withinV_any w ao n c i
theorem withinF_at (w : World) (ao : Option Addr) (n c : Nat) (i : Int) (R : Bool) (hR : wi n i = R) : Calls Tryz.prog 76 #[.slice ao n c, .int .i64 i] w fun e w' => e = .returned (.bool R) /\ w' = w := by
 subst hR; exact withinF_any w ao n c i
theorem Ctx.val {w : World} {s : ByteArray} {pa : Option Addr} {pn pc : Nat} {r : Int} {va : Option Addr} {vn vc : Nat} {ba : Option Addr} {bn bc : Nat} {fa : Option Addr} {fn fc : Nat} {f : Fu} {FS : List Fu} (h : Ctx w s pa pn pc r va vn vc ba bn bc fa fn fc f FS) {x : Int} (hx : wi vn x = true) : ∃ (j : Nat) (b o : Nat) (ka : Option Addr) (kl kc : Nat), x = j /\ j < vn /\ vn <= 9223372036854775807 /\ va = some ⟨b, o, none⟩ /\ b < w.heap.size /\ w.cell? ⟨b, o + j * 4, none⟩ = some (.int .i64 (gv f x).op) /\ w.cell? ⟨b, o + j * 4 + 1, none⟩ = some (.int .i64 (gv f x).ty) /\ w.cell? ⟨b, o + j * 4 + 2, none⟩ = some (.int .i64 (gv f x).imm) /\ w.cell? ⟨b, o + j * 4 + 3, none⟩ = some (.slice ka kl kc) /\ kl = (gv f x).args.length /\ Ints w ka kc (gv f x).args := by
 simp [wi] at hx
 obtain ⟨j, rfl⟩ : ∃ j : Nat, x = j := ⟨x.toNat, by omega⟩
 have hj : j < f.vals.length := by have := h.ev; omega
 obtain ⟨b, o, e, hlt, hA⟩ := h.hv.out (by intro e; rw [e] at hj; simp at hj)
 obtain ⟨ka, kc, c0, c1, c2, c3, hI⟩ := (hA j hj).out
 rw [gv_at f j hj]
 exact ⟨j, b, o, ka, _, kc, rfl, by omega, by have := h.hv.le; have := h.hv.mx; have := h.ev; omega, e, hlt, c0, c1, c2, c3, rfl, hI⟩
def paramP (f : Fu) (i : Nat) (x : Int) : Bool := wi f.vals.length x && (decide ((gv f x).op = 33) && decide ((gv f x).imm = i))
def mayP (f : Fu) (x : Int) : Bool := wi f.vals.length x && !decide ((gv f x).op = 33)
theorem paramFits_any (w : World) {s : ByteArray} {pa : Option Addr} {pn pc : Nat} {r : Int} {va : Option Addr} {vn vc : Nat} {ba : Option Addr} {bn bc : Nat} {fa : Option Addr} {fn fc : Nat} {f : Fu} {FS : List Fu} (C : Ctx w s pa pn pc r va vn vc ba bn bc fa fn fc f FS) (i : Nat) (x : Int) :
 Calls Tryz.prog 79 #[.agg #[.string s, .slice pa pn pc, .int .i64 r, .slice va vn vc, .slice ba bn bc, .slice fa fn fc], .int .i64 i, .int .i64 x] w fun e w' => e = .returned (.bool (paramP f i x)) /\ Below w.heap.size w w' := by
 have hnew : Below w.heap.size w (w.alloc (.cells #[.string s, .slice pa pn pc, .int .i64 r, .slice va vn vc, .slice ba bn bc, .slice fa fn fc] 77)) := (Below.refl _ _).alloc (Nat.le_refl _) _
 have C2 := C.below hnew (Nat.le_refl _)
 unfold paramP
 rw [<- C.ev]
 cases hq : wi vn x with
 | false =>
   clear C C2
   go_enter Tryz.func79, Tryz.ntmps79
   go_wp2_with (go_at_call 119; refine (withinV_at _ _ _ _ _ _ hq).mono ?_; rintro e w' ⟨rfl, rfl⟩)
   go_ret
   exact ⟨by simp, hnew⟩
 | true =>
   obtain ⟨j, b, o, ka, kl, kc, rfl, hj, hvn, rfl, hlt, c0, c1, c2, c3, hkl, hI⟩ := C2.val hq
   generalize gv f (j : Int) = y at c0 c1 c2 c3 hkl hI
   clear C C2 hkl hI c3
   by_cases h1 : y.op = 33
   ·rw [h1] at c0
    by_cases h2 : y.imm = i
    ·rw [h2] at c2
     rw [h1, h2]
     go_enter Tryz.func79, Tryz.ntmps79
     go_wp2_with (go_at_call 119; refine (withinV_at _ _ _ _ _ _ hq).mono ?_; rintro e w' ⟨rfl, rfl⟩)
     go_ret
     exact ⟨by simp, hnew⟩
    ·rw [h1]
     go_enter Tryz.func79, Tryz.ntmps79
     go_wp2_with (go_at_call 119; refine (withinV_at _ _ _ _ _ _ hq).mono ?_; rintro e w' ⟨rfl, rfl⟩)
     go_ret
     exact ⟨by simp [h2], hnew⟩
   ·go_enter Tryz.func79, Tryz.ntmps79
    go_wp2_with (go_at_call 119; refine (withinV_at _ _ _ _ _ _ hq).mono ?_; rintro e w' ⟨rfl, rfl⟩)
    go_ret
    exact ⟨by simp [h1], hnew⟩
theorem mayStand_any (w : World) {s : ByteArray} {pa : Option Addr} {pn pc : Nat} {r : Int} {va : Option Addr} {vn vc : Nat} {ba : Option Addr} {bn bc : Nat} {fa : Option Addr} {fn fc : Nat} {f : Fu} {FS : List Fu} (C : Ctx w s pa pn pc r va vn vc ba bn bc fa fn fc f FS) (i : Nat) (x : Int) :
 Calls Tryz.prog 124 #[.agg #[.string s, .slice pa pn pc, .int .i64 r, .slice va vn vc, .slice ba bn bc, .slice fa fn fc], .int .i64 i, .int .i64 x] w fun e w' => e = .returned (.bool (mayP f x)) /\ Below w.heap.size w w' := by
 have hnew : Below w.heap.size w (w.alloc (.cells #[.string s, .slice pa pn pc, .int .i64 r, .slice va vn vc, .slice ba bn bc, .slice fa fn fc] 77)) := (Below.refl _ _).alloc (Nat.le_refl _) _
 have C2 := C.below hnew (Nat.le_refl _)
 unfold mayP
 rw [<- C.ev]
 cases hq : wi vn x with
 | false =>
   clear C C2
   go_enter Tryz.func124, Tryz.ntmps124
   go_wp2_with (go_at_call 119; refine (withinV_at _ _ _ _ _ _ hq).mono ?_; rintro e w' ⟨rfl, rfl⟩)
   go_ret
   exact ⟨by simp, hnew⟩
 | true =>
   obtain ⟨j, b, o, ka, kl, kc, rfl, hj, hvn, rfl, hlt, c0, c1, c2, c3, hkl, hI⟩ := C2.val hq
   generalize gv f (j : Int) = y at c0 c1 c2 c3 hkl hI
   clear C C2 hkl hI c3
   by_cases h1 : y.op = 33
   ·rw [h1] at c0
    rw [h1]
    go_enter Tryz.func124, Tryz.ntmps124
    go_wp2_with (go_at_call 119; refine (withinV_at _ _ _ _ _ _ hq).mono ?_; rintro e w' ⟨rfl, rfl⟩)
    go_ret
    exact ⟨by simp, hnew⟩
   ·go_enter Tryz.func124, Tryz.ntmps124
    go_wp2_with (go_at_call 119; refine (withinV_at _ _ _ _ _ _ hq).mono ?_; rintro e w' ⟨rfl, rfl⟩)
    go_ret
    exact ⟨by simp [h1], hnew⟩
end Go.Proofs.YtfbkopjncmkbiabGreatDoor
