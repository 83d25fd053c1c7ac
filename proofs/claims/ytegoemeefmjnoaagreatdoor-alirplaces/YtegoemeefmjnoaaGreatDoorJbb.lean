import Derived.Test.YtegoemeefmjnoaaGreatDoorJad
import Derived.Test.YtegoemeefmjnoaaGreatDoorJaw
set_option linter.unusedVariables false
set_option linter.unusedSimpArgs false
namespace Go.Proofs.YtegoemeefmjnoaaGreatDoor
open Go.ChangeShapes Go.WideShapes Go.ChangeAt Go.RowKit
theorem ret_blL {a b : Bool} (h : a = b) : Ending.returned (.bool a) = Ending.returned (.bool b) := by rw [h]
def AsksL (g : Nat) (fs lb : Array Value) (p : Int -> Bool) (L : List Int) (w : World) : Prop :=
 ∀ (W : World) (i : Nat) (h : i < L.length), Below w.heap.size w W -> Calls Tryz.prog g (fs.push (.int .i64 L[i]) ++ lb) W fun e w' => e = .returned (.bool (p L[i])) /\ Below W.heap.size W w'
set_option maxRecDepth 100000 in
set_option maxHeartbeats 2000000 in
theorem indexFunc_any (w : World) (ao : Option Addr) (c n : Nat) (L : List Int) (hn : n = L.length) (hL : Ints w ao c L) (g : Nat) (fs lb : Array Value) (eg : OpensR g) (p : Int -> Bool) (hp : AsksL g fs lb p L w) :
 Calls Tryz.prog 135 #[.slice ao n c, .func (.func g) fs lb] w fun e w' => ∃ r : Int, e = .returned (.int .i64 r) /\ decide (0 <= r) = L.any p /\ Below w.heap.size w w' := by
 have HN : Hid (n = L.length) := hn
 have hb : n <= 9223372036854775807 := by have := hL.le; have := hL.mx; omega
 have HP : Hid (AsksL g fs lb p L w) := hp
 have HL : Hid (Ints w ao c L) := hL
 clear hn hp hL
 go_enter Tryz.func135, Tryz.ntmps135
 go_wp2_with fail
 go_loopw [8] (fun v wr => ∃ k : Nat, k <= n /\ v = .int .i64 k /\ Hid (∀ i (h : i < L.length), i < k -> p L[i] = false) /\ Hid (Below w.heap.size w wr)) (fun v _ => n - (intOf v).toNat)
 case atStart => exact ⟨0, by omega, rfl, fun i _ h => by omega, Below.refl _ _⟩
 case round =>
  obtain ⟨k, hk, rfl, HE, HB⟩ := hrel
  obtain ⟨wq, rfl⟩ : ∃ wq, wq = wr := ⟨_, rfl⟩
  by_cases hlt : k < n
  ·have hk2 : k < L.length := by have := HN.out; omega
   obtain ⟨b, o, rfl, hc⟩ := (HL.out.below HB.out (Nat.le_refl _)).at hk2
   have hcall : Hid (Calls Tryz.prog g (fs.push (.int .i64 L[k]) ++ lb) wq fun e w' => e = .returned (.bool (p L[k])) /\ Below wq.heap.size wq w') := HP.out wq k hk2 HB.out
   have HT : Hid (p L[k] = true -> L.any p = true) := fun h => List.any_eq_true.2 ⟨_, List.getElem_mem hk2, h⟩
   have HFl : Hid (p L[k] = false -> ∀ i (h : i < L.length), i < k + 1 -> p L[i] = false) := fun h i h1 h2 => by
    rcases Nat.lt_succ_iff_lt_or_eq.1 h2 with q | rfl
    ·exact HE.out i h1 q
    ·exact h
   clear HP HE
   generalize L[k] = y at hc hcall HT HFl
   cases hq : p y with
   | true =>
     rw [hq] at hcall
     have HA : Hid (L.any p = true) := HT.out hq
     clear hq HT HFl
     go_wp2_with fail
     rw [eg.out]
     refine Calls.mono hcall.out ?_
     rintro e w' ⟨rfl, hb'⟩
     have HB2 : Hid (Below w.heap.size w w') := HB.out.trans (hb'.mono HB.out.size)
     clear hb'
     go_wp2_with fail
     go_ret
     exact ⟨_, rfl, by rw [HA.out]; simp, HB2.out⟩
   | false =>
     rw [hq] at hcall
     have HE2 : Hid _ := HFl.out hq
     clear hq HT HFl
     go_wp2_with fail
     rw [eg.out]
     refine Calls.mono hcall.out ?_
     rintro e w' ⟨rfl, hb'⟩
     have HB2 : Hid (Below w.heap.size w w') := HB.out.trans (hb'.mono HB.out.size)
     clear hb'
     go_wp2_with fail
     go_roundw
     case rel => exact ⟨k + 1, by omega, by go_num, HE2.out, HB2.out⟩
     case measure => simp [intOf]; omega
  ·have HA : Hid (L.any p = false) := by
    show L.any p = false
    rw [List.any_eq_false]
    intro x hx
    obtain ⟨i, hi, rfl⟩ := List.getElem_of_mem hx
    have := HE.out i hi (by have := HN.out; omega)
    simp [this]
   go_wp2_with fail
   go_ret
   exact ⟨-1, rfl, by rw [HA.out]; rfl, HB.out⟩
set_option maxRecDepth 10000 in
theorem containsFunc_any (w : World) (ao : Option Addr) (c n : Nat) (L : List Int) (hn : n = L.length) (hL : Ints w ao c L) (g : Nat) (fs lb : Array Value) (eg : OpensR g) (p : Int -> Bool) (hp : AsksL g fs lb p L w) :
 Calls Tryz.prog 104 #[.slice ao n c, .func (.func g) fs lb] w fun e w' => e = .returned (.bool (L.any p)) /\ Below w.heap.size w w' := by
 have HC : Hid _ := indexFunc_any w ao c n L hn hL g fs lb eg p hp
 obtain ⟨T, hT⟩ : ∃ T, T = L.any p := ⟨_, rfl⟩
 rw [<- hT] at HC ⊢
 clear hT hL hp eg hn
 go_enter Tryz.func104, Tryz.ntmps104
 go_wp2_with fail
 refine Calls.mono HC.out ?_
 rintro e w' ⟨r, rfl, hr, hb⟩
 have HB : Hid _ := hb
 clear hb
 go_wp2_with fail
 go_ret
 first
  | exact ⟨rfl, HB.out⟩
  | exact ⟨ret_blL hr, HB.out⟩
def rgP (n x : Int) : Bool := decide (0 <= x) && decide (x < n)
theorem below_newL (w : World) (X : Obj) : Below w.heap.size w (w.alloc X) := (Below.refl _ _).alloc (Nat.le_refl _) _
set_option maxRecDepth 10000 in
theorem isReg_any (w : World) {s : ByteArray} {pa : Option Addr} {pn pc : Nat} {rg rs : Int} {ba : Option Addr} {bn bc : Nat} (x : Int) :
 Calls Tryz.prog 106 #[.agg #[.string s, .slice pa pn pc, .int .i64 rg, .int .i64 rs, .slice ba bn bc], .int .i64 x] w fun e w' => e = .returned (.bool (rgP rg x)) /\ Below w.heap.size w w' := by
 have HB : Hid (Below w.heap.size w (w.alloc (.cells #[.string s, .slice pa pn pc, .int .i64 rg, .int .i64 rs, .slice ba bn bc] 125))) := below_newL _ _
 unfold rgP
 by_cases h : 0 <= x
 ·have hd : decide (0 <= x) = true := by simp [h]
  rw [hd, Bool.true_and]
  go_enter Tryz.func106, Tryz.ntmps106
  go_wp2_with fail
  go_ret
  exact ⟨rfl, HB.out⟩
 ·have hd : decide (0 <= x) = false := by simp; omega
  rw [hd, Bool.false_and]
  go_enter Tryz.func106, Tryz.ntmps106
  go_wp2_with fail
  go_ret
  exact ⟨rfl, HB.out⟩
set_option maxRecDepth 10000 in
theorem areReg1_any (w : World) {fb : Nat} {s : ByteArray} {pa : Option Addr} {pn pc : Nat} {rg rs : Int} {ba : Option Addr} {bn bc : Nat} (hk : w.heap[fb]? = some (.cells #[.string s, .slice pa pn pc, .int .i64 rg, .int .i64 rs, .slice ba bn bc] 125 (0, 0))) (x : Int) :
 Calls Tryz.prog 105 #[.int .i64 x, .pointer (some ⟨fb, 0, none⟩)] w fun e w' => e = .returned (.bool (!rgP rg x)) /\ Below w.heap.size w w' := by
 have c0 : w.cell? ⟨fb, 0, none⟩ = some (.string s) := cell_arr hk rfl
 have c1 : w.cell? ⟨fb, 1, none⟩ = some (.slice pa pn pc) := cell_arr hk rfl
 have c2 : w.cell? ⟨fb, 2, none⟩ = some (.int .i64 rg) := cell_arr hk rfl
 have c3 : w.cell? ⟨fb, 3, none⟩ = some (.int .i64 rs) := cell_arr hk rfl
 have c4 : w.cell? ⟨fb, 4, none⟩ = some (.slice ba bn bc) := cell_arr hk rfl
 have HC : Hid _ := isReg_any w (s := s) (pa := pa) (pn := pn) (pc := pc) (rg := rg) (rs := rs) (ba := ba) (bn := bn) (bc := bc) x
 clear hk
 generalize rgP rg x = T at HC ⊢
 go_enter Tryz.func105, Tryz.ntmps105
 go_wp2_with fail
 refine Calls.mono HC.out ?_
 rintro e w1 ⟨rfl, hb⟩
 have HB : Hid _ := hb
 clear hb c0 c1 c2 c3 c4
 go_wp2_with fail
 go_ret
 exact ⟨rfl, HB.out⟩
theorem opens_ar1 : OpensR 105 := OpensR.of (fn := Tryz.f105) Tryz.func105 (by rfl) (by rfl)
set_option maxRecDepth 10000 in
theorem areReg_any (w : World) {s : ByteArray} {pa : Option Addr} {pn pc : Nat} {rg rs : Int} {ba : Option Addr} {bn bc : Nat} {la : Option Addr} {n lc : Nat} {L : List Int} (hL : Ints w la lc L) (hn : n = L.length) :
 Calls Tryz.prog 95 #[.agg #[.string s, .slice pa pn pc, .int .i64 rg, .int .i64 rs, .slice ba bn bc], .slice la n lc] w fun e w' => e = .returned (.bool (L.all (rgP rg))) /\ Below w.heap.size w w' := by
 obtain ⟨W, hW⟩ : ∃ W, W = w.alloc (.cells #[.string s, .slice pa pn pc, .int .i64 rg, .int .i64 rs, .slice ba bn bc] 125) := ⟨_, rfl⟩
 have hb : Below w.heap.size w W := by rw [hW]; exact below_newL _ _
 have hk : W.heap[w.heap.size]? = some (.cells #[.string s, .slice pa pn pc, .int .i64 rg, .int .i64 rs, .slice ba bn bc] 125 (0, 0)) := by rw [hW]; exact heap_alloc_new _ _
 have HC : Hid _ := containsFunc_any W la lc n L hn (hL.below hb (Nat.le_refl _)) 105 #[] #[.pointer (some ⟨w.heap.size, 0, none⟩)] opens_ar1 (fun x => !rgP rg x) (fun W' i h hb' => areReg1_any W' ((hb'.block _ (gl hk)).trans hk) L[i])
 have HB : Hid (Below w.heap.size w W) := hb
 have HE : Hid ((!(L.any fun x => !rgP rg x)) = L.all (rgP rg)) := by
  show _ = _
  rw [List.not_any_eq_all_not]
  simp
 generalize L.all (rgP rg) = T at HE
 generalize L.any (fun x => !rgP rg x) = U at HC HE
 clear hL hn hb hk
 go_enter Tryz.func95, Tryz.ntmps95
 go_wp2_with fail
 rw [<- hW]
 clear hW
 refine Calls.mono HC.out ?_
 rintro e w1 ⟨rfl, hb⟩
 have HB1 : Hid (Below w.heap.size w w1) := HB.out.trans (hb.mono HB.out.size)
 clear hb
 go_wp2_with fail
 go_ret
 exact ⟨ret_blL HE.out, HB1.out⟩
def cn14 (op : Int) (n : Nat) : Bool :=
 if op = 1 \/ op = 24 then decide (n = 0) else if op = 17 \/ op = 18 \/ op = 19 \/ op = 20 \/ op = 23 \/ op = 31 \/ op = 26 \/ op = 27 \/ op = 28 \/ op = 29 then decide (n = 1)
 else if (2 <= op /\ op <= 16) \/ op = 21 \/ op = 30 then decide (n = 2) else if op = 22 then decide (n = 3) else if op = 25 then decide (n <= 8) else false
def im14 (op imm : Int) : Bool :=
 if op = 1 then true else if op = 25 then decide (0 <= imm) else if op = 28 \/ op = 29 \/ op = 30 then decide (1 <= imm) && decide (imm <= 5) else decide (imm = 0)
set_option maxRecDepth 10000 in
theorem countFits_1 (w : World) {dst imm : Int} {ka : Option Addr} {kl kc : Nat} (hc : kl <= kc) (hm : kc <= 9223372036854775807) : Calls Tryz.prog 97 #[.agg #[.int .i64 1, .int .i64 dst, .int .i64 imm, .slice ka kl kc]] w fun e w' => e = .returned (.bool (decide (kl = 0))) /\ Below w.heap.size w w' := by
 have HB : Hid (Below w.heap.size w (w.alloc (.cells #[.int .i64 1, .int .i64 dst, .int .i64 imm, .slice ka kl kc] 147))) := below_newL _ _
 by_cases h : kl = 0
 ·subst h
  go_enter Tryz.func97, Tryz.ntmps97
  go_wp2_with fail
  go_ret
  exact ⟨rfl, HB.out⟩
 ·have hd : ((kl : Int) == 0) = false := by simp; omega
  rw [decide_eq_false h]
  clear h
  go_enter Tryz.func97, Tryz.ntmps97
  go_wp2_with fail
  go_ret
  exact ⟨rfl, HB.out⟩
set_option maxRecDepth 10000 in
theorem countFits_2 (w : World) {dst imm : Int} {ka : Option Addr} {kl kc : Nat} (hc : kl <= kc) (hm : kc <= 9223372036854775807) : Calls Tryz.prog 97 #[.agg #[.int .i64 2, .int .i64 dst, .int .i64 imm, .slice ka kl kc]] w fun e w' => e = .returned (.bool (decide (kl = 2))) /\ Below w.heap.size w w' := by
 have HB : Hid (Below w.heap.size w (w.alloc (.cells #[.int .i64 2, .int .i64 dst, .int .i64 imm, .slice ka kl kc] 147))) := below_newL _ _
 by_cases h : kl = 2
 ·subst h
  go_enter Tryz.func97, Tryz.ntmps97
  go_wp2_with fail
  go_ret
  exact ⟨rfl, HB.out⟩
 ·have hd : ((kl : Int) == 2) = false := by simp; omega
  rw [decide_eq_false h]
  clear h
  go_enter Tryz.func97, Tryz.ntmps97
  go_wp2_with fail
  go_ret
  exact ⟨rfl, HB.out⟩
set_option maxRecDepth 10000 in
theorem countFits_3 (w : World) {dst imm : Int} {ka : Option Addr} {kl kc : Nat} (hc : kl <= kc) (hm : kc <= 9223372036854775807) : Calls Tryz.prog 97 #[.agg #[.int .i64 3, .int .i64 dst, .int .i64 imm, .slice ka kl kc]] w fun e w' => e = .returned (.bool (decide (kl = 2))) /\ Below w.heap.size w w' := by
 have HB : Hid (Below w.heap.size w (w.alloc (.cells #[.int .i64 3, .int .i64 dst, .int .i64 imm, .slice ka kl kc] 147))) := below_newL _ _
 by_cases h : kl = 2
 ·subst h
  go_enter Tryz.func97, Tryz.ntmps97
  go_wp2_with fail
  go_ret
  exact ⟨rfl, HB.out⟩
 ·have hd : ((kl : Int) == 2) = false := by simp; omega
  rw [decide_eq_false h]
  clear h
  go_enter Tryz.func97, Tryz.ntmps97
  go_wp2_with fail
  go_ret
  exact ⟨rfl, HB.out⟩
set_option maxRecDepth 10000 in
theorem countFits_4 (w : World) {dst imm : Int} {ka : Option Addr} {kl kc : Nat} (hc : kl <= kc) (hm : kc <= 9223372036854775807) : Calls Tryz.prog 97 #[.agg #[.int .i64 4, .int .i64 dst, .int .i64 imm, .slice ka kl kc]] w fun e w' => e = .returned (.bool (decide (kl = 2))) /\ Below w.heap.size w w' := by
 have HB : Hid (Below w.heap.size w (w.alloc (.cells #[.int .i64 4, .int .i64 dst, .int .i64 imm, .slice ka kl kc] 147))) := below_newL _ _
 by_cases h : kl = 2
 ·subst h
  go_enter Tryz.func97, Tryz.ntmps97
  go_wp2_with fail
  go_ret
  exact ⟨rfl, HB.out⟩
 ·have hd : ((kl : Int) == 2) = false := by simp; omega
  rw [decide_eq_false h]
  clear h
  go_enter Tryz.func97, Tryz.ntmps97
  go_wp2_with fail
  go_ret
  exact ⟨rfl, HB.out⟩
set_option maxRecDepth 10000 in
theorem countFits_5 (w : World) {dst imm : Int} {ka : Option Addr} {kl kc : Nat} (hc : kl <= kc) (hm : kc <= 9223372036854775807) : Calls Tryz.prog 97 #[.agg #[.int .i64 5, .int .i64 dst, .int .i64 imm, .slice ka kl kc]] w fun e w' => e = .returned (.bool (decide (kl = 2))) /\ Below w.heap.size w w' := by
 have HB : Hid (Below w.heap.size w (w.alloc (.cells #[.int .i64 5, .int .i64 dst, .int .i64 imm, .slice ka kl kc] 147))) := below_newL _ _
 by_cases h : kl = 2
 ·subst h
  go_enter Tryz.func97, Tryz.ntmps97
  go_wp2_with fail
  go_ret
  exact ⟨rfl, HB.out⟩
 ·have hd : ((kl : Int) == 2) = false := by simp; omega
  rw [decide_eq_false h]
  clear h
  go_enter Tryz.func97, Tryz.ntmps97
  go_wp2_with fail
  go_ret
  exact ⟨rfl, HB.out⟩
set_option maxRecDepth 10000 in
theorem countFits_6 (w : World) {dst imm : Int} {ka : Option Addr} {kl kc : Nat} (hc : kl <= kc) (hm : kc <= 9223372036854775807) : Calls Tryz.prog 97 #[.agg #[.int .i64 6, .int .i64 dst, .int .i64 imm, .slice ka kl kc]] w fun e w' => e = .returned (.bool (decide (kl = 2))) /\ Below w.heap.size w w' := by
 have HB : Hid (Below w.heap.size w (w.alloc (.cells #[.int .i64 6, .int .i64 dst, .int .i64 imm, .slice ka kl kc] 147))) := below_newL _ _
 by_cases h : kl = 2
 ·subst h
  go_enter Tryz.func97, Tryz.ntmps97
  go_wp2_with fail
  go_ret
  exact ⟨rfl, HB.out⟩
 ·have hd : ((kl : Int) == 2) = false := by simp; omega
  rw [decide_eq_false h]
  clear h
  go_enter Tryz.func97, Tryz.ntmps97
  go_wp2_with fail
  go_ret
  exact ⟨rfl, HB.out⟩
set_option maxRecDepth 10000 in
theorem countFits_7 (w : World) {dst imm : Int} {ka : Option Addr} {kl kc : Nat} (hc : kl <= kc) (hm : kc <= 9223372036854775807) : Calls Tryz.prog 97 #[.agg #[.int .i64 7, .int .i64 dst, .int .i64 imm, .slice ka kl kc]] w fun e w' => e = .returned (.bool (decide (kl = 2))) /\ Below w.heap.size w w' := by
 have HB : Hid (Below w.heap.size w (w.alloc (.cells #[.int .i64 7, .int .i64 dst, .int .i64 imm, .slice ka kl kc] 147))) := below_newL _ _
 by_cases h : kl = 2
 ·subst h
  go_enter Tryz.func97, Tryz.ntmps97
  go_wp2_with fail
  go_ret
  exact ⟨rfl, HB.out⟩
 ·have hd : ((kl : Int) == 2) = false := by simp; omega
  rw [decide_eq_false h]
  clear h
  go_enter Tryz.func97, Tryz.ntmps97
  go_wp2_with fail
  go_ret
  exact ⟨rfl, HB.out⟩
set_option maxRecDepth 10000 in
theorem countFits_8 (w : World) {dst imm : Int} {ka : Option Addr} {kl kc : Nat} (hc : kl <= kc) (hm : kc <= 9223372036854775807) : Calls Tryz.prog 97 #[.agg #[.int .i64 8, .int .i64 dst, .int .i64 imm, .slice ka kl kc]] w fun e w' => e = .returned (.bool (decide (kl = 2))) /\ Below w.heap.size w w' := by
 have HB : Hid (Below w.heap.size w (w.alloc (.cells #[.int .i64 8, .int .i64 dst, .int .i64 imm, .slice ka kl kc] 147))) := below_newL _ _
 by_cases h : kl = 2
 ·subst h
  go_enter Tryz.func97, Tryz.ntmps97
  go_wp2_with fail
  go_ret
  exact ⟨rfl, HB.out⟩
 ·have hd : ((kl : Int) == 2) = false := by simp; omega
  rw [decide_eq_false h]
  clear h
  go_enter Tryz.func97, Tryz.ntmps97
  go_wp2_with fail
  go_ret
  exact ⟨rfl, HB.out⟩
set_option maxRecDepth 10000 in
theorem countFits_9 (w : World) {dst imm : Int} {ka : Option Addr} {kl kc : Nat} (hc : kl <= kc) (hm : kc <= 9223372036854775807) : Calls Tryz.prog 97 #[.agg #[.int .i64 9, .int .i64 dst, .int .i64 imm, .slice ka kl kc]] w fun e w' => e = .returned (.bool (decide (kl = 2))) /\ Below w.heap.size w w' := by
 have HB : Hid (Below w.heap.size w (w.alloc (.cells #[.int .i64 9, .int .i64 dst, .int .i64 imm, .slice ka kl kc] 147))) := below_newL _ _
 by_cases h : kl = 2
 ·subst h
  go_enter Tryz.func97, Tryz.ntmps97
  go_wp2_with fail
  go_ret
  exact ⟨rfl, HB.out⟩
 ·have hd : ((kl : Int) == 2) = false := by simp; omega
  rw [decide_eq_false h]
  clear h
  go_enter Tryz.func97, Tryz.ntmps97
  go_wp2_with fail
  go_ret
  exact ⟨rfl, HB.out⟩
set_option maxRecDepth 10000 in
theorem countFits_10 (w : World) {dst imm : Int} {ka : Option Addr} {kl kc : Nat} (hc : kl <= kc) (hm : kc <= 9223372036854775807) : Calls Tryz.prog 97 #[.agg #[.int .i64 10, .int .i64 dst, .int .i64 imm, .slice ka kl kc]] w fun e w' => e = .returned (.bool (decide (kl = 2))) /\ Below w.heap.size w w' := by
 have HB : Hid (Below w.heap.size w (w.alloc (.cells #[.int .i64 10, .int .i64 dst, .int .i64 imm, .slice ka kl kc] 147))) := below_newL _ _
 by_cases h : kl = 2
 ·subst h
  go_enter Tryz.func97, Tryz.ntmps97
  go_wp2_with fail
  go_ret
  exact ⟨rfl, HB.out⟩
 ·have hd : ((kl : Int) == 2) = false := by simp; omega
  rw [decide_eq_false h]
  clear h
  go_enter Tryz.func97, Tryz.ntmps97
  go_wp2_with fail
  go_ret
  exact ⟨rfl, HB.out⟩
set_option maxRecDepth 10000 in
theorem countFits_11 (w : World) {dst imm : Int} {ka : Option Addr} {kl kc : Nat} (hc : kl <= kc) (hm : kc <= 9223372036854775807) : Calls Tryz.prog 97 #[.agg #[.int .i64 11, .int .i64 dst, .int .i64 imm, .slice ka kl kc]] w fun e w' => e = .returned (.bool (decide (kl = 2))) /\ Below w.heap.size w w' := by
 have HB : Hid (Below w.heap.size w (w.alloc (.cells #[.int .i64 11, .int .i64 dst, .int .i64 imm, .slice ka kl kc] 147))) := below_newL _ _
 by_cases h : kl = 2
 ·subst h
  go_enter Tryz.func97, Tryz.ntmps97
  go_wp2_with fail
  go_ret
  exact ⟨rfl, HB.out⟩
 ·have hd : ((kl : Int) == 2) = false := by simp; omega
  rw [decide_eq_false h]
  clear h
  go_enter Tryz.func97, Tryz.ntmps97
  go_wp2_with fail
  go_ret
  exact ⟨rfl, HB.out⟩
set_option maxRecDepth 10000 in
theorem countFits_12 (w : World) {dst imm : Int} {ka : Option Addr} {kl kc : Nat} (hc : kl <= kc) (hm : kc <= 9223372036854775807) : Calls Tryz.prog 97 #[.agg #[.int .i64 12, .int .i64 dst, .int .i64 imm, .slice ka kl kc]] w fun e w' => e = .returned (.bool (decide (kl = 2))) /\ Below w.heap.size w w' := by
 have HB : Hid (Below w.heap.size w (w.alloc (.cells #[.int .i64 12, .int .i64 dst, .int .i64 imm, .slice ka kl kc] 147))) := below_newL _ _
 by_cases h : kl = 2
 ·subst h
  go_enter Tryz.func97, Tryz.ntmps97
  go_wp2_with fail
  go_ret
  exact ⟨rfl, HB.out⟩
 ·have hd : ((kl : Int) == 2) = false := by simp; omega
  rw [decide_eq_false h]
  clear h
  go_enter Tryz.func97, Tryz.ntmps97
  go_wp2_with fail
  go_ret
  exact ⟨rfl, HB.out⟩
set_option maxRecDepth 10000 in
theorem countFits_13 (w : World) {dst imm : Int} {ka : Option Addr} {kl kc : Nat} (hc : kl <= kc) (hm : kc <= 9223372036854775807) : Calls Tryz.prog 97 #[.agg #[.int .i64 13, .int .i64 dst, .int .i64 imm, .slice ka kl kc]] w fun e w' => e = .returned (.bool (decide (kl = 2))) /\ Below w.heap.size w w' := by
 have HB : Hid (Below w.heap.size w (w.alloc (.cells #[.int .i64 13, .int .i64 dst, .int .i64 imm, .slice ka kl kc] 147))) := below_newL _ _
 by_cases h : kl = 2
 ·subst h
  go_enter Tryz.func97, Tryz.ntmps97
  go_wp2_with fail
  go_ret
  exact ⟨rfl, HB.out⟩
 ·have hd : ((kl : Int) == 2) = false := by simp; omega
  rw [decide_eq_false h]
  clear h
  go_enter Tryz.func97, Tryz.ntmps97
  go_wp2_with fail
  go_ret
  exact ⟨rfl, HB.out⟩
set_option maxRecDepth 10000 in
theorem countFits_14 (w : World) {dst imm : Int} {ka : Option Addr} {kl kc : Nat} (hc : kl <= kc) (hm : kc <= 9223372036854775807) : Calls Tryz.prog 97 #[.agg #[.int .i64 14, .int .i64 dst, .int .i64 imm, .slice ka kl kc]] w fun e w' => e = .returned (.bool (decide (kl = 2))) /\ Below w.heap.size w w' := by
 have HB : Hid (Below w.heap.size w (w.alloc (.cells #[.int .i64 14, .int .i64 dst, .int .i64 imm, .slice ka kl kc] 147))) := below_newL _ _
 by_cases h : kl = 2
 ·subst h
  go_enter Tryz.func97, Tryz.ntmps97
  go_wp2_with fail
  go_ret
  exact ⟨rfl, HB.out⟩
 ·have hd : ((kl : Int) == 2) = false := by simp; omega
  rw [decide_eq_false h]
  clear h
  go_enter Tryz.func97, Tryz.ntmps97
  go_wp2_with fail
  go_ret
  exact ⟨rfl, HB.out⟩
set_option maxRecDepth 10000 in
theorem countFits_15 (w : World) {dst imm : Int} {ka : Option Addr} {kl kc : Nat} (hc : kl <= kc) (hm : kc <= 9223372036854775807) : Calls Tryz.prog 97 #[.agg #[.int .i64 15, .int .i64 dst, .int .i64 imm, .slice ka kl kc]] w fun e w' => e = .returned (.bool (decide (kl = 2))) /\ Below w.heap.size w w' := by
 have HB : Hid (Below w.heap.size w (w.alloc (.cells #[.int .i64 15, .int .i64 dst, .int .i64 imm, .slice ka kl kc] 147))) := below_newL _ _
 by_cases h : kl = 2
 ·subst h
  go_enter Tryz.func97, Tryz.ntmps97
  go_wp2_with fail
  go_ret
  exact ⟨rfl, HB.out⟩
 ·have hd : ((kl : Int) == 2) = false := by simp; omega
  rw [decide_eq_false h]
  clear h
  go_enter Tryz.func97, Tryz.ntmps97
  go_wp2_with fail
  go_ret
  exact ⟨rfl, HB.out⟩
set_option maxRecDepth 10000 in
theorem countFits_16 (w : World) {dst imm : Int} {ka : Option Addr} {kl kc : Nat} (hc : kl <= kc) (hm : kc <= 9223372036854775807) : Calls Tryz.prog 97 #[.agg #[.int .i64 16, .int .i64 dst, .int .i64 imm, .slice ka kl kc]] w fun e w' => e = .returned (.bool (decide (kl = 2))) /\ Below w.heap.size w w' := by
 have HB : Hid (Below w.heap.size w (w.alloc (.cells #[.int .i64 16, .int .i64 dst, .int .i64 imm, .slice ka kl kc] 147))) := below_newL _ _
 by_cases h : kl = 2
 ·subst h
  go_enter Tryz.func97, Tryz.ntmps97
  go_wp2_with fail
  go_ret
  exact ⟨rfl, HB.out⟩
 ·have hd : ((kl : Int) == 2) = false := by simp; omega
  rw [decide_eq_false h]
  clear h
  go_enter Tryz.func97, Tryz.ntmps97
  go_wp2_with fail
  go_ret
  exact ⟨rfl, HB.out⟩
set_option maxRecDepth 10000 in
theorem countFits_17 (w : World) {dst imm : Int} {ka : Option Addr} {kl kc : Nat} (hc : kl <= kc) (hm : kc <= 9223372036854775807) : Calls Tryz.prog 97 #[.agg #[.int .i64 17, .int .i64 dst, .int .i64 imm, .slice ka kl kc]] w fun e w' => e = .returned (.bool (decide (kl = 1))) /\ Below w.heap.size w w' := by
 have HB : Hid (Below w.heap.size w (w.alloc (.cells #[.int .i64 17, .int .i64 dst, .int .i64 imm, .slice ka kl kc] 147))) := below_newL _ _
 by_cases h : kl = 1
 ·subst h
  go_enter Tryz.func97, Tryz.ntmps97
  go_wp2_with fail
  go_ret
  exact ⟨rfl, HB.out⟩
 ·have hd : ((kl : Int) == 1) = false := by simp; omega
  rw [decide_eq_false h]
  clear h
  go_enter Tryz.func97, Tryz.ntmps97
  go_wp2_with fail
  go_ret
  exact ⟨rfl, HB.out⟩
set_option maxRecDepth 10000 in
theorem countFits_18 (w : World) {dst imm : Int} {ka : Option Addr} {kl kc : Nat} (hc : kl <= kc) (hm : kc <= 9223372036854775807) : Calls Tryz.prog 97 #[.agg #[.int .i64 18, .int .i64 dst, .int .i64 imm, .slice ka kl kc]] w fun e w' => e = .returned (.bool (decide (kl = 1))) /\ Below w.heap.size w w' := by
 have HB : Hid (Below w.heap.size w (w.alloc (.cells #[.int .i64 18, .int .i64 dst, .int .i64 imm, .slice ka kl kc] 147))) := below_newL _ _
 by_cases h : kl = 1
 ·subst h
  go_enter Tryz.func97, Tryz.ntmps97
  go_wp2_with fail
  go_ret
  exact ⟨rfl, HB.out⟩
 ·have hd : ((kl : Int) == 1) = false := by simp; omega
  rw [decide_eq_false h]
  clear h
  go_enter Tryz.func97, Tryz.ntmps97
  go_wp2_with fail
  go_ret
  exact ⟨rfl, HB.out⟩
set_option maxRecDepth 10000 in
theorem countFits_19 (w : World) {dst imm : Int} {ka : Option Addr} {kl kc : Nat} (hc : kl <= kc) (hm : kc <= 9223372036854775807) : Calls Tryz.prog 97 #[.agg #[.int .i64 19, .int .i64 dst, .int .i64 imm, .slice ka kl kc]] w fun e w' => e = .returned (.bool (decide (kl = 1))) /\ Below w.heap.size w w' := by
 have HB : Hid (Below w.heap.size w (w.alloc (.cells #[.int .i64 19, .int .i64 dst, .int .i64 imm, .slice ka kl kc] 147))) := below_newL _ _
 by_cases h : kl = 1
 ·subst h
  go_enter Tryz.func97, Tryz.ntmps97
  go_wp2_with fail
  go_ret
  exact ⟨rfl, HB.out⟩
 ·have hd : ((kl : Int) == 1) = false := by simp; omega
  rw [decide_eq_false h]
  clear h
  go_enter Tryz.func97, Tryz.ntmps97
  go_wp2_with fail
  go_ret
  exact ⟨rfl, HB.out⟩
set_option maxRecDepth 10000 in
theorem countFits_20 (w : World) {dst imm : Int} {ka : Option Addr} {kl kc : Nat} (hc : kl <= kc) (hm : kc <= 9223372036854775807) : Calls Tryz.prog 97 #[.agg #[.int .i64 20, .int .i64 dst, .int .i64 imm, .slice ka kl kc]] w fun e w' => e = .returned (.bool (decide (kl = 1))) /\ Below w.heap.size w w' := by
 have HB : Hid (Below w.heap.size w (w.alloc (.cells #[.int .i64 20, .int .i64 dst, .int .i64 imm, .slice ka kl kc] 147))) := below_newL _ _
 by_cases h : kl = 1
 ·subst h
  go_enter Tryz.func97, Tryz.ntmps97
  go_wp2_with fail
  go_ret
  exact ⟨rfl, HB.out⟩
 ·have hd : ((kl : Int) == 1) = false := by simp; omega
  rw [decide_eq_false h]
  clear h
  go_enter Tryz.func97, Tryz.ntmps97
  go_wp2_with fail
  go_ret
  exact ⟨rfl, HB.out⟩
set_option maxRecDepth 10000 in
theorem countFits_21 (w : World) {dst imm : Int} {ka : Option Addr} {kl kc : Nat} (hc : kl <= kc) (hm : kc <= 9223372036854775807) : Calls Tryz.prog 97 #[.agg #[.int .i64 21, .int .i64 dst, .int .i64 imm, .slice ka kl kc]] w fun e w' => e = .returned (.bool (decide (kl = 2))) /\ Below w.heap.size w w' := by
 have HB : Hid (Below w.heap.size w (w.alloc (.cells #[.int .i64 21, .int .i64 dst, .int .i64 imm, .slice ka kl kc] 147))) := below_newL _ _
 by_cases h : kl = 2
 ·subst h
  go_enter Tryz.func97, Tryz.ntmps97
  go_wp2_with fail
  go_ret
  exact ⟨rfl, HB.out⟩
 ·have hd : ((kl : Int) == 2) = false := by simp; omega
  rw [decide_eq_false h]
  clear h
  go_enter Tryz.func97, Tryz.ntmps97
  go_wp2_with fail
  go_ret
  exact ⟨rfl, HB.out⟩
set_option maxRecDepth 10000 in
theorem countFits_22 (w : World) {dst imm : Int} {ka : Option Addr} {kl kc : Nat} (hc : kl <= kc) (hm : kc <= 9223372036854775807) : Calls Tryz.prog 97 #[.agg #[.int .i64 22, .int .i64 dst, .int .i64 imm, .slice ka kl kc]] w fun e w' => e = .returned (.bool (decide (kl = 3))) /\ Below w.heap.size w w' := by
 have HB : Hid (Below w.heap.size w (w.alloc (.cells #[.int .i64 22, .int .i64 dst, .int .i64 imm, .slice ka kl kc] 147))) := below_newL _ _
 by_cases h : kl = 3
 ·subst h
  go_enter Tryz.func97, Tryz.ntmps97
  go_wp2_with fail
  go_ret
  exact ⟨rfl, HB.out⟩
 ·have hd : ((kl : Int) == 3) = false := by simp; omega
  rw [decide_eq_false h]
  clear h
  go_enter Tryz.func97, Tryz.ntmps97
  go_wp2_with fail
  go_ret
  exact ⟨rfl, HB.out⟩
set_option maxRecDepth 10000 in
theorem countFits_23 (w : World) {dst imm : Int} {ka : Option Addr} {kl kc : Nat} (hc : kl <= kc) (hm : kc <= 9223372036854775807) : Calls Tryz.prog 97 #[.agg #[.int .i64 23, .int .i64 dst, .int .i64 imm, .slice ka kl kc]] w fun e w' => e = .returned (.bool (decide (kl = 1))) /\ Below w.heap.size w w' := by
 have HB : Hid (Below w.heap.size w (w.alloc (.cells #[.int .i64 23, .int .i64 dst, .int .i64 imm, .slice ka kl kc] 147))) := below_newL _ _
 by_cases h : kl = 1
 ·subst h
  go_enter Tryz.func97, Tryz.ntmps97
  go_wp2_with fail
  go_ret
  exact ⟨rfl, HB.out⟩
 ·have hd : ((kl : Int) == 1) = false := by simp; omega
  rw [decide_eq_false h]
  clear h
  go_enter Tryz.func97, Tryz.ntmps97
  go_wp2_with fail
  go_ret
  exact ⟨rfl, HB.out⟩
set_option maxRecDepth 10000 in
theorem countFits_24 (w : World) {dst imm : Int} {ka : Option Addr} {kl kc : Nat} (hc : kl <= kc) (hm : kc <= 9223372036854775807) : Calls Tryz.prog 97 #[.agg #[.int .i64 24, .int .i64 dst, .int .i64 imm, .slice ka kl kc]] w fun e w' => e = .returned (.bool (decide (kl = 0))) /\ Below w.heap.size w w' := by
 have HB : Hid (Below w.heap.size w (w.alloc (.cells #[.int .i64 24, .int .i64 dst, .int .i64 imm, .slice ka kl kc] 147))) := below_newL _ _
 by_cases h : kl = 0
 ·subst h
  go_enter Tryz.func97, Tryz.ntmps97
  go_wp2_with fail
  go_ret
  exact ⟨rfl, HB.out⟩
 ·have hd : ((kl : Int) == 0) = false := by simp; omega
  rw [decide_eq_false h]
  clear h
  go_enter Tryz.func97, Tryz.ntmps97
  go_wp2_with fail
  go_ret
  exact ⟨rfl, HB.out⟩
set_option maxRecDepth 10000 in
theorem countFits_25 (w : World) {dst imm : Int} {ka : Option Addr} {kl kc : Nat} (hc : kl <= kc) (hm : kc <= 9223372036854775807) : Calls Tryz.prog 97 #[.agg #[.int .i64 25, .int .i64 dst, .int .i64 imm, .slice ka kl kc]] w fun e w' => e = .returned (.bool (decide (kl <= 8))) /\ Below w.heap.size w w' := by
 have HB : Hid (Below w.heap.size w (w.alloc (.cells #[.int .i64 25, .int .i64 dst, .int .i64 imm, .slice ka kl kc] 147))) := below_newL _ _
 by_cases h : kl <= 8
 ·have hd : decide ((kl : Int) <= 8) = true := by simp; omega
  rw [decide_eq_true h]
  clear h
  go_enter Tryz.func97, Tryz.ntmps97
  go_wp2_with fail
  go_ret
  exact ⟨rfl, HB.out⟩
 ·have hd : decide ((kl : Int) <= 8) = false := by simp; omega
  rw [decide_eq_false h]
  clear h
  go_enter Tryz.func97, Tryz.ntmps97
  go_wp2_with fail
  go_ret
  exact ⟨rfl, HB.out⟩
set_option maxRecDepth 10000 in
theorem countFits_26 (w : World) {dst imm : Int} {ka : Option Addr} {kl kc : Nat} (hc : kl <= kc) (hm : kc <= 9223372036854775807) : Calls Tryz.prog 97 #[.agg #[.int .i64 26, .int .i64 dst, .int .i64 imm, .slice ka kl kc]] w fun e w' => e = .returned (.bool (decide (kl = 1))) /\ Below w.heap.size w w' := by
 have HB : Hid (Below w.heap.size w (w.alloc (.cells #[.int .i64 26, .int .i64 dst, .int .i64 imm, .slice ka kl kc] 147))) := below_newL _ _
 by_cases h : kl = 1
 ·subst h
  go_enter Tryz.func97, Tryz.ntmps97
  go_wp2_with fail
  go_ret
  exact ⟨rfl, HB.out⟩
 ·have hd : ((kl : Int) == 1) = false := by simp; omega
  rw [decide_eq_false h]
  clear h
  go_enter Tryz.func97, Tryz.ntmps97
  go_wp2_with fail
  go_ret
  exact ⟨rfl, HB.out⟩
set_option maxRecDepth 10000 in
theorem countFits_27 (w : World) {dst imm : Int} {ka : Option Addr} {kl kc : Nat} (hc : kl <= kc) (hm : kc <= 9223372036854775807) : Calls Tryz.prog 97 #[.agg #[.int .i64 27, .int .i64 dst, .int .i64 imm, .slice ka kl kc]] w fun e w' => e = .returned (.bool (decide (kl = 1))) /\ Below w.heap.size w w' := by
 have HB : Hid (Below w.heap.size w (w.alloc (.cells #[.int .i64 27, .int .i64 dst, .int .i64 imm, .slice ka kl kc] 147))) := below_newL _ _
 by_cases h : kl = 1
 ·subst h
  go_enter Tryz.func97, Tryz.ntmps97
  go_wp2_with fail
  go_ret
  exact ⟨rfl, HB.out⟩
 ·have hd : ((kl : Int) == 1) = false := by simp; omega
  rw [decide_eq_false h]
  clear h
  go_enter Tryz.func97, Tryz.ntmps97
  go_wp2_with fail
  go_ret
  exact ⟨rfl, HB.out⟩
set_option maxRecDepth 10000 in
theorem countFits_28 (w : World) {dst imm : Int} {ka : Option Addr} {kl kc : Nat} (hc : kl <= kc) (hm : kc <= 9223372036854775807) : Calls Tryz.prog 97 #[.agg #[.int .i64 28, .int .i64 dst, .int .i64 imm, .slice ka kl kc]] w fun e w' => e = .returned (.bool (decide (kl = 1))) /\ Below w.heap.size w w' := by
 have HB : Hid (Below w.heap.size w (w.alloc (.cells #[.int .i64 28, .int .i64 dst, .int .i64 imm, .slice ka kl kc] 147))) := below_newL _ _
 by_cases h : kl = 1
 ·subst h
  go_enter Tryz.func97, Tryz.ntmps97
  go_wp2_with fail
  go_ret
  exact ⟨rfl, HB.out⟩
 ·have hd : ((kl : Int) == 1) = false := by simp; omega
  rw [decide_eq_false h]
  clear h
  go_enter Tryz.func97, Tryz.ntmps97
  go_wp2_with fail
  go_ret
  exact ⟨rfl, HB.out⟩
set_option maxRecDepth 10000 in
theorem countFits_29 (w : World) {dst imm : Int} {ka : Option Addr} {kl kc : Nat} (hc : kl <= kc) (hm : kc <= 9223372036854775807) : Calls Tryz.prog 97 #[.agg #[.int .i64 29, .int .i64 dst, .int .i64 imm, .slice ka kl kc]] w fun e w' => e = .returned (.bool (decide (kl = 1))) /\ Below w.heap.size w w' := by
 have HB : Hid (Below w.heap.size w (w.alloc (.cells #[.int .i64 29, .int .i64 dst, .int .i64 imm, .slice ka kl kc] 147))) := below_newL _ _
 by_cases h : kl = 1
 ·subst h
  go_enter Tryz.func97, Tryz.ntmps97
  go_wp2_with fail
  go_ret
  exact ⟨rfl, HB.out⟩
 ·have hd : ((kl : Int) == 1) = false := by simp; omega
  rw [decide_eq_false h]
  clear h
  go_enter Tryz.func97, Tryz.ntmps97
  go_wp2_with fail
  go_ret
  exact ⟨rfl, HB.out⟩
set_option maxRecDepth 10000 in
theorem countFits_30 (w : World) {dst imm : Int} {ka : Option Addr} {kl kc : Nat} (hc : kl <= kc) (hm : kc <= 9223372036854775807) : Calls Tryz.prog 97 #[.agg #[.int .i64 30, .int .i64 dst, .int .i64 imm, .slice ka kl kc]] w fun e w' => e = .returned (.bool (decide (kl = 2))) /\ Below w.heap.size w w' := by
 have HB : Hid (Below w.heap.size w (w.alloc (.cells #[.int .i64 30, .int .i64 dst, .int .i64 imm, .slice ka kl kc] 147))) := below_newL _ _
 by_cases h : kl = 2
 ·subst h
  go_enter Tryz.func97, Tryz.ntmps97
  go_wp2_with fail
  go_ret
  exact ⟨rfl, HB.out⟩
 ·have hd : ((kl : Int) == 2) = false := by simp; omega
  rw [decide_eq_false h]
  clear h
  go_enter Tryz.func97, Tryz.ntmps97
  go_wp2_with fail
  go_ret
  exact ⟨rfl, HB.out⟩
set_option maxRecDepth 10000 in
theorem countFits_31 (w : World) {dst imm : Int} {ka : Option Addr} {kl kc : Nat} (hc : kl <= kc) (hm : kc <= 9223372036854775807) : Calls Tryz.prog 97 #[.agg #[.int .i64 31, .int .i64 dst, .int .i64 imm, .slice ka kl kc]] w fun e w' => e = .returned (.bool (decide (kl = 1))) /\ Below w.heap.size w w' := by
 have HB : Hid (Below w.heap.size w (w.alloc (.cells #[.int .i64 31, .int .i64 dst, .int .i64 imm, .slice ka kl kc] 147))) := below_newL _ _
 by_cases h : kl = 1
 ·subst h
  go_enter Tryz.func97, Tryz.ntmps97
  go_wp2_with fail
  go_ret
  exact ⟨rfl, HB.out⟩
 ·have hd : ((kl : Int) == 1) = false := by simp; omega
  rw [decide_eq_false h]
  clear h
  go_enter Tryz.func97, Tryz.ntmps97
  go_wp2_with fail
  go_ret
  exact ⟨rfl, HB.out⟩
end Go.Proofs.YtegoemeefmjnoaaGreatDoor
