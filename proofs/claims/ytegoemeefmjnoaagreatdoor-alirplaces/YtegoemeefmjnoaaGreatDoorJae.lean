import Derived.Laws.AppendOwnNone
import Derived.Laws.MakeOwn
import Derived.Test.YtegoemeefmjnoaaGreatDoorRows
import Derived.WalkKit
import Derived.ProofKit
import Derived.WalkLawsBesides
import Derived.WalkSpells
import Derived.Deep.WholeRow
import Derived.Test.YtegoemeefmjnoaaGreatDoorJad
set_option linter.unusedVariables false
set_option linter.unusedSimpArgs false
namespace Go.Proofs.YtegoemeefmjnoaaGreatDoor
open Go.ChangeShapes Go.WideShapes Go.ChangeAt Go.RowKit Go.Maps
theorem GI.selfE (B : Nat) (w : World) (v : Value) : GI B w w v v := ⟨Below.refl _ _, fun g _ _ => rfl, fun g hg => .inl hg⟩
theorem run_append_zeroE {P : Program} {w : World} (base : Nat) (t ty e : TypeId) (i : TypeInfo) (size : Nat) (ht : P.underlying t = some (.slice e)) (hi : P.info? e = some i) (v : Value) (n : Nat) (xs : List Value) (hown : w.ownsRow base e size v n xs) (xo : Option Addr) (c : Nat) :
 (Builtin.append_ #[t, t] ty #[v, .slice xo 0 c]).run P w = .ok v w := by
 rcases hown.2 with ⟨rfl, rfl⟩ | ⟨g, cap, cur, rfl, _, _, hnc, _⟩
 ·cases xo <;> simp [Builtin.append_, run_underlying ht, sizeOf, typeInfo, hi, Builtin.lenOf, Builtin.firstCells, loadCells, loadCellsFrom]
 ·cases xo <;> simp [Builtin.append_, run_underlying ht, sizeOf, typeInfo, hi, Builtin.lenOf, Builtin.firstCells, hnc, storeCells, loadCells, loadCellsFrom]
theorem step_append_manyE {w : World} {ops : Array Oper} {op : Oper} {a : Act} {K : Act -> World -> Prop} {Q : Exit -> Act -> World -> Prop} {E : Prop} (hgd : op.guard = none) (s x : Operand)
 (ho : op.op = .call { callee := .builtin .append, args := #[s, x], argTypes := #[27, 27] })
 (B : Nat) (v : Value) (n : Nat) (L : List Int) (hs : a.eval s = v) (hown : OwnI w B v n L) (xo : Option Addr) (m c : Nat) (M : List Int) (hx : a.eval x = .slice xo m c) (hm : m = M.length) (hI : Ints w xo c M)
 (hl : n + m <= 17592186044416) (hB : B <= w.heap.size)
 (h : ∀ v' w', OwnI w' B v' (n + m) (L ++ M) -> GI B w w' v v' -> K (a.put op.dst v') w') : if Region.wanted op (yielded ops a.tmps) = true then Oper.wp Tryz.prog op a w K Q else E := by
 have hw : Region.wanted op (yielded ops a.tmps) = true := by simp [Region.wanted, hgd]
 rw [if_pos hw]
 obtain ⟨i0, hi, hz0, hz1, hz2⟩ := info_parts info3i
 by_cases h0 : m = 0
 ·have hM : M = [] := List.length_eq_zero_iff.1 (by omega)
  subst hM
  subst h0
  have hr := run_append_zeroE (P := Tryz.prog) (w := w) B 27 op.type 3 i0 1 Tryz.underlying27 hi v n (ivs L) hown.out xo c
  unfold Oper.wp execOp
  simp only [ho, resolve, invoke, builtin, Sem.run_bind, Sem.run_pure, Result.andThen_ok, List.map_toArray, List.map_cons, List.map_nil, hs, hx, hr]
  exact h v w (by simpa using hown) (GI.selfE _ _ _)
 ·obtain ⟨g, o, rfl, hA⟩ := hI.out (by intro e; rw [e] at hm; simp at hm; omega)
  have hc : ∀ j u, (ivs M)[j]? = some u -> w.cell? ((⟨g, o, none⟩ : Addr).add j) = some u := by
   intro j u hj
   have hjl : j < M.length := by
    have := (List.getElem?_eq_some_iff.1 hj).1
    simpa [ivs] using this
   have := hA.cell j hjl
   rw [add_noneR, this]
   simp [ivs, hjl] at hj
   rw [hj]
  obtain ⟨v', w', hr, h2, h3, h4⟩ := run_append_where (P := Tryz.prog) (w := w) B 27 op.type 3 i0 (.int .i64 0) 1 8 Tryz.underlying27 hi hz0 hz1 hz2 rfl (by decide) v n (ivs L) hown.out ⟨g, o, none⟩ m c (by omega) (ivs M) (by simp [ivs, hm]) hc (ivs_one M) (by unfold maxLen; omega) (by omega) hB
  unfold Oper.wp execOp
  simp only [ho, resolve, invoke, builtin, Sem.run_bind, Sem.run_pure, Result.andThen_ok, List.map_toArray, List.map_cons, List.map_nil, hs, hx, hr]
  refine h v' w' ⟨by have := hown.len; simp; omega, by simpa [ivs] using h2⟩ ⟨?_, fun b h5 h6 => grown_at h3 h5 h6, fun b hb => ?_⟩
  ·exact (Below.refl _ _).grown h3 hB (fun k hk => (own_block hown.out hk).1)
  ·rcases h4.out with ⟨g', cap, e1, e2⟩ | ⟨e1, _⟩
   ·subst e1 e2; exact .inl hb
   ·rw [e1] at hb; cases hb; right; exact Nat.le_refl _
set_option maxRecDepth 10000 in
set_option maxHeartbeats 1000000 in
theorem cloneInts_any (w : World) {ao : Option Addr} {n c : Nat} {L : List Int} (hI : Ints w ao c L) (hn : n = L.length) (hsz : n <= 1000000000) :
 Calls Tryz.prog 39 #[.slice ao n c] w fun e w' => ∃ v, e = .returned v /\ OwnI w' w.heap.size v n L /\ Below w.heap.size w w' := by
 cases ao with
 | none =>
   have e : L = [] := by
    cases L with
    | nil => rfl
    | cons x L => obtain ⟨b, o, e, _⟩ := hI.out (by simp); cases e
   subst e
   simp at hn
   subst hn
   have heq : ∀ w : World, (binOp .eql 27 (.slice none 0 c) (.slice none 0 0)).run Tryz.prog w = .ok (.bool true) w := fun _ => by kernel_rfl
   go_enter Tryz.func39, Tryz.ntmps39
   go_wp2_with fail
   go_ret
   exact ⟨_, rfl, OwnI.nil _ _, Below.refl _ _⟩
 | some ad =>
   obtain ⟨W, hW⟩ : ∃ W, W = w.alloc (.cells #[] 3) := ⟨_, rfl⟩
   have hR : OwnI W w.heap.size (.slice (some ⟨w.heap.size, 0, none⟩) 0 0) 0 [] := by
    rw [hW]
    exact ⟨rfl, ⟨by simp [ivs], .inr ⟨w.heap.size, 0, #[], rfl, Nat.le_refl _, heap_alloc_new _ _, Nat.le_refl _, by unfold maxLen; omega, by simp, by simp [ivs]⟩⟩⟩
   have hb : Below w.heap.size w W := by rw [hW]; exact (Below.refl _ _).alloc (Nat.le_refl _) _
   have HR : Hid _ := hR
   have HB : Hid _ := hb
   have heq : ∀ w : World, (binOp .eql 27 (.slice (some ad) n c) (.slice none 0 0)).run Tryz.prog w = .ok (.bool false) w := fun _ => by kernel_rfl
   have hBs : w.heap.size <= W.heap.size := hb.size
   have HI : Hid (Ints W (some ad) c L) := hI.below hb (Nat.le_refl _)
   have HN : Hid (n = L.length) := hn
   have hlx : 0 + n <= 17592186044416 := by omega
   have hcc : n <= c /\ c <= 9223372036854775807 := by have := hI.le; have := hI.mx; omega
   clear hI hn hR hb
   go_enter Tryz.func39, Tryz.ntmps39
   go_wp2_with (first
    | (at_builtin; rw [<- hW]; refine wpList_step fun K hK => ?_; refine step_append_manyE rfl _ _ rfl w.heap.size (.slice (some ⟨w.heap.size, 0, none⟩) 0 0) 0 [] rfl HR.out (some ad) n c L rfl HN.out HI.out hlx hBs ?_; intro v7 w7 h7 g7; refine hK _ _ ?_; clear hK
       have H7 : Hid (OwnI w7 w.heap.size v7 n L) := by rw [List.nil_append, Nat.zero_add] at h7; exact h7
       have B7 : Hid (Below w.heap.size w w7) := HB.out.trans g7.bel
       clear h7 g7)
    | go_in)
   go_ret
   exact ⟨_, rfl, H7.out, B7.out⟩
theorem info_loc : (Tryz.prog.info? 24).map (fun i => (i.zero, i.size, i.bytes)) = some (some (.agg #[.int .i64 0, .int .i64 0]), 2, 16) := by kernel_rfl
set_option maxRecDepth 10000 in
set_option maxHeartbeats 1000000 in
theorem cloneLoc_any (w : World) {ao : Option Addr} {n c : Nat} {xs : List (List Value)} (hE : StsG w ao c 2 xs) (hn : n = xs.length) (hsz : n <= 10000000) :
 Calls Tryz.prog 36 #[.slice ao n c] w fun e w' => ∃ v, e = .returned v /\ Row w' w.heap.size 24 2 v xs /\ Below w.heap.size w w' := by
 cases ao with
 | none =>
   have e : xs = [] := by
    cases xs with
    | nil => rfl
    | cons x L => obtain ⟨b, o, e, _⟩ := hE.out (by simp); cases e
   subst e
   simp at hn
   subst hn
   have heq : ∀ w : World, (binOp .eql 26 (.slice none 0 c) (.slice none 0 0)).run Tryz.prog w = .ok (.bool true) w := fun _ => by kernel_rfl
   go_enter Tryz.func36, Tryz.ntmps36
   go_wp2_with fail
   go_ret
   exact ⟨_, rfl, Row.nil _ _ _ _, Below.refl _ _⟩
 | some ad =>
   obtain ⟨W, hW⟩ : ∃ W, W = w.alloc (.cells #[] 24) := ⟨_, rfl⟩
   have hR : Row W w.heap.size 24 2 (.slice (some ⟨w.heap.size, 0, none⟩) 0 0) [] := by rw [hW]; exact row_empty w _ 2
   have hb : Below w.heap.size w W := by rw [hW]; exact (Below.refl _ _).alloc (Nat.le_refl _) _
   have HR : Hid _ := hR
   have HB : Hid _ := hb
   have heq : ∀ w : World, (binOp .eql 26 (.slice (some ad) n c) (.slice none 0 0)).run Tryz.prog w = .ok (.bool false) w := fun _ => by kernel_rfl
   have hBs : w.heap.size <= W.heap.size := hb.size
   have HC : Hid (xs ≠ [] -> ∃ a2, some ad = some a2 /\ ∀ j u, xs.flatten[j]? = some u -> W.cell? (a2.add j) = some u) := fun hne => by
    obtain ⟨b, o, e, hlt, hc⟩ := hE.out hne
    refine ⟨ad, rfl, fun j u hu => ?_⟩
    have := hc j u hu
    cases e
    rw [add_noneR]
    exact (hb.cell (p := ⟨b, o + j, none⟩) hlt).trans this
   have HN : Hid (n = xs.length) := hn
   have HL : Hid (∀ y ∈ xs, y.length = 2) := hE.len
   have HO : Hid (∀ u ∈ xs.flatten, u.oneCell' = true) := hE.one
   have hlx : ([] : List (List Value)).length + n <= 1000000000 := by simp; omega
   have hcc : n <= c /\ c <= 9223372036854775807 := by have := hE.le; have := hE.mx; omega
   clear hE hn hR hb
   go_enter Tryz.func36, Tryz.ntmps36
   go_wp2_with (first
    | (at_builtin; rw [<- hW]; refine wpList_step fun K hK => ?_; refine step_append_rowsG rfl _ _ 26 24 2 _ 16 rfl Tryz.underlying26 info_loc rfl (by decide) (by decide) w.heap.size (.slice (some ⟨w.heap.size, 0, none⟩) 0 0) [] rfl HR.out (some ad) n c rfl xs HN.out HL.out HC.out HO.out hlx hBs ?_; intro v7 w7 h7 g7; refine hK _ _ ?_; clear hK
       have H7 : Hid (Row w7 w.heap.size 24 2 v7 xs) := by rw [List.nil_append] at h7; exact h7
       have B7 : Hid (Below w.heap.size w w7) := HB.out.trans g7.bel
       clear h7 g7)
    | go_in)
   go_ret
   exact ⟨_, rfl, H7.out, B7.out⟩
theorem info_ai : (Tryz.prog.info? 29).map (fun i => (i.zero, i.size, i.bytes)) = some (some (.agg #[.int .i64 0, .int .i64 0, .int .i64 0, .int .i64 0, .slice none 0 0, .slice none 0 0]), 6, 80) := by kernel_rfl
set_option maxRecDepth 10000 in
set_option maxHeartbeats 1000000 in
theorem cloneAi_any (w : World) {ao : Option Addr} {n c : Nat} {xs : List (List Value)} (hE : StsG w ao c 6 xs) (hn : n = xs.length) (hsz : n <= 10000000) :
 Calls Tryz.prog 38 #[.slice ao n c] w fun e w' => ∃ v, e = .returned v /\ Row w' w.heap.size 29 6 v xs /\ Below w.heap.size w w' := by
 cases ao with
 | none =>
   have e : xs = [] := by
    cases xs with
    | nil => rfl
    | cons x L => obtain ⟨b, o, e, _⟩ := hE.out (by simp); cases e
   subst e
   simp at hn
   subst hn
   have heq : ∀ w : World, (binOp .eql 30 (.slice none 0 c) (.slice none 0 0)).run Tryz.prog w = .ok (.bool true) w := fun _ => by kernel_rfl
   go_enter Tryz.func38, Tryz.ntmps38
   go_wp2_with fail
   go_ret
   exact ⟨_, rfl, Row.nil _ _ _ _, Below.refl _ _⟩
 | some ad =>
   obtain ⟨W, hW⟩ : ∃ W, W = w.alloc (.cells #[] 29) := ⟨_, rfl⟩
   have hR : Row W w.heap.size 29 6 (.slice (some ⟨w.heap.size, 0, none⟩) 0 0) [] := by rw [hW]; exact row_empty w _ 6
   have hb : Below w.heap.size w W := by rw [hW]; exact (Below.refl _ _).alloc (Nat.le_refl _) _
   have HR : Hid _ := hR
   have HB : Hid _ := hb
   have heq : ∀ w : World, (binOp .eql 30 (.slice (some ad) n c) (.slice none 0 0)).run Tryz.prog w = .ok (.bool false) w := fun _ => by kernel_rfl
   have hBs : w.heap.size <= W.heap.size := hb.size
   have HC : Hid (xs ≠ [] -> ∃ a2, some ad = some a2 /\ ∀ j u, xs.flatten[j]? = some u -> W.cell? (a2.add j) = some u) := fun hne => by
    obtain ⟨b, o, e, hlt, hc⟩ := hE.out hne
    refine ⟨ad, rfl, fun j u hu => ?_⟩
    have := hc j u hu
    cases e
    rw [add_noneR]
    exact (hb.cell (p := ⟨b, o + j, none⟩) hlt).trans this
   have HN : Hid (n = xs.length) := hn
   have HL : Hid (∀ y ∈ xs, y.length = 6) := hE.len
   have HO : Hid (∀ u ∈ xs.flatten, u.oneCell' = true) := hE.one
   have hlx : ([] : List (List Value)).length + n <= 1000000000 := by simp; omega
   have hcc : n <= c /\ c <= 9223372036854775807 := by have := hE.le; have := hE.mx; omega
   clear hE hn hR hb
   go_enter Tryz.func38, Tryz.ntmps38
   go_wp2_with (first
    | (at_builtin; rw [<- hW]; refine wpList_step fun K hK => ?_; refine step_append_rowsG rfl _ _ 30 29 6 _ 80 rfl Tryz.underlying30 info_ai rfl (by decide) (by decide) w.heap.size (.slice (some ⟨w.heap.size, 0, none⟩) 0 0) [] rfl HR.out (some ad) n c rfl xs HN.out HL.out HC.out HO.out hlx hBs ?_; intro v7 w7 h7 g7; refine hK _ _ ?_; clear hK
       have H7 : Hid (Row w7 w.heap.size 29 6 v7 xs) := by rw [List.nil_append] at h7; exact h7
       have B7 : Hid (Below w.heap.size w w7) := HB.out.trans g7.bel
       clear h7 g7)
    | go_in)
   go_ret
   exact ⟨_, rfl, H7.out, B7.out⟩
theorem info_ab : (Tryz.prog.info? 34).map (fun i => (i.zero, i.size, i.bytes)) = some (some (.agg #[.slice none 0 0, .int .i64 0, .int .i64 0, .int .i64 0, .slice none 0 0]), 5, 72) := by kernel_rfl
set_option maxRecDepth 10000 in
set_option maxHeartbeats 1000000 in
theorem cloneAb_any (w : World) {ao : Option Addr} {n c : Nat} {xs : List (List Value)} (hE : StsG w ao c 5 xs) (hn : n = xs.length) (hsz : n <= 10000000) :
 Calls Tryz.prog 37 #[.slice ao n c] w fun e w' => ∃ v, e = .returned v /\ Row w' w.heap.size 34 5 v xs /\ Below w.heap.size w w' := by
 cases ao with
 | none =>
   have e : xs = [] := by
    cases xs with
    | nil => rfl
    | cons x L => obtain ⟨b, o, e, _⟩ := hE.out (by simp); cases e
   subst e
   simp at hn
   subst hn
   have heq : ∀ w : World, (binOp .eql 35 (.slice none 0 c) (.slice none 0 0)).run Tryz.prog w = .ok (.bool true) w := fun _ => by kernel_rfl
   go_enter Tryz.func37, Tryz.ntmps37
   go_wp2_with fail
   go_ret
   exact ⟨_, rfl, Row.nil _ _ _ _, Below.refl _ _⟩
 | some ad =>
   obtain ⟨W, hW⟩ : ∃ W, W = w.alloc (.cells #[] 34) := ⟨_, rfl⟩
   have hR : Row W w.heap.size 34 5 (.slice (some ⟨w.heap.size, 0, none⟩) 0 0) [] := by rw [hW]; exact row_empty w _ 5
   have hb : Below w.heap.size w W := by rw [hW]; exact (Below.refl _ _).alloc (Nat.le_refl _) _
   have HR : Hid _ := hR
   have HB : Hid _ := hb
   have heq : ∀ w : World, (binOp .eql 35 (.slice (some ad) n c) (.slice none 0 0)).run Tryz.prog w = .ok (.bool false) w := fun _ => by kernel_rfl
   have hBs : w.heap.size <= W.heap.size := hb.size
   have HC : Hid (xs ≠ [] -> ∃ a2, some ad = some a2 /\ ∀ j u, xs.flatten[j]? = some u -> W.cell? (a2.add j) = some u) := fun hne => by
    obtain ⟨b, o, e, hlt, hc⟩ := hE.out hne
    refine ⟨ad, rfl, fun j u hu => ?_⟩
    have := hc j u hu
    cases e
    rw [add_noneR]
    exact (hb.cell (p := ⟨b, o + j, none⟩) hlt).trans this
   have HN : Hid (n = xs.length) := hn
   have HL : Hid (∀ y ∈ xs, y.length = 5) := hE.len
   have HO : Hid (∀ u ∈ xs.flatten, u.oneCell' = true) := hE.one
   have hlx : ([] : List (List Value)).length + n <= 1000000000 := by simp; omega
   have hcc : n <= c /\ c <= 9223372036854775807 := by have := hE.le; have := hE.mx; omega
   clear hE hn hR hb
   go_enter Tryz.func37, Tryz.ntmps37
   go_wp2_with (first
    | (at_builtin; rw [<- hW]; refine wpList_step fun K hK => ?_; refine step_append_rowsG rfl _ _ 35 34 5 _ 72 rfl Tryz.underlying35 info_ab rfl (by decide) (by decide) w.heap.size (.slice (some ⟨w.heap.size, 0, none⟩) 0 0) [] rfl HR.out (some ad) n c rfl xs HN.out HL.out HC.out HO.out hlx hBs ?_; intro v7 w7 h7 g7; refine hK _ _ ?_; clear hK
       have H7 : Hid (Row w7 w.heap.size 34 5 v7 xs) := by rw [List.nil_append] at h7; exact h7
       have B7 : Hid (Below w.heap.size w w7) := HB.out.trans g7.bel
       clear h7 g7)
    | go_in)
   go_ret
   exact ⟨_, rfl, H7.out, B7.out⟩
theorem info_af : (Tryz.prog.info? 37).map (fun i => (i.zero, i.size, i.bytes)) = some (some (.agg #[.string ByteArray.empty, .slice none 0 0, .int .i64 0, .int .i64 0, .slice none 0 0]), 5, 80) := by kernel_rfl
set_option maxRecDepth 10000 in
set_option maxHeartbeats 1000000 in
theorem cloneAf_any (w : World) {ao : Option Addr} {n c : Nat} {xs : List (List Value)} (hE : StsG w ao c 5 xs) (hn : n = xs.length) (hsz : n <= 10000000) :
 Calls Tryz.prog 35 #[.slice ao n c] w fun e w' => ∃ v, e = .returned v /\ Row w' w.heap.size 37 5 v xs /\ Below w.heap.size w w' := by
 cases ao with
 | none =>
   have e : xs = [] := by
    cases xs with
    | nil => rfl
    | cons x L => obtain ⟨b, o, e, _⟩ := hE.out (by simp); cases e
   subst e
   simp at hn
   subst hn
   have heq : ∀ w : World, (binOp .eql 42 (.slice none 0 c) (.slice none 0 0)).run Tryz.prog w = .ok (.bool true) w := fun _ => by kernel_rfl
   go_enter Tryz.func35, Tryz.ntmps35
   go_wp2_with fail
   go_ret
   exact ⟨_, rfl, Row.nil _ _ _ _, Below.refl _ _⟩
 | some ad =>
   obtain ⟨W, hW⟩ : ∃ W, W = w.alloc (.cells #[] 37) := ⟨_, rfl⟩
   have hR : Row W w.heap.size 37 5 (.slice (some ⟨w.heap.size, 0, none⟩) 0 0) [] := by rw [hW]; exact row_empty w _ 5
   have hb : Below w.heap.size w W := by rw [hW]; exact (Below.refl _ _).alloc (Nat.le_refl _) _
   have HR : Hid _ := hR
   have HB : Hid _ := hb
   have heq : ∀ w : World, (binOp .eql 42 (.slice (some ad) n c) (.slice none 0 0)).run Tryz.prog w = .ok (.bool false) w := fun _ => by kernel_rfl
   have hBs : w.heap.size <= W.heap.size := hb.size
   have HC : Hid (xs ≠ [] -> ∃ a2, some ad = some a2 /\ ∀ j u, xs.flatten[j]? = some u -> W.cell? (a2.add j) = some u) := fun hne => by
    obtain ⟨b, o, e, hlt, hc⟩ := hE.out hne
    refine ⟨ad, rfl, fun j u hu => ?_⟩
    have := hc j u hu
    cases e
    rw [add_noneR]
    exact (hb.cell (p := ⟨b, o + j, none⟩) hlt).trans this
   have HN : Hid (n = xs.length) := hn
   have HL : Hid (∀ y ∈ xs, y.length = 5) := hE.len
   have HO : Hid (∀ u ∈ xs.flatten, u.oneCell' = true) := hE.one
   have hlx : ([] : List (List Value)).length + n <= 1000000000 := by simp; omega
   have hcc : n <= c /\ c <= 9223372036854775807 := by have := hE.le; have := hE.mx; omega
   clear hE hn hR hb
   go_enter Tryz.func35, Tryz.ntmps35
   go_wp2_with (first
    | (at_builtin; rw [<- hW]; refine wpList_step fun K hK => ?_; refine step_append_rowsG rfl _ _ 42 37 5 _ 80 rfl Tryz.underlying42 info_af rfl (by decide) (by decide) w.heap.size (.slice (some ⟨w.heap.size, 0, none⟩) 0 0) [] rfl HR.out (some ad) n c rfl xs HN.out HL.out HC.out HO.out hlx hBs ?_; intro v7 w7 h7 g7; refine hK _ _ ?_; clear hK
       have H7 : Hid (Row w7 w.heap.size 37 5 v7 xs) := by rw [List.nil_append] at h7; exact h7
       have B7 : Hid (Below w.heap.size w w7) := HB.out.trans g7.bel
       clear h7 g7)
    | go_in)
   go_ret
   exact ⟨_, rfl, H7.out, B7.out⟩
end Go.Proofs.YtegoemeefmjnoaaGreatDoor
namespace Go.Proofs.YtegoemeefmjnoaaGreatDoor
open Go.ChangeShapes Go.WideShapes Go.ChangeAt Go.RowKit
theorem grown_transW {a b c : World} (h : Grown a b) (k : Grown b c) : Grown a c :=
 ⟨World.keptBut_trans h.1 k.1, fun x => (k.2.1 x).trans (h.2.1 x), Nat.le_trans h.2.2 k.2.2⟩
theorem add_anyW (a b : Int) (w : World) : Calls Tryz.prog 108 #[.int .i64 a, .int .i64 b] w fun e w' => e = .returned (.int .i64 (wrap64 (a + b))) /\ w' = w := by
 go_enter Tryz.func108, Tryz.ntmps108
 go_wp2
 go_ret
 exact ⟨rfl, rfl⟩
theorem sub_anyW (a b : Int) (w : World) : Calls Tryz.prog 109 #[.int .i64 a, .int .i64 b] w fun e w' => e = .returned (.int .i64 (wrap64 (a - b))) /\ w' = w := by
 go_enter Tryz.func109, Tryz.ntmps109
 go_wp2
 go_ret
 exact ⟨rfl, rfl⟩
theorem mul_anyW (a b : Int) (w : World) : Calls Tryz.prog 110 #[.int .i64 a, .int .i64 b] w fun e w' => e = .returned (.int .i64 (wrap64 (a * b))) /\ w' = w := by
 go_enter Tryz.func110, Tryz.ntmps110
 go_wp2
 go_ret
 exact ⟨rfl, rfl⟩
theorem and_anyW (a b : Int) (w : World) : Calls Tryz.prog 113 #[.int .i64 a, .int .i64 b] w fun e w' => e = .returned (.int .i64 (bits .and .i64 a b)) /\ w' = w := by
 go_enter Tryz.func113, Tryz.ntmps113
 go_wp2
 go_ret
 exact ⟨rfl, rfl⟩
theorem or_anyW (a b : Int) (w : World) : Calls Tryz.prog 114 #[.int .i64 a, .int .i64 b] w fun e w' => e = .returned (.int .i64 (bits .or .i64 a b)) /\ w' = w := by
 go_enter Tryz.func114, Tryz.ntmps114
 go_wp2
 go_ret
 exact ⟨rfl, rfl⟩
theorem xor_anyW (a b : Int) (w : World) : Calls Tryz.prog 115 #[.int .i64 a, .int .i64 b] w fun e w' => e = .returned (.int .i64 (bits .xor .i64 a b)) /\ w' = w := by
 go_enter Tryz.func115, Tryz.ntmps115
 go_wp2
 go_ret
 exact ⟨rfl, rfl⟩
theorem bic_anyW (a b : Int) (w : World) : Calls Tryz.prog 116 #[.int .i64 a, .int .i64 b] w fun e w' => e = .returned (.int .i64 (bits .andNot .i64 a b)) /\ w' = w := by
 go_enter Tryz.func116, Tryz.ntmps116
 go_wp2
 go_ret
 exact ⟨rfl, rfl⟩
theorem inv_anyW (a : Int) (w : World) : Calls Tryz.prog 127 #[.int .i64 a] w fun e w' => e = .returned (.int .i64 (bits .xor .i64 (-1) a)) /\ w' = w := by
 go_enter Tryz.func127, Tryz.ntmps127
 go_wp2
 go_ret
 exact ⟨rfl, rfl⟩
theorem neg_anyW (a : Int) (w : World) : Calls Tryz.prog 125 #[.int .i64 a] w fun e w' => e = .returned (.int .i64 (wrap64 (-a))) /\ w' = w := by
 go_enter Tryz.func125, Tryz.ntmps125
 go_wp2
 go_ret
 exact ⟨rfl, rfl⟩
def shlIW (a b : Int) : Int := if b < 0 then 0 else wrap64 (a * 2 ^ min b.toNat 64)
def shrIW (a b : Int) : Int := if b < 0 then 0 else a / 2 ^ min b.toNat 64
theorem shl_anyW (a b : Int) (w : World) : Calls Tryz.prog 117 #[.int .i64 a, .int .i64 b] w fun e w' => e = .returned (.int .i64 (shlIW a b)) /\ w' = w := by
 by_cases h : b < 0
 ·have e1 : Hid (shlIW a b = 0) := by unfold shlIW; rw [if_pos h]; rfl
  rw [e1.out]; clear e1
  go_enter Tryz.func117, Tryz.ntmps117
  go_wp2
  go_ret
  exact ⟨rfl, rfl⟩
 ·have e1 : Hid (shlIW a b = wrap64 (a * 2 ^ min b.toNat 64)) := by unfold shlIW; rw [if_neg h]; rfl
  rw [e1.out]; clear e1
  go_enter Tryz.func117, Tryz.ntmps117
  go_wp2
  go_ret
  exact ⟨by rw [<- IntWalk.i64_left]; rfl, rfl⟩
theorem shr_anyW (a b : Int) (w : World) : Calls Tryz.prog 118 #[.int .i64 a, .int .i64 b] w fun e w' => e = .returned (.int .i64 (shrIW a b)) /\ w' = w := by
 by_cases h : b < 0
 ·have e1 : Hid (shrIW a b = 0) := by unfold shrIW; rw [if_pos h]; rfl
  rw [e1.out]; clear e1
  go_enter Tryz.func118, Tryz.ntmps118
  go_wp2
  go_ret
  exact ⟨rfl, rfl⟩
 ·have e1 : Hid (shrIW a b = a / 2 ^ min b.toNat 64) := by unfold shrIW; rw [if_neg h]; rfl
  rw [e1.out]; clear e1
  go_enter Tryz.func118, Tryz.ntmps118
  go_wp2
  go_ret
  exact ⟨rfl, rfl⟩
def divIW (a b : Int) : Int := if b = 0 then 0 else wrap64 (a.tdiv b)
def remIW (a b : Int) : Int := if b = 0 then 0 else a.tmod b
theorem div_anyW (a b : Int) (w : World) : Calls Tryz.prog 111 #[.int .i64 a, .int .i64 b] w fun e w' => e = .returned (.int .i64 (divIW a b)) /\ w' = w := by
 by_cases h : b = 0
 ·subst h
  go_enter Tryz.func111, Tryz.ntmps111
  go_wp2
  go_ret
  exact ⟨rfl, rfl⟩
 ·have e1 : Hid (divIW a b = wrap64 (a.tdiv b)) := by unfold divIW; rw [if_neg h]; rfl
  rw [e1.out]; clear e1
  have h1 : (b == 0) = false := by simp [h]
  go_enter Tryz.func111, Tryz.ntmps111
  go_wp2
  go_ret
  exact ⟨rfl, rfl⟩
theorem rem_anyW (a b : Int) (w : World) : Calls Tryz.prog 112 #[.int .i64 a, .int .i64 b] w fun e w' => e = .returned (.int .i64 (remIW a b)) /\ w' = w := by
 by_cases h : b = 0
 ·subst h
  go_enter Tryz.func112, Tryz.ntmps112
  go_wp2
  go_ret
  exact ⟨rfl, rfl⟩
 ·have e1 : Hid (remIW a b = a.tmod b) := by unfold remIW; rw [if_neg h]; rfl
  rw [e1.out]; clear e1
  have h1 : (b == 0) = false := by simp [h]
  go_enter Tryz.func112, Tryz.ntmps112
  go_wp2
  go_ret
  exact ⟨rfl, rfl⟩
def truthIW (p : Bool) : Int := if p then 1 else 0
theorem truth_anyW (p : Bool) (w : World) : Calls Tryz.prog 120 #[.bool p] w fun e w' => e = .returned (.int .i64 (truthIW p)) /\ w' = w := by
 cases p
 ·go_enter Tryz.func120, Tryz.ntmps120
  go_wp2
  go_ret
  exact ⟨rfl, rfl⟩
 ·go_enter Tryz.func120, Tryz.ntmps120
  go_wp2
  go_ret
  exact ⟨rfl, rfl⟩
theorem eq_anyW (a b : Int) (w : World) : Calls Tryz.prog 119 #[.int .i64 a, .int .i64 b] w fun e w' => e = .returned (.int .i64 (truthIW (a == b))) /\ w' = w := by
 go_enter Tryz.func119, Tryz.ntmps119
 go_wp2_with (go_at_call 120; refine (truth_anyW _ _).mono ?_; rintro e w' ⟨rfl, rfl⟩)
 go_ret
 exact ⟨rfl, rfl⟩
theorem ne_anyW (a b : Int) (w : World) : Calls Tryz.prog 121 #[.int .i64 a, .int .i64 b] w fun e w' => e = .returned (.int .i64 (truthIW (a != b))) /\ w' = w := by
 go_enter Tryz.func121, Tryz.ntmps121
 go_wp2_with (go_at_call 120; refine (truth_anyW _ _).mono ?_; rintro e w' ⟨rfl, rfl⟩)
 go_ret
 exact ⟨rfl, rfl⟩
theorem lt_anyW (a b : Int) (w : World) : Calls Tryz.prog 122 #[.int .i64 a, .int .i64 b] w fun e w' => e = .returned (.int .i64 (truthIW (decide (a < b)))) /\ w' = w := by
 go_enter Tryz.func122, Tryz.ntmps122
 go_wp2_with (go_at_call 120; refine (truth_anyW _ _).mono ?_; rintro e w' ⟨rfl, rfl⟩)
 go_ret
 exact ⟨rfl, rfl⟩
theorem le_anyW (a b : Int) (w : World) : Calls Tryz.prog 123 #[.int .i64 a, .int .i64 b] w fun e w' => e = .returned (.int .i64 (truthIW (decide (a <= b)))) /\ w' = w := by
 go_enter Tryz.func123, Tryz.ntmps123
 go_wp2_with (go_at_call 120; refine (truth_anyW _ _).mono ?_; rintro e w' ⟨rfl, rfl⟩)
 go_ret
 exact ⟨rfl, rfl⟩
theorem neg2_anyW (a b : Int) (w : World) : Calls Tryz.prog 124 #[.int .i64 a, .int .i64 b] w fun e w' => e = .returned (.int .i64 (wrap64 (-a))) /\ w' = w := by
 go_enter Tryz.func124, Tryz.ntmps124
 go_wp2_with (go_at_call 125; refine (neg_anyW _ _).mono ?_; rintro e w' ⟨rfl, rfl⟩)
 go_ret
 exact ⟨rfl, rfl⟩
theorem inv2_anyW (a b : Int) (w : World) : Calls Tryz.prog 126 #[.int .i64 a, .int .i64 b] w fun e w' => e = .returned (.int .i64 (bits .xor .i64 (-1) a)) /\ w' = w := by
 go_enter Tryz.func126, Tryz.ntmps126
 go_wp2_with (go_at_call 127; refine (inv_anyW _ _).mono ?_; rintro e w' ⟨rfl, rfl⟩)
 go_ret
 exact ⟨rfl, rfl⟩
theorem not_anyW (a b : Int) (w : World) : Calls Tryz.prog 128 #[.int .i64 a, .int .i64 b] w fun e w' => e = .returned (.int .i64 (wrap64 (1 - a))) /\ w' = w := by
 go_enter Tryz.func128, Tryz.ntmps128
 go_wp2_with (go_at_call 109; refine (sub_anyW _ _ _).mono ?_; rintro e w' ⟨rfl, rfl⟩)
 go_ret
 exact ⟨rfl, rfl⟩
def tblW : Array Value := #[Value.func (Fn.func 108) #[] #[], Value.func (Fn.func 109) #[] #[], Value.func (Fn.func 110) #[] #[], Value.func (Fn.func 111) #[] #[], Value.func (Fn.func 112) #[] #[], Value.func (Fn.func 113) #[] #[], Value.func (Fn.func 114) #[] #[], Value.func (Fn.func 115) #[] #[], Value.func (Fn.func 116) #[] #[], Value.func (Fn.func 117) #[] #[], Value.func (Fn.func 118) #[] #[], Value.func (Fn.func 119) #[] #[], Value.func (Fn.func 121) #[] #[], Value.func (Fn.func 122) #[] #[], Value.func (Fn.func 123) #[] #[], Value.func (Fn.func 124) #[] #[], Value.func (Fn.func 126) #[] #[], Value.func (Fn.func 128) #[] #[]]
theorem operations_anyW (w : World) : Calls Tryz.prog 101 #[] w fun e w' => e = .returned (.agg tblW) /\ w' = w.alloc (.cells tblW 175) := by
 go_enter Tryz.func101, Tryz.ntmps101
 go_wp2_with (refine wpList_store_row rfl 175 _ _ rfl _ _ rfl rfl 175 _ (heap_alloc_new _ _) (by kernel_rfl) rfl (by kernel_rfl) ?_; rw [World.setRow_alloc_new])
 refine bodyPost_ret (v := .agg tblW) ?_ rfl ⟨rfl, rfl⟩
 exact results_cell_row rfl _ _ _ 175 tblW (0, 0) _ rfl (heap_alloc_new _ _) Tryz.underlying175 rfl (by kernel_rfl)
end Go.Proofs.YtegoemeefmjnoaaGreatDoor
