import Derived.Test.YtfbkopjncmkbiabGreatDoorKbg
set_option linter.unusedVariables false
set_option linter.unusedSimpArgs false
namespace Go.Proofs.YtfbkopjncmkbiabGreatDoor
open Go.ChangeShapes Go.WideShapes Go.ChangeAt Go.RowKit Go.Maps
set_option maxRecDepth 10000 in
set_option maxHeartbeats 1000000 in
theorem cloneI_any (w : World) {ao : Option Addr} {n c : Nat} {L : List Int} (hI : Ints w ao c L) (hn : n = L.length) (hsz : n <= 1000000000) :
 Calls Tryz.prog 14 #[.slice ao n c] w fun e w' => ∃ v, e = .returned v /\ OwnI w' w.heap.size v n L /\ Below w.heap.size w w' := by
 cases ao with
 | none =>
   have e : L = [] := by
    cases L with
    | nil => rfl
    | cons x L => obtain ⟨b, o, e, _⟩ := hI.out (by simp); cases e
   subst e
   simp at hn
   subst hn
   have heq : ∀ w : World, (binOp .eql 23 (.slice none 0 c) (.slice none 0 0)).run Tryz.prog w = .ok (.bool true) w := fun _ => by kernel_rfl
   go_enter Tryz.func14, Tryz.ntmps14
   go_wp2_with fail
   go_ret
   exact ⟨_, rfl, OwnI.nil _ _, Below.refl _ _⟩
 | some ad =>
   obtain ⟨W, hW⟩ : ∃ W, W = w.alloc (.cells #[] 3) := ⟨_, rfl⟩
   have hR : OwnI W w.heap.size (.slice (some ⟨w.heap.size, 0, none⟩) 0 0) 0 [] := by
    rw [hW]
    exact ⟨rfl, ⟨by simp [ivs], .inr ⟨w.heap.size, 0, #[], rfl, Nat.le_refl _, heap_alloc_new _ _, Nat.le_refl _, by unfold maxLen; omega, by simp, by simp [ivs]⟩⟩⟩
   have hb : Below w.heap.size w W := by rw [hW]; exact (Below.refl _ _).alloc (Nat.le_refl _) _
   have HR : Hid _ := hR
   have HB : Hid _ := hb
   have heq : ∀ w : World, (binOp .eql 23 (.slice (some ad) n c) (.slice none 0 0)).run Tryz.prog w = .ok (.bool false) w := fun _ => by kernel_rfl
   have hBs : w.heap.size <= W.heap.size := hb.size
   have HI : Hid (Ints W (some ad) c L) := hI.below hb (Nat.le_refl _)
   have HN : Hid (n = L.length) := hn
   have hlx : 0 + n <= 17592186044416 := by omega
   have hcc : n <= c /\ c <= 9223372036854775807 := by have := hI.le; have := hI.mx; omega
   clear hI hn hR hb
   go_enter Tryz.func14, Tryz.ntmps14
   go_wp2_with (first
    | (at_builtin; rw [<- hW]; refine wpList_step fun K hK => ?_; refine step_append_manyG rfl _ _ rfl w.heap.size (.slice (some ⟨w.heap.size, 0, none⟩) 0 0) 0 [] rfl HR.out (some ad) n c L rfl HN.out HI.out hlx hBs ?_; intro v7 w7 h7 g7; refine hK _ _ ?_; clear hK
       have H7 : Hid (OwnI w7 w.heap.size v7 n L) := by rw [List.nil_append, Nat.zero_add] at h7; exact h7
       have B7 : Hid (Below w.heap.size w w7) := HB.out.trans g7.bel
       clear h7 g7)
    | go_in)
   go_ret
   exact ⟨_, rfl, H7.out, B7.out⟩
structure Sts (w : World) (ao : Option Addr) (c z : Nat) (xs : List (List Value)) : Prop where
 le : xs.length <= c
 mx : c <= 9223372036854775807
 len : ∀ x ∈ xs, x.length = z
 one : ∀ u ∈ xs.flatten, u.oneCell' = true
 out : xs ≠ [] -> ∃ b o, ao = some ⟨b, o, none⟩ /\ b < w.heap.size /\ ∀ j u, xs.flatten[j]? = some u -> w.cell? ((⟨b, o, none⟩ : Addr).add j) = some u
theorem info_sf : (Tryz.prog.info? 33).map (fun i => (i.zero, i.size, i.bytes)) = some (some (.agg #[.string ByteArray.empty, .slice none 0 0, .int .i64 0, .slice none 0 0, .slice none 0 0]), 5, 96) := by kernel_rfl
theorem info_sv : (Tryz.prog.info? 25).map (fun i => (i.zero, i.size, i.bytes)) = some (some (.agg #[.int .i64 0, .int .i64 0, .int .i64 0, .slice none 0 0]), 4, 48) := by kernel_rfl
theorem info_sb : (Tryz.prog.info? 30).map (fun i => (i.zero, i.size, i.bytes)) = some (some (.agg #[.slice none 0 0, .slice none 0 0, .int .i64 0, .int .i64 0, .slice none 0 0, .slice none 0 0]), 6, 112) := by kernel_rfl
set_option maxRecDepth 10000 in
set_option maxHeartbeats 1000000 in
theorem cloneF_any (w : World) {ao : Option Addr} {n c : Nat} {xs : List (List Value)} (hE : Sts w ao c 5 xs) (hn : n = xs.length) (hsz : n <= 10000000) :
 Calls Tryz.prog 38 #[.slice ao n c] w fun e w' => ∃ v, e = .returned v /\ Row w' w.heap.size 33 5 v xs /\ Below w.heap.size w w' := by
 cases ao with
 | none =>
   have e : xs = [] := by
    cases xs with
    | nil => rfl
    | cons x L => obtain ⟨b, o, e, _⟩ := hE.out (by simp); cases e
   subst e
   simp at hn
   subst hn
   have heq : ∀ w : World, (binOp .eql 38 (.slice none 0 c) (.slice none 0 0)).run Tryz.prog w = .ok (.bool true) w := fun _ => by kernel_rfl
   go_enter Tryz.func38, Tryz.ntmps38
   go_wp2_with fail
   go_ret
   exact ⟨_, rfl, Row.nil _ _ _ _, Below.refl _ _⟩
 | some ad =>
   obtain ⟨W, hW⟩ : ∃ W, W = w.alloc (.cells #[] 33) := ⟨_, rfl⟩
   have hR : Row W w.heap.size 33 5 (.slice (some ⟨w.heap.size, 0, none⟩) 0 0) [] := by rw [hW]; exact row_empty w _ 5
   have hb : Below w.heap.size w W := by rw [hW]; exact (Below.refl _ _).alloc (Nat.le_refl _) _
   have HR : Hid _ := hR
   have HB : Hid _ := hb
   have heq : ∀ w : World, (binOp .eql 38 (.slice (some ad) n c) (.slice none 0 0)).run Tryz.prog w = .ok (.bool false) w := fun _ => by kernel_rfl
   have hBs : w.heap.size <= W.heap.size := hb.size
   have HC : Hid (xs ≠ [] -> ∃ a2, some ad = some a2 /\ ∀ j u, xs.flatten[j]? = some u -> W.cell? (a2.add j) = some u) := fun hne => by
    obtain ⟨b, o, e, hlt, hc⟩ := hE.out hne
    refine ⟨ad, rfl, fun j u hu => ?_⟩
    have := hc j u hu
    cases e
    rw [add_noneR] at this ⊢
    exact (hb.cell (p := ⟨b, o + j, none⟩) hlt).trans this
   have HN : Hid (n = xs.length) := hn
   have HL : Hid (∀ y ∈ xs, y.length = 5) := hE.len
   have HO : Hid (∀ u ∈ xs.flatten, u.oneCell' = true) := hE.one
   have hlx : ([] : List (List Value)).length + n <= 1000000000 := by simp; omega
   have hcc : n <= c /\ c <= 9223372036854775807 := by have := hE.le; have := hE.mx; omega
   clear hE hn hR hb
   go_enter Tryz.func38, Tryz.ntmps38
   go_wp2_with (first
    | (at_builtin; rw [<- hW]; refine wpList_step fun K hK => ?_; refine step_append_rowsG rfl _ _ 38 33 5 _ 96 rfl Tryz.underlying38 info_sf rfl (by decide) (by decide) w.heap.size (.slice (some ⟨w.heap.size, 0, none⟩) 0 0) [] rfl HR.out (some ad) n c rfl xs HN.out HL.out HC.out HO.out hlx hBs ?_; intro v7 w7 h7 g7; refine hK _ _ ?_; clear hK
       have H7 : Hid (Row w7 w.heap.size 33 5 v7 xs) := by rw [List.nil_append] at h7; exact h7
       have B7 : Hid (Below w.heap.size w w7) := HB.out.trans g7.bel
       clear h7 g7)
    | go_in)
   go_ret
   exact ⟨_, rfl, H7.out, B7.out⟩
set_option maxRecDepth 10000 in
set_option maxHeartbeats 1000000 in
theorem cloneV_any (w : World) {ao : Option Addr} {n c : Nat} {xs : List (List Value)} (hE : Sts w ao c 4 xs) (hn : n = xs.length) (hsz : n <= 10000000) :
 Calls Tryz.prog 39 #[.slice ao n c] w fun e w' => ∃ v, e = .returned v /\ Row w' w.heap.size 25 4 v xs /\ Below w.heap.size w w' := by
 cases ao with
 | none =>
   have e : xs = [] := by
    cases xs with
    | nil => rfl
    | cons x L => obtain ⟨b, o, e, _⟩ := hE.out (by simp); cases e
   subst e
   simp at hn
   subst hn
   have heq : ∀ w : World, (binOp .eql 26 (.slice none 0 c) (.slice none 0 0)).run Tryz.prog w = .ok (.bool true) w := fun _ => by kernel_rfl
   go_enter Tryz.func39, Tryz.ntmps39
   go_wp2_with fail
   go_ret
   exact ⟨_, rfl, Row.nil _ _ _ _, Below.refl _ _⟩
 | some ad =>
   obtain ⟨W, hW⟩ : ∃ W, W = w.alloc (.cells #[] 25) := ⟨_, rfl⟩
   have hR : Row W w.heap.size 25 4 (.slice (some ⟨w.heap.size, 0, none⟩) 0 0) [] := by rw [hW]; exact row_empty w _ 4
   have hb : Below w.heap.size w W := by rw [hW]; exact (Below.refl _ _).alloc (Nat.le_refl _) _
   have HR : Hid _ := hR
   have HB : Hid _ := hb
   have heq : ∀ w : World, (binOp .eql 26 (.slice (some ad) n c) (.slice none 0 0)).run Tryz.prog w = .ok (.bool false) w := fun _ => by kernel_rfl
   have hBs : w.heap.size <= W.heap.size := hb.size
   have HC : Hid (xs ≠ [] -> ∃ a2, some ad = some a2 /\ ∀ j u, xs.flatten[j]? = some u -> W.cell? (a2.add j) = some u) := fun hne => by
    obtain ⟨b, o, e, hlt, hc⟩ := hE.out hne
    refine ⟨ad, rfl, fun j u hu => ?_⟩
    have := hc j u hu
    cases e
    rw [add_noneR] at this ⊢
    exact (hb.cell (p := ⟨b, o + j, none⟩) hlt).trans this
   have HN : Hid (n = xs.length) := hn
   have HL : Hid (∀ y ∈ xs, y.length = 4) := hE.len
   have HO : Hid (∀ u ∈ xs.flatten, u.oneCell' = true) := hE.one
   have hlx : ([] : List (List Value)).length + n <= 1000000000 := by simp; omega
   have hcc : n <= c /\ c <= 9223372036854775807 := by have := hE.le; have := hE.mx; omega
   clear hE hn hR hb
   go_enter Tryz.func39, Tryz.ntmps39
   go_wp2_with (first
    | (at_builtin; rw [<- hW]; refine wpList_step fun K hK => ?_; refine step_append_rowsG rfl _ _ 26 25 4 _ 48 rfl Tryz.underlying26 info_sv rfl (by decide) (by decide) w.heap.size (.slice (some ⟨w.heap.size, 0, none⟩) 0 0) [] rfl HR.out (some ad) n c rfl xs HN.out HL.out HC.out HO.out hlx hBs ?_; intro v7 w7 h7 g7; refine hK _ _ ?_; clear hK
       have H7 : Hid (Row w7 w.heap.size 25 4 v7 xs) := by rw [List.nil_append] at h7; exact h7
       have B7 : Hid (Below w.heap.size w w7) := HB.out.trans g7.bel
       clear h7 g7)
    | go_in)
   go_ret
   exact ⟨_, rfl, H7.out, B7.out⟩
set_option maxRecDepth 10000 in
set_option maxHeartbeats 1000000 in
theorem cloneB_any (w : World) {ao : Option Addr} {n c : Nat} {xs : List (List Value)} (hE : Sts w ao c 6 xs) (hn : n = xs.length) (hsz : n <= 10000000) :
 Calls Tryz.prog 40 #[.slice ao n c] w fun e w' => ∃ v, e = .returned v /\ Row w' w.heap.size 30 6 v xs /\ Below w.heap.size w w' := by
 cases ao with
 | none =>
   have e : xs = [] := by
    cases xs with
    | nil => rfl
    | cons x L => obtain ⟨b, o, e, _⟩ := hE.out (by simp); cases e
   subst e
   simp at hn
   subst hn
   have heq : ∀ w : World, (binOp .eql 31 (.slice none 0 c) (.slice none 0 0)).run Tryz.prog w = .ok (.bool true) w := fun _ => by kernel_rfl
   go_enter Tryz.func40, Tryz.ntmps40
   go_wp2_with fail
   go_ret
   exact ⟨_, rfl, Row.nil _ _ _ _, Below.refl _ _⟩
 | some ad =>
   obtain ⟨W, hW⟩ : ∃ W, W = w.alloc (.cells #[] 30) := ⟨_, rfl⟩
   have hR : Row W w.heap.size 30 6 (.slice (some ⟨w.heap.size, 0, none⟩) 0 0) [] := by rw [hW]; exact row_empty w _ 6
   have hb : Below w.heap.size w W := by rw [hW]; exact (Below.refl _ _).alloc (Nat.le_refl _) _
   have HR : Hid _ := hR
   have HB : Hid _ := hb
   have heq : ∀ w : World, (binOp .eql 31 (.slice (some ad) n c) (.slice none 0 0)).run Tryz.prog w = .ok (.bool false) w := fun _ => by kernel_rfl
   have hBs : w.heap.size <= W.heap.size := hb.size
   have HC : Hid (xs ≠ [] -> ∃ a2, some ad = some a2 /\ ∀ j u, xs.flatten[j]? = some u -> W.cell? (a2.add j) = some u) := fun hne => by
    obtain ⟨b, o, e, hlt, hc⟩ := hE.out hne
    refine ⟨ad, rfl, fun j u hu => ?_⟩
    have := hc j u hu
    cases e
    rw [add_noneR] at this ⊢
    exact (hb.cell (p := ⟨b, o + j, none⟩) hlt).trans this
   have HN : Hid (n = xs.length) := hn
   have HL : Hid (∀ y ∈ xs, y.length = 6) := hE.len
   have HO : Hid (∀ u ∈ xs.flatten, u.oneCell' = true) := hE.one
   have hlx : ([] : List (List Value)).length + n <= 1000000000 := by simp; omega
   have hcc : n <= c /\ c <= 9223372036854775807 := by have := hE.le; have := hE.mx; omega
   clear hE hn hR hb
   go_enter Tryz.func40, Tryz.ntmps40
   go_wp2_with (first
    | (at_builtin; rw [<- hW]; refine wpList_step fun K hK => ?_; refine step_append_rowsG rfl _ _ 31 30 6 _ 112 rfl Tryz.underlying31 info_sb rfl (by decide) (by decide) w.heap.size (.slice (some ⟨w.heap.size, 0, none⟩) 0 0) [] rfl HR.out (some ad) n c rfl xs HN.out HL.out HC.out HO.out hlx hBs ?_; intro v7 w7 h7 g7; refine hK _ _ ?_; clear hK
       have H7 : Hid (Row w7 w.heap.size 30 6 v7 xs) := by rw [List.nil_append] at h7; exact h7
       have B7 : Hid (Below w.heap.size w w7) := HB.out.trans g7.bel
       clear h7 g7)
    | go_in)
   go_ret
   exact ⟨_, rfl, H7.out, B7.out⟩
theorem flatSet {α : Type} {z : Nat} : ∀ (xs : List (List α)), (∀ x ∈ xs, x.length = z) -> ∀ i (hi : i < xs.length) r, r < z -> ∀ u : α, (xs.set i ((xs[i]).set r u)).flatten = xs.flatten.set (i * z + r) u
 | [], _, i, hi, _, _, _ => by simp at hi
 | x :: xs, h, i, hi, r, hr, u => by
   have h2 := h x (by simp)
   cases i with
   | zero =>
     simp only [List.set_cons_zero, List.flatten_cons, Nat.zero_mul, Nat.zero_add, List.getElem_cons_zero]
     rw [List.set_append_left _ _ (by omega)]
   | succ i =>
     have h1 := flatSet xs (fun y hy => h y (by simp [hy])) i (by simpa using hi) r hr u
     simp only [List.set_cons_succ, List.flatten_cons, List.getElem_cons_succ]
     rw [h1, List.set_append_right _ _ (by rw [h2, Nat.add_mul]; omega), h2, show (i + 1) * z + r - z = i * z + r by rw [Nat.add_mul]; omega]
theorem rowSet {w : World} {B e z b n c : Nat} {xs : List (List Value)} (h : Row w B e z (.slice (some ⟨b, 0, none⟩) n c) xs) (hn : n = xs.length) {i : Nat} (hi : i < xs.length) {r : Nat} (hr : r < z) (u : Value) : Row (w.setCell ⟨b, i * z + r, none⟩ u) B e z (.slice (some ⟨b, 0, none⟩) n c) (xs.set i ((xs[i]).set r u)) := by
 subst hn
 have hlt : i * z + r < xs.length * z := by
  have : (i + 1) * z <= xs.length * z := Nat.mul_le_mul_right z hi
  rw [Nat.add_mul] at this
  omega
 refine ⟨?_, fun x hx => ?_⟩
 ·rw [flatSet xs h.len i hi r hr u, List.length_set]
  exact own_set h.out (i * z + r) hlt u
 ·rcases List.mem_or_eq_of_mem_set hx with q | q
  ·exact h.len x q
  ·rw [q, List.length_set]; exact h.len _ (List.getElem_mem hi)
def Sta (w : World) (B : Nat) (X : Nat -> Prop) (P : World -> Prop) : Prop := ∀ W, (∀ b, B <= b -> b < w.heap.size -> ¬ X b -> W.heap[b]? = w.heap[b]?) -> P W
theorem Sta.below {w w' : World} {B X P} (h : Sta w B X P) (hb : Below w.heap.size w w') : Sta w' B X P := fun W hW => h W fun b h1 h2 h3 => (hW b h1 (by have := hb.size; omega) h3).trans (hb.block b h2)
theorem Sta.set {w : World} {B X P} (h : Sta w B X P) {g i : Nat} (hg : X g) (v : Value) : Sta (w.setCell ⟨g, i, none⟩ v) B X P := fun W hW => h W fun b h1 h2 h3 => (hW b h1 (by simpa [World.setCell] using h2) h3).trans (heap_set_other (fun e => h3 (e ▸ hg)))
theorem st_own {w w1 : World} {B : Nat} {X : Nat -> Prop} {v : Value} {n : Nat} {L : List Int} (hO : OwnI w1 w.heap.size v n L) (hX : ∀ b, X b -> b < w.heap.size) (hB : B <= w.heap.size) : ∃ a c, v = .slice a n c /\ Sta w1 B X (fun W => Ints W a c L) := by
 obtain ⟨a, c, e, h1, h2⟩ := own_slice hO.out
 refine ⟨a, c, e, fun W hW => ?_⟩
 have hO2 : OwnI W w.heap.size v n L := ⟨hO.len, own_move hO.out fun g hg => by
  have := own_block hO.out hg
  exact hW g (by omega) this.2 (fun q => by have := hX g q; omega)⟩
 obtain ⟨a', c', e', hI⟩ := hO2.ints
 rw [e] at e'
 cases e'
 exact hI
structure VEn (w0 w : World) (B : Nat) (X : Nat -> Prop) (nw : Bool) (cs : List Value) (v : Vl) : Prop where
 out : ∃ a k, cs = [.int .i64 v.op, .int .i64 v.ty, .int .i64 v.imm, .slice a v.args.length k] /\ (nw = false -> Ints w0 a k v.args) /\ (nw = true -> Sta w B X (fun W => Ints W a k v.args))
structure VLo (w0 w : World) (B : Nat) (X : Nat -> Prop) (ao : Option Addr) (c j : Nat) (N : List Vl) (xs : List (List Value)) : Prop where
 row : Row w B 25 4 (.slice ao N.length c) xs
 len : xs.length = N.length
 ent : ∀ i (h : i < N.length), VEn w0 w B X (decide (i < j)) (xs.getD i []) N[i]
 low : Below B w0 w
 xv : (∀ V, ao = some ⟨V, 0, none⟩ -> X V) /\ B <= w.heap.size
theorem VEn.below {w0 w w' B X nw cs v} (h : VEn w0 w B X nw cs v) (hb : Below w.heap.size w w') : VEn w0 w' B X nw cs v := by
 obtain ⟨a, k, e, h1, h2⟩ := h.out
 exact ⟨a, k, e, h1, fun q => (h2 q).below hb⟩
theorem VLo.below {w0 w w' B X ao c j N xs} (h : VLo w0 w B X ao c j N xs) (hb : Below w.heap.size w w') : VLo w0 w' B X ao c j N xs :=
 ⟨h.row.keep hb, h.len, fun i hi => (h.ent i hi).below hb, h.low.trans (hb.mono h.xv.2), h.xv.1, by have := hb.size; have := h.xv.2; omega⟩
theorem VLo.put {w0 w w1 B X ao c j N xs} (h : VLo w0 w B X ao c j N xs) {V : Nat} (ha : ao = some ⟨V, 0, none⟩) (hb : Below w.heap.size w w1) (hj : j < N.length) (hX : ∀ b, X b -> b < w.heap.size) {v : Value} (hO : OwnI w1 w.heap.size v N[j].args.length N[j].args) :
 VLo w0 (w1.setCell ⟨V, j * 4 + 3, none⟩ v) B X ao c (j + 1) N (xs.set j ((xs.getD j []).set 3 v)) := by
 subst ha
 have hXV := h.xv.1 V rfl
 have h1 := h.below hb
 have hjx : j < xs.length := by rw [h.len]; exact hj
 have eg : xs.getD j [] = xs[j] := by simp [List.getD, hjx]
 obtain ⟨a, k, ea, sa⟩ := st_own hO hX h.xv.2
 rw [eg]
 refine ⟨rowSet h1.row h.len.symm hjx (by omega) v, by simpa using h.len, fun i hi => ?_, h1.low.setCell (show B <= (⟨V, j * 4 + 3, none⟩ : Addr).block from (own_block h1.row.out rfl).1) _, h.xv.1, by simpa [World.setCell] using h1.xv.2⟩
 have hgd : (xs.set j ((xs[j]).set 3 v)).getD i [] = if i = j then (xs[j]).set 3 v else xs.getD i [] := by
  have hix : i < xs.length := by rw [h.len]; exact hi
  by_cases e : i = j
  ·subst e; simp [List.getD, hix]
  ·rw [if_neg e]
   simp [List.getD, List.getElem?_set_ne (Ne.symm e)]
 rw [hgd]
 by_cases e : i = j
 ·subst e
  rw [if_pos rfl]
  obtain ⟨a', k', e', _, _⟩ := (h1.ent i hi).out
  rw [eg] at e'
  refine ⟨a, k, ?_, fun q => by simp at q, fun _ => sa.set hXV v⟩
  rw [e', ea]
  rfl
 ·rw [if_neg e]
  obtain ⟨a', k', e', q1, q2⟩ := (h1.ent i hi).out
  refine ⟨a', k', e', fun q => q1 (by simp at q ⊢; omega), fun q => (q2 (by simp at q ⊢; omega)).set hXV v⟩
theorem VLo.fin {w0 w B X ao c N xs} (h : VLo w0 w B X ao c N.length N xs) {Y : Nat -> Prop} (hY : ∀ b, Y b -> X b) (hV : ∀ V, ao = some ⟨V, 0, none⟩ -> ¬ Y V) : Sta w B Y (fun W => Vls W ao c N) := by
 intro W hW
 obtain ⟨a, c', e, h1, h2⟩ := own_slice h.row.out
 simp only [Value.slice.injEq] at e
 obtain ⟨_, _, rfl⟩ := e
 refine ⟨by rw [<- h.len]; exact h1, h2, fun hne => ?_⟩
 obtain ⟨V, c2, cs2, e, _⟩ := h.row.some (by rw [h.len]; exact List.length_pos_iff.2 hne)
 simp only [Value.slice.injEq] at e
 obtain ⟨rfl, _, _⟩ := e
 have hR : Row W B 25 4 (.slice (some ⟨V, 0, none⟩) N.length c) xs := h.row.move fun g hg => by
  simp [Value.ownBlock] at hg
  subst hg
  have := own_block h.row.out rfl
  exact hW V this.1 this.2 (hV V rfl)
 refine ⟨V, 0, rfl, (own_block hR.out rfl).2, fun i hi => ?_⟩
 have hix : i < xs.length := by rw [h.len]; exact hi
 obtain ⟨a, k, e, _, q2⟩ := (h.ent i hi).out
 have eg : xs.getD i [] = xs[i] := by simp [List.getD, hix]
 rw [eg] at e
 have cell : ∀ r (hr : r < 4) u, (xs[i])[r]? = some u -> W.cell? ⟨V, 0 + i * 4 + r, none⟩ = some u := fun r hr u hu => by
  rw [Nat.zero_add]
  exact hR.cell h.len.symm hix hr hu
 exact ⟨a, k, cell 0 (by omega) _ (by rw [e]; rfl), cell 1 (by omega) _ (by rw [e]; rfl), cell 2 (by omega) _ (by rw [e]; rfl), cell 3 (by omega) _ (by rw [e]; rfl), q2 (by simpa using hi) W fun b b1 b2 b3 => hW b b1 b2 (fun q => b3 (hY b q))⟩
theorem Sta.up {w w' : World} {B : Nat} {X : Nat -> Prop} {P} (h : Sta w B X P) (hs : w.heap.size <= w'.heap.size) (hk : ∀ b, B <= b -> b < w.heap.size -> ¬ X b -> w'.heap[b]? = w.heap[b]?) : Sta w' B X P := fun W hW => h W fun b h1 h2 h3 => (hW b h1 (by omega) h3).trans (hk b h1 h2 h3)
def fld (b : Bk) : Nat -> List Int
 | 0 => b.phis
 | 1 => b.body
 | 2 => b.ways
 | _ => b.preds
def fix : Nat -> Nat
 | 0 => 0
 | 1 => 1
 | 2 => 4
 | _ => 5
def bcs (b : Bk) (A : Nat -> Option Addr × Nat) : List Value := [.slice (A 0).1 b.phis.length (A 0).2, .slice (A 1).1 b.body.length (A 1).2, .int .i64 b.kind, .int .i64 b.val, .slice (A 2).1 b.ways.length (A 2).2, .slice (A 3).1 b.preds.length (A 3).2]
theorem bcs_set (b : Bk) (A : Nat -> Option Addr × Nat) {t : Nat} (ht : t < 4) (a : Option Addr) (k : Nat) : (bcs b A).set (fix t) (.slice a (fld b t).length k) = bcs b (fun q => if q = t then (a, k) else A q) := by
 have : t = 0 \/ t = 1 \/ t = 2 \/ t = 3 := by omega
 rcases this with rfl | rfl | rfl | rfl <;> rfl
theorem bcs_at (b : Bk) (A : Nat -> Option Addr × Nat) {t : Nat} (ht : t < 4) : (bcs b A)[fix t]? = some (.slice (A t).1 (fld b t).length (A t).2) := by
 have : t = 0 \/ t = 1 \/ t = 2 \/ t = 3 := by omega
 rcases this with rfl | rfl | rfl | rfl <;> rfl
theorem fix_lt {t : Nat} (ht : t < 4) : fix t < 6 := by
 have : t = 0 \/ t = 1 \/ t = 2 \/ t = 3 := by omega
 rcases this with rfl | rfl | rfl | rfl <;> decide
structure BEn (w0 w : World) (B : Nat) (X : Nat -> Prop) (t : Nat) (cs : List Value) (b : Bk) : Prop where
 out : ∃ A, cs = bcs b A /\ ∀ q, q < 4 -> (t <= q -> Ints w0 (A q).1 (A q).2 (fld b q)) /\ (q < t -> Sta w B X (fun W => Ints W (A q).1 (A q).2 (fld b q)))
def stg (j t i : Nat) : Nat := if i < j then 4 else if i = j then t else 0
structure BLo (w0 w : World) (B : Nat) (X : Nat -> Prop) (ao : Option Addr) (c j t : Nat) (N : List Bk) (xs : List (List Value)) : Prop where
 row : Row w B 30 6 (.slice ao N.length c) xs
 len : xs.length = N.length
 ent : ∀ i (h : i < N.length), BEn w0 w B X (stg j t i) (xs.getD i []) N[i]
 low : Below B w0 w
 xv : (∀ K, ao = some ⟨K, 0, none⟩ -> X K) /\ B <= w.heap.size
theorem BEn.below {w0 w w' B X t cs b} (h : BEn w0 w B X t cs b) (hb : Below w.heap.size w w') : BEn w0 w' B X t cs b := by
 obtain ⟨A, e, h1⟩ := h.out
 exact ⟨A, e, fun q hq => ⟨(h1 q hq).1, fun r => ((h1 q hq).2 r).below hb⟩⟩
theorem BLo.below {w0 w w' B X ao c j t N xs} (h : BLo w0 w B X ao c j t N xs) (hb : Below w.heap.size w w') : BLo w0 w' B X ao c j t N xs :=
 ⟨h.row.keep hb, h.len, fun i hi => (h.ent i hi).below hb, h.low.trans (hb.mono h.xv.2), h.xv.1, by have := hb.size; have := h.xv.2; omega⟩
theorem BLo.next {w0 w B X ao c j N xs} (h : BLo w0 w B X ao c j 4 N xs) : BLo w0 w B X ao c (j + 1) 0 N xs :=
 ⟨h.row, h.len, fun i hi => by
  have := h.ent i hi
  have e : stg (j + 1) 0 i = stg j 4 i := by unfold stg; (repeat' split) <;> omega
  rw [e]; exact this, h.low, h.xv⟩
theorem BLo.put {w0 w w1 B X ao c j t N xs} (h : BLo w0 w B X ao c j t N xs) {K : Nat} (ha : ao = some ⟨K, 0, none⟩) (hb : Below w.heap.size w w1) (hj : j < N.length) (ht : t < 4) (hX : ∀ b, X b -> b < w.heap.size) {v : Value} (hO : OwnI w1 w.heap.size v (fld N[j] t).length (fld N[j] t)) :
 BLo w0 (w1.setCell ⟨K, j * 6 + fix t, none⟩ v) B X ao c j (t + 1) N (xs.set j ((xs.getD j []).set (fix t) v)) := by
 subst ha
 have hXV := h.xv.1 K rfl
 have h1 := h.below hb
 have hjx : j < xs.length := by rw [h.len]; exact hj
 have eg : xs.getD j [] = xs[j] := by simp [List.getD, hjx]
 obtain ⟨a, k, ea, sa⟩ := st_own hO hX h.xv.2
 rw [eg]
 refine ⟨rowSet h1.row h.len.symm hjx (fix_lt ht) v, by simpa using h.len, fun i hi => ?_, h1.low.setCell (show B <= (⟨K, j * 6 + fix t, none⟩ : Addr).block from (own_block h1.row.out rfl).1) _, h.xv.1, by simpa [World.setCell] using h1.xv.2⟩
 have hgd : (xs.set j ((xs[j]).set (fix t) v)).getD i [] = if i = j then (xs[j]).set (fix t) v else xs.getD i [] := by
  have hix : i < xs.length := by rw [h.len]; exact hi
  by_cases e : i = j
  ·subst e; simp [List.getD, hix]
  ·rw [if_neg e]
   simp [List.getD, List.getElem?_set_ne (Ne.symm e)]
 rw [hgd]
 by_cases e : i = j
 ·subst e
  rw [if_pos rfl]
  obtain ⟨A, e', q1⟩ := (h1.ent i hi).out
  have es : stg i t i = t := by unfold stg; rw [if_neg (by omega), if_pos rfl]
  have es2 : stg i (t + 1) i = t + 1 := by unfold stg; rw [if_neg (by omega), if_pos rfl]
  rw [eg] at e'
  rw [es] at q1
  rw [es2]
  refine ⟨fun q => if q = t then (a, k) else A q, ?_, fun q hq => ⟨fun r => ?_, fun r => ?_⟩⟩
  ·rw [e', ea, bcs_set _ _ ht]
  ·have eq : ¬ q = t := by omega
   simp only [if_neg eq]; exact (q1 q hq).1 (by omega)
  ·by_cases eq : q = t
   ·subst eq; simp only [if_true]; exact sa.set hXV v
   ·simp only [if_neg eq]; exact ((q1 q hq).2 (by omega)).set hXV v
 ·rw [if_neg e]
  obtain ⟨A, e', q1⟩ := (h1.ent i hi).out
  have es : stg j (t + 1) i = stg j t i := by unfold stg; simp [e]
  rw [es]
  exact ⟨A, e', fun q hq => ⟨(q1 q hq).1, fun r => ((q1 q hq).2 r).set hXV v⟩⟩
theorem BLo.fin {w0 w B X ao c t N xs} (h : BLo w0 w B X ao c N.length t N xs) {Y : Nat -> Prop} (hY : ∀ b, Y b -> X b) (hV : ∀ K, ao = some ⟨K, 0, none⟩ -> ¬ Y K) : Sta w B Y (fun W => Bks W ao c N) := by
 intro W hW
 obtain ⟨a, c', e, h1, h2⟩ := own_slice h.row.out
 simp only [Value.slice.injEq] at e
 obtain ⟨_, _, rfl⟩ := e
 refine ⟨by rw [<- h.len]; exact h1, h2, fun hne => ?_⟩
 obtain ⟨K, c2, cs2, e, _⟩ := h.row.some (by rw [h.len]; exact List.length_pos_iff.2 hne)
 simp only [Value.slice.injEq] at e
 obtain ⟨rfl, _, _⟩ := e
 have hR : Row W B 30 6 (.slice (some ⟨K, 0, none⟩) N.length c) xs := h.row.move fun g hg => by
  simp [Value.ownBlock] at hg
  subst hg
  have := own_block h.row.out rfl
  exact hW K this.1 this.2 (hV K rfl)
 refine ⟨K, 0, rfl, (own_block hR.out rfl).2, fun i hi => ?_⟩
 have hix : i < xs.length := by rw [h.len]; exact hi
 obtain ⟨A, e, q⟩ := (h.ent i hi).out
 have es : stg N.length t i = 4 := by unfold stg; rw [if_pos hi]
 rw [es] at q
 have eg : xs.getD i [] = xs[i] := by simp [List.getD, hix]
 rw [eg] at e
 have cell : ∀ r (hr : r < 6) u, (bcs N[i] A)[r]? = some u -> W.cell? ⟨K, 0 + i * 6 + r, none⟩ = some u := fun r hr u hu => by
  rw [Nat.zero_add]
  exact hR.cell h.len.symm hix hr (by rw [e]; exact hu)
 have st : ∀ q', q' < 4 -> Ints W (A q').1 (A q').2 (fld N[i] q') := fun q' hq => (q q' hq).2 hq W fun b b1 b2 b3 => hW b b1 b2 (fun r => b3 (hY b r))
 exact ⟨_, _, _, _, _, _, _, _, cell 0 (by omega) _ rfl, cell 1 (by omega) _ rfl, cell 2 (by omega) _ rfl, cell 3 (by omega) _ rfl, cell 4 (by omega) _ rfl, cell 5 (by omega) _ rfl, st 0 (by omega), st 1 (by omega), st 2 (by omega), st 3 (by omega)⟩
theorem mkxs {α : Type} {Q : Nat -> α -> Prop} : ∀ n, (∀ i, i < n -> ∃ cs, Q i cs) -> ∃ xs : List α, xs.length = n /\ ∀ i (hi : i < xs.length), Q i xs[i]
 | 0, _ => ⟨[], rfl, fun i hi => by simp at hi⟩
 | n + 1, h => by
   obtain ⟨xs, e, hx⟩ := mkxs n fun i hi => h i (by omega)
   obtain ⟨cs, hc⟩ := h n (by omega)
   refine ⟨xs ++ [cs], by simp [e], fun i hi => ?_⟩
   by_cases hin : i < xs.length
   ·rw [List.getElem_append_left hin]; exact hx i hin
   ·have : i = xs.length := by simp at hi; omega
    subst this
    rw [List.getElem_append_right (by omega)]
    simpa [e] using hc
theorem sts_of {w : World} {b o c z : Nat} {xs : List (List Value)} (hz : 0 < z) (hb : b < w.heap.size) (hl : xs.length <= c) (hm : c <= 9223372036854775807) (h : ∀ i (hi : i < xs.length), (xs[i]).length = z /\ (∀ u ∈ xs[i], u.oneCell' = true) /\ ∀ r u, (xs[i])[r]? = some u -> w.cell? ⟨b, o + i * z + r, none⟩ = some u) : Sts w (some ⟨b, o, none⟩) c z xs := by
 have hlen : ∀ x ∈ xs, x.length = z := fun x hx => by
  obtain ⟨i, hi, rfl⟩ := List.getElem_of_mem hx
  exact (h i hi).1
 refine ⟨hl, hm, hlen, fun u hu => ?_, fun _ => ⟨b, o, rfl, hb, fun j u hu => ?_⟩⟩
 ·obtain ⟨l, hl, hu⟩ := List.mem_flatten.1 hu
  obtain ⟨i, hi, rfl⟩ := List.getElem_of_mem hl
  exact (h i hi).2.1 u hu
 ·rw [add_noneR]
  have hj : j < xs.flatten.length := (List.getElem?_eq_some_iff.1 hu).1
  rw [flat_len xs hlen] at hj
  have hi : j / z < xs.length := by rw [Nat.div_lt_iff_lt_mul hz]; exact hj
  have ej : j = j / z * z + j % z := by rw [Nat.mul_comm]; exact (Nat.div_add_mod j z).symm
  have hr : j % z < z := Nat.mod_lt _ hz
  have e2 : xs.flatten[j]? = (xs[j / z])[j % z]? := by
   have := flat_at xs hlen (j / z) hi (j % z) hr
   rw [<- ej] at this
   exact this
  rw [e2] at hu
  have := (h (j / z) hi).2.2 (j % z) u hu
  rw [show o + j = o + j / z * z + j % z by omega]
  exact this
theorem sts_nil (w : World) {ao : Option Addr} {c z : Nat} (hm : c <= 9223372036854775807) : Sts w ao c z [] := ⟨Nat.zero_le _, hm, fun x hx => by simp at hx, fun u hu => by simp at hu, fun h => absurd rfl h⟩
theorem vls_sts {w : World} {la : Option Addr} {lc : Nat} {N : List Vl} (h : Vls w la lc N) (w1 : World) (B : Nat) (X : Nat -> Prop) : ∃ xs, xs.length = N.length /\ (∀ i (hi : i < N.length), VEn w w1 B X false (xs.getD i []) N[i]) /\ Sts w la lc 4 xs := by
 by_cases hne : N = []
 ·subst hne
  exact ⟨[], rfl, fun i hi => by simp at hi, sts_nil w h.mx⟩
 ·obtain ⟨b, o, rfl, hlt, hA⟩ := h.out hne
  obtain ⟨xs, e, hx⟩ := mkxs (Q := fun i cs => ∃ hi : i < N.length, VEn w w1 B X false cs N[i] /\ cs.length = 4 /\ (∀ u ∈ cs, u.oneCell' = true) /\ ∀ r u, cs[r]? = some u -> w.cell? ⟨b, o + i * 4 + r, none⟩ = some u) N.length fun i hi => by
   obtain ⟨ka, kc, c0, c1, c2, c3, hI⟩ := (hA i hi).out
   refine ⟨[.int .i64 N[i].op, .int .i64 N[i].ty, .int .i64 N[i].imm, .slice ka N[i].args.length kc], hi, ⟨ka, kc, rfl, fun _ => hI, fun q => by cases q⟩, rfl, fun u hu => ?_, fun r u hu => ?_⟩
   ·simp at hu; rcases hu with rfl | rfl | rfl | rfl <;> rfl
   ·match r, hu with
    | 0, hu => simp at hu; subst hu; exact c0
    | 1, hu => simp at hu; subst hu; exact c1
    | 2, hu => simp at hu; subst hu; exact c2
    | 3, hu => simp at hu; subst hu; exact c3
    | r + 4, hu => simp at hu
  refine ⟨xs, e, fun i hi => ?_, sts_of (by omega) hlt (by rw [e]; exact h.le) h.mx fun i hi => ?_⟩
  ·have hix : i < xs.length := by omega
   obtain ⟨_, q, _⟩ := hx i hix
   have eg : xs.getD i [] = xs[i] := by simp [List.getD, hix]
   rw [eg]; exact q
  ·obtain ⟨_, _, q1, q2, q3⟩ := hx i hi
   exact ⟨q1, q2, q3⟩
theorem bks_sts {w : World} {la : Option Addr} {lc : Nat} {N : List Bk} (h : Bks w la lc N) (w1 : World) (B : Nat) (X : Nat -> Prop) : ∃ xs, xs.length = N.length /\ (∀ i (hi : i < N.length), BEn w w1 B X 0 (xs.getD i []) N[i]) /\ Sts w la lc 6 xs := by
 by_cases hne : N = []
 ·subst hne
  exact ⟨[], rfl, fun i hi => by simp at hi, sts_nil w h.mx⟩
 ·obtain ⟨b, o, rfl, hlt, hA⟩ := h.out hne
  obtain ⟨xs, e, hx⟩ := mkxs (Q := fun i cs => ∃ hi : i < N.length, BEn w w1 B X 0 cs N[i] /\ cs.length = 6 /\ (∀ u ∈ cs, u.oneCell' = true) /\ ∀ r u, cs[r]? = some u -> w.cell? ⟨b, o + i * 6 + r, none⟩ = some u) N.length fun i hi => by
   obtain ⟨ka, kc, xa, xc, ma, mc, na, nc, c0, c1, c2, c3, c4, c5, h1, h2, h3, h4⟩ := (hA i hi).out
   refine ⟨bcs N[i] (fun q => match q with | 0 => (ka, kc) | 1 => (xa, xc) | 2 => (ma, mc) | _ => (na, nc)), hi, ⟨_, rfl, fun q hq => ⟨fun _ => ?_, fun r => by omega⟩⟩, rfl, fun u hu => ?_, fun r u hu => ?_⟩
   ·have : q = 0 \/ q = 1 \/ q = 2 \/ q = 3 := by omega
    rcases this with rfl | rfl | rfl | rfl
    ·exact h1
    ·exact h2
    ·exact h3
    ·exact h4
   ·simp [bcs] at hu; rcases hu with rfl | rfl | rfl | rfl | rfl | rfl <;> rfl
   ·match r, hu with
    | 0, hu => simp [bcs] at hu; subst hu; exact c0
    | 1, hu => simp [bcs] at hu; subst hu; exact c1
    | 2, hu => simp [bcs] at hu; subst hu; exact c2
    | 3, hu => simp [bcs] at hu; subst hu; exact c3
    | 4, hu => simp [bcs] at hu; subst hu; exact c4
    | 5, hu => simp [bcs] at hu; subst hu; exact c5
    | r + 6, hu => simp [bcs] at hu
  refine ⟨xs, e, fun i hi => ?_, sts_of (by omega) hlt (by rw [e]; exact h.le) h.mx fun i hi => ?_⟩
  ·have hix : i < xs.length := by omega
   obtain ⟨_, q, _⟩ := hx i hix
   have eg : xs.getD i [] = xs[i] := by simp [List.getD, hix]
   rw [eg]; exact q
  ·obtain ⟨_, _, q1, q2, q3⟩ := hx i hi
   exact ⟨q1, q2, q3⟩
def fcs (f : Fu) (A : Nat -> Option Addr × Nat) : List Value := [.string f.name, .slice (A 0).1 f.params.length (A 0).2, .int .i64 f.result, .slice (A 1).1 f.vals.length (A 1).2, .slice (A 2).1 f.blks.length (A 2).2]
structure FUn (w0 : World) (cs : List Value) (f : Fu) : Prop where
 out : ∃ A, cs = fcs f A /\ Ints w0 (A 0).1 (A 0).2 f.params /\ Vls w0 (A 1).1 (A 1).2 f.vals /\ Bks w0 (A 2).1 (A 2).2 f.blks
structure FDn (w : World) (B L : Nat) (cs : List Value) (f : Fu) : Prop where
 out : ∃ A, cs = fcs f A /\ Sta w B (fun b => b = L) (fun W => Ints W (A 0).1 (A 0).2 f.params /\ Vls W (A 1).1 (A 1).2 f.vals /\ Bks W (A 2).1 (A 2).2 f.blks)
theorem fus_sts {w : World} {la : Option Addr} {lc : Nat} {N : List Fu} (h : Fus w la lc N) : ∃ xs, xs.length = N.length /\ (∀ i (hi : i < N.length), FUn w (xs.getD i []) N[i]) /\ Sts w la lc 5 xs := by
 by_cases hne : N = []
 ·subst hne
  exact ⟨[], rfl, fun i hi => by simp at hi, sts_nil w h.mx⟩
 ·obtain ⟨b, o, rfl, hlt, hA⟩ := h.out hne
  obtain ⟨xs, e, hx⟩ := mkxs (Q := fun i cs => ∃ hi : i < N.length, FUn w cs N[i] /\ cs.length = 5 /\ (∀ u ∈ cs, u.oneCell' = true) /\ ∀ r u, cs[r]? = some u -> w.cell? ⟨b, o + i * 5 + r, none⟩ = some u) N.length fun i hi => by
   obtain ⟨ka, kc, xa, xc, ma, mc, c0, c1, c2, c3, c4, h1, h2, h3⟩ := (hA i hi).out
   refine ⟨fcs N[i] (fun q => match q with | 0 => (ka, kc) | 1 => (xa, xc) | _ => (ma, mc)), hi, ⟨_, rfl, h1, h2, h3⟩, rfl, fun u hu => ?_, fun r u hu => ?_⟩
   ·simp [fcs] at hu; rcases hu with rfl | rfl | rfl | rfl | rfl <;> rfl
   ·match r, hu with
    | 0, hu => simp [fcs] at hu; subst hu; exact c0
    | 1, hu => simp [fcs] at hu; subst hu; exact c1
    | 2, hu => simp [fcs] at hu; subst hu; exact c2
    | 3, hu => simp [fcs] at hu; subst hu; exact c3
    | 4, hu => simp [fcs] at hu; subst hu; exact c4
    | r + 5, hu => simp [fcs] at hu
  refine ⟨xs, e, fun i hi => ?_, sts_of (by omega) hlt (by rw [e]; exact h.le) h.mx fun i hi => ?_⟩
  ·have hix : i < xs.length := by omega
   obtain ⟨_, q, _⟩ := hx i hix
   have eg : xs.getD i [] = xs[i] := by simp [List.getD, hix]
   rw [eg]; exact q
  ·obtain ⟨_, _, q1, q2, q3⟩ := hx i hi
   exact ⟨q1, q2, q3⟩
structure FAll (w0 w : World) (B L c j : Nat) (FS : List Fu) (xs : List (List Value)) : Prop where
 row : Row w B 33 5 (.slice (some ⟨L, 0, none⟩) FS.length c) xs
 len : xs.length = FS.length
 old : ∀ i (h : i < FS.length), j <= i -> FUn w0 (xs.getD i []) FS[i]
 new : ∀ i (h : i < FS.length), i < j -> FDn w B L (xs.getD i []) FS[i]
 low : Below B w0 w
 hB : B <= w.heap.size
structure FOp (w0 wf w : World) (B L c j : Nat) (FS : List Fu) (xs : List (List Value)) (A : Nat -> Option Addr × Nat) : Prop where
 row : Row w B 33 5 (.slice (some ⟨L, 0, none⟩) FS.length c) xs
 len : xs.length = FS.length
 old : ∀ i (h : i < FS.length), j < i -> FUn w0 (xs.getD i []) FS[i]
 new : ∀ i (h : i < FS.length), i < j -> FDn wf B L (xs.getD i []) FS[i]
 cur : ∀ h : j < FS.length, xs.getD j [] = fcs FS[j] A
 low : Below B w0 w
 szs : B <= wf.heap.size /\ wf.heap.size <= w.heap.size /\ L < wf.heap.size /\ B <= L
 agr : ∀ b, b < wf.heap.size -> b ≠ L -> w.heap[b]? = wf.heap[b]?
theorem FAll.start {w0 w B L c j FS xs} (h : FAll w0 w B L c j FS xs) (hj : j < FS.length) : ∃ A, FOp w0 w w B L c j FS xs A /\ Ints w0 (A 0).1 (A 0).2 FS[j].params /\ Vls w0 (A 1).1 (A 1).2 FS[j].vals /\ Bks w0 (A 2).1 (A 2).2 FS[j].blks := by
 obtain ⟨A, e, h1, h2, h3⟩ := (h.old j hj (Nat.le_refl _)).out
 have hb := own_block h.row.out rfl
 exact ⟨A, ⟨h.row, h.len, fun i hi q => h.old i hi (by omega), h.new, fun _ => e, h.low, ⟨h.hB, Nat.le_refl _, hb.2, hb.1⟩, fun _ _ _ => rfl⟩, h1, h2, h3⟩
theorem FOp.move {w0 wf w w' B L c j FS xs A} (h : FOp w0 wf w B L c j FS xs A) (hs : w.heap.size <= w'.heap.size) (hk : ∀ b, b < wf.heap.size -> w'.heap[b]? = w.heap[b]?) (hl : Below B w0 w') : FOp w0 wf w' B L c j FS xs A :=
 ⟨h.row.move fun g hg => by simp [Value.ownBlock] at hg; subst hg; exact hk L h.szs.2.2.1, h.len, h.old, h.new, h.cur, hl, ⟨h.szs.1, by have := h.szs.2.1; omega, h.szs.2.2⟩, fun b h1 h2 => (hk b h1).trans (h.agr b h1 h2)⟩
def fxx : Nat -> Nat
 | 0 => 1
 | 1 => 3
 | _ => 4
def fln (f : Fu) : Nat -> Nat
 | 0 => f.params.length
 | 1 => f.vals.length
 | _ => f.blks.length
theorem fcs_set (f : Fu) (A : Nat -> Option Addr × Nat) {q : Nat} (hq : q < 3) (a : Option Addr) (k : Nat) : (fcs f A).set (fxx q) (.slice a (fln f q) k) = fcs f (fun i => if i = q then (a, k) else A i) := by
 have : q = 0 \/ q = 1 \/ q = 2 := by omega
 rcases this with rfl | rfl | rfl <;> rfl
theorem FOp.put {w0 wf w B L c j FS xs A} (h : FOp w0 wf w B L c j FS xs A) (hj : j < FS.length) {q : Nat} (hq : q < 3) (a : Option Addr) (k : Nat) :
 FOp w0 wf (w.setCell ⟨L, j * 5 + fxx q, none⟩ (.slice a (fln FS[j] q) k)) B L c j FS (xs.set j ((xs.getD j []).set (fxx q) (.slice a (fln FS[j] q) k))) (fun i => if i = q then (a, k) else A i) := by
 have hjx : j < xs.length := by rw [h.len]; exact hj
 have eg : xs.getD j [] = xs[j] := by simp [List.getD, hjx]
 have hr : fxx q < 5 := by
  have : q = 0 \/ q = 1 \/ q = 2 := by omega
  rcases this with rfl | rfl | rfl <;> decide
 have ne : ∀ i, i ≠ j -> (xs.set j ((xs[j]).set (fxx q) (.slice a (fln FS[j] q) k))).getD i [] = xs.getD i [] := fun i e => by
  simp [List.getD, List.getElem?_set_ne (Ne.symm e)]
 have hc := h.cur hj
 rw [eg] at hc ⊢
 refine ⟨rowSet h.row h.len.symm hjx hr _, by simpa using h.len, fun i hi r => by rw [ne i (by omega)]; exact h.old i hi r, fun i hi r => by rw [ne i (by omega)]; exact h.new i hi r, fun _ => ?_, h.low.setCell (show B <= (⟨L, j * 5 + fxx q, none⟩ : Addr).block from h.szs.2.2.2) _, by simpa [World.setCell] using h.szs, fun b h1 h2 => (heap_set_other h2).trans (h.agr b h1 h2)⟩
 rw [<- fcs_set _ _ hq, <- hc]
 simp [List.getD, hjx]
theorem FOp.close {w0 wf w B L c j FS xs A} (h : FOp w0 wf w B L c j FS xs A) (hj : j < FS.length) (hs : Sta w B (fun b => b = L) (fun W => Ints W (A 0).1 (A 0).2 FS[j].params /\ Vls W (A 1).1 (A 1).2 FS[j].vals /\ Bks W (A 2).1 (A 2).2 FS[j].blks)) : FAll w0 w B L c (j + 1) FS xs :=
 ⟨h.row, h.len, fun i hi q => h.old i hi (by omega), fun i hi q => by
  by_cases e : i = j
  ·subst e
   exact ⟨A, h.cur hi, hs⟩
  ·obtain ⟨A', e', s'⟩ := (h.new i hi (by omega)).out
   exact ⟨A', e', s'.up h.szs.2.1 fun b _ h2 h3 => h.agr b h2 h3⟩, h.low, by have := h.szs; omega⟩
theorem FOp.cell {w0 wf w B L c j FS xs A} (h : FOp w0 wf w B L c j FS xs A) (hj : j < FS.length) {r : Nat} (hr : r < 5) {u : Value} (hu : (fcs FS[j] A)[r]? = some u) : w.cell? ⟨L, j * 5 + r, none⟩ = some u /\ w.frozen? ⟨L, j * 5 + r, none⟩ = false /\ L < w.heap.size := by
 have hjx : j < xs.length := by rw [h.len]; exact hj
 have eg : xs.getD j [] = xs[j] := by simp [List.getD, hjx]
 have hc := h.cur hj
 rw [eg] at hc
 exact ⟨h.row.cell h.len.symm hjx hr (by rw [hc]; exact hu), (by have o := h.row.out; rw [<- h.len] at o; exact own_fz o _), (own_block h.row.out rfl).2⟩
theorem FAll.fin {w0 w B L c FS xs} (h : FAll w0 w B L c FS.length FS xs) : ∀ W, (∀ b, B <= b -> b < w.heap.size -> W.heap[b]? = w.heap[b]?) -> Fus W (some ⟨L, 0, none⟩) c FS := by
 intro W hW
 obtain ⟨a, c', e, h1, h2⟩ := own_slice h.row.out
 simp only [Value.slice.injEq] at e
 obtain ⟨_, _, rfl⟩ := e
 have hR : Row W B 33 5 (.slice (some ⟨L, 0, none⟩) FS.length c) xs := h.row.move fun g hg => by
  simp [Value.ownBlock] at hg
  subst hg
  have := own_block h.row.out rfl
  exact hW L this.1 this.2
 refine ⟨by rw [<- h.len]; exact h1, h2, fun hne => ⟨L, 0, rfl, (own_block hR.out rfl).2, fun i hi => ?_⟩⟩
 have hix : i < xs.length := by rw [h.len]; exact hi
 obtain ⟨A, e, s⟩ := (h.new i hi hi).out
 have eg : xs.getD i [] = xs[i] := by simp [List.getD, hix]
 rw [eg] at e
 have cell : ∀ r (hr : r < 5) u, (fcs FS[i] A)[r]? = some u -> W.cell? ⟨L, 0 + i * 5 + r, none⟩ = some u := fun r hr u hu => by
  rw [Nat.zero_add]
  exact hR.cell h.len.symm hix hr (by rw [e]; exact hu)
 obtain ⟨q1, q2, q3⟩ := s W fun b b1 b2 _ => hW b b1 b2
 exact ⟨_, _, _, _, _, _, cell 0 (by omega) _ rfl, cell 1 (by omega) _ rfl, cell 2 (by omega) _ rfl, cell 3 (by omega) _ rfl, cell 4 (by omega) _ rfl, q1, q2, q3⟩
end Go.Proofs.YtfbkopjncmkbiabGreatDoor
