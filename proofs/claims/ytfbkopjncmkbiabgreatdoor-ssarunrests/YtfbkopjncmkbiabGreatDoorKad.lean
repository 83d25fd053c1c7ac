import Derived.Deep.Cut
import Derived.Test.YtfbkopjncmkbiabGreatDoorKac
set_option linter.unusedVariables false
set_option linter.unusedSimpArgs false
namespace Go.Proofs.YtfbkopjncmkbiabGreatDoor
open Go.ChangeShapes Go.WideShapes Go.ChangeAt Go.RowKit Go.Maps
set_option maxRecDepth 100000 in
set_option maxHeartbeats 1000000 in
theorem least_any (w : World) {fb gd gu gb n door f} (H : FR w fb gd gu gb n door f) (hf : FI n door f) (hn : n <= 100000000) (x : Nat) (hx : x < n) :
 Calls Tryz.prog 171 #[.pointer (some ⟨fb, 0, none⟩), .int .i64 x] w fun e w' => e = .returned (.int .i64 ((lst door f x).1 : Int)) /\ FR w' fb gd gu gb n door (lst door f x).2 /\ Only (fun k => k = gu \/ k = gb) w w' := by
 obtain ⟨c0, c1, c2⟩ := H.boxes
 have k1 := H.ku hf hx
 by_cases h0 : gn f.up x < 0
 ·have e : lst door f x = (x, f) := by unfold lst; rw [if_pos h0]
  rw [e]
  have HH : Hid _ := H
  obtain ⟨z, hz⟩ : ∃ z, z = gn f.up x := ⟨_, rfl⟩
  rw [<- hz] at k1 h0
  clear H hf hz e
  go_enter Tryz.func171, Tryz.ntmps171
  go_wp2_with fail
  go_ret
  exact ⟨rfl, HH.out, Only.refl _ _⟩
 ·have e : lst door f x = ((gn (shorten door f x).best x).toNat, shorten door f x) := by unfold lst; rw [if_neg h0]
  rw [e]
  have hs := hf.shorten hx (by omega)
  have hc := shorten_any w H hf hn x hx (by omega)
  obtain ⟨z, hz⟩ : ∃ z, z = gn f.up x := ⟨_, rfl⟩
  rw [<- hz] at k1 h0
  have HS : Hid _ := hs.1
  clear H hf hz e hs
  go_enter Tryz.func171, Tryz.ntmps171
  go_wp2_with fail
  refine hc.mono ?_
  rintro e w1 ⟨rfl, R1, B1⟩
  clear hc c0 c1 c2 k1
  obtain ⟨c0, c1, c2⟩ := R1.boxes
  have k1 := R1.kb HS.out hx
  obtain ⟨y, hy⟩ : ∃ y : Nat, gn (shorten door f x).best x = (y : Int) := ⟨(gn (shorten door f x).best x).toNat, by have := (HS.out.br x hx).1; omega⟩
  rw [hy] at k1
  have HY : Hid (gn (shorten door f x).best x = (y : Int)) := hy
  have HR : Hid _ := R1
  have HB : Hid _ := B1
  clear R1 B1 hy
  go_wp2_with fail
  go_ret
  exact ⟨by rw [HY.out]; simp [Array.getD], HR.out, HB.out⟩
def lbw (door : List Int) (f : Fo) (low above : Nat) : Nat × Fo := if gn door (lst door f low).1 < gn door low then lst door f low else (above, (lst door f low).2)
theorem FI.lbw {n : Nat} {door : List Int} {f : Fo} (h : FI n door f) {low above : Nat} (hl : low < n) (ha : above < n) : FI n door (lbw door f low above).2 /\ (Go.Proofs.YtfbkopjncmkbiabGreatDoor.lbw door f low above).1 < n /\ ∀ i, 0 <= gn (Go.Proofs.YtfbkopjncmkbiabGreatDoor.lbw door f low above).2.up i ↔ 0 <= gn f.up i := by
 obtain ⟨h1, h2, h3⟩ := h.lst hl
 unfold Go.Proofs.YtfbkopjncmkbiabGreatDoor.lbw
 split
 ·exact ⟨h1, h2, h3⟩
 ·exact ⟨h1, ha, h3⟩
set_option maxRecDepth 100000 in
set_option maxHeartbeats 1000000 in
theorem leastBelow_any (w : World) {fb gd gu gb n door f} (H : FR w fb gd gu gb n door f) (hf : FI n door f) (hn : n <= 100000000) (x a : Nat) (hx : x < n) :
 Calls Tryz.prog 172 #[.pointer (some ⟨fb, 0, none⟩), .int .i64 x, .int .i64 a] w fun e w' => e = .returned (.int .i64 ((lbw door f x a).1 : Int)) /\ FR w' fb gd gu gb n door (lbw door f x a).2 /\ Only (fun k => k = gu \/ k = gb) w w' := by
 have hc := least_any w H hf hn x hx
 obtain ⟨h1, h2, _⟩ := hf.lst hx
 have hl : lbw door f x a = if gn door (lst door f x).1 < gn door x then lst door f x else (a, (lst door f x).2) := rfl
 rw [hl]
 obtain ⟨r, hr⟩ : ∃ r, r = lst door f x := ⟨_, rfl⟩
 rw [<- hr] at hc h1 h2 ⊢
 obtain ⟨d1, hd1⟩ : ∃ d1, gn door r.1 = d1 := ⟨_, rfl⟩
 obtain ⟨d2, hd2⟩ : ∃ d2, gn door x = d2 := ⟨_, rfl⟩
 rw [hd1, hd2]
 obtain ⟨y, F2⟩ := r
 simp only at hc h1 h2 hd1
 have HF : Hid _ := h1
 have H1 : Hid (gn door y = d1) := hd1
 have H2 : Hid (gn door x = d2) := hd2
 clear hr hl h1 hf H hd1 hd2
 go_enter Tryz.func172, Tryz.ntmps172
 go_wp2_with fail
 refine hc.mono ?_
 rintro e w1 ⟨rfl, R1, B1⟩
 obtain ⟨c0, c1, c2⟩ := R1.boxes
 have k1 := R1.kd HF.out h2
 rw [H1.out] at k1
 have k2 := R1.kd HF.out hx
 rw [H2.out] at k2
 have HR : Hid _ := R1
 have HB : Hid _ := B1
 clear hc R1 B1
 by_cases hlt : d1 < d2
 ·go_wp2_with fail
  go_quiet (fail)
  go_wp2_with fail
  go_ret
  exact ⟨rfl, HR.out.drewN nq, only_drewN HB.out nq⟩
 ·go_wp2_with fail
  go_quiet (fail)
  go_wp2_with fail
  go_ret
  exact ⟨rfl, HR.out.drewN nq, only_drewN HB.out nq⟩
def fo0 (n : Nat) : Fo := ⟨List.replicate n (-1), (List.range n).map fun i : Nat => (i : Int)⟩
def door0 (n : Nat) : List Int := (List.range n).map fun i : Nat => (i : Int)
theorem FI.zero (n : Nat) : FI n (door0 n) (fo0 n) := by
 refine ⟨by simp [door0], by simp [fo0], by simp [fo0], fun i hi => ?_, fun i hi => ?_, fun i hi => ?_⟩
 ·rw [gn_at (by simpa [door0] using hi)]; simp [door0]; omega
 ·rw [gn_at (by simpa [fo0] using hi)]; simp [fo0]; omega
 ·rw [gn_at (by simpa [fo0] using hi)]; simp [fo0]; omega
theorem info3d : (Tryz.prog.info? 3).map (fun i => (i.zero, i.size, i.bytes)) = some (some (.int .i64 0), 1, 8) := by kernel_rfl
theorem made_ivs (n : Nat) : madeCells #[.int .i64 0] n = (ivs (List.replicate n 0)).toArray := by
 apply Array.toList_inj.1
 rw [toList_madeCells_one]
 simp [ivs]
def fl (n k : Nat) (g : Nat -> Int) : List Int := (List.range n).map fun i => if i < k then g i else 0
theorem fl_len (n k : Nat) (g : Nat -> Int) : (fl n k g).length = n := by simp [fl]
theorem fl_set {n k : Nat} (g : Nat -> Int) (hk : k < n) : (fl n k g).set k (g k) = fl n (k + 1) g := by
 refine List.ext_getElem (by simp [fl]) fun i h1 h2 => ?_
 rw [List.getElem_set]
 simp only [fl, List.getElem_map, List.getElem_range]
 by_cases e : k = i
 ·subst e; simp
 ·rw [if_neg e]
  by_cases h : i < k
  ·rw [if_pos h, if_pos (by omega)]
  ·rw [if_neg h, if_neg (by omega)]
theorem fl_zero (n : Nat) (g : Nat -> Int) : fl n 0 g = List.replicate n 0 := by
 refine List.ext_getElem (by simp [fl]) fun i h1 h2 => ?_
 simp [fl]
theorem fl_full (n : Nat) (g : Nat -> Int) : fl n n g = (List.range n).map g := by
 refine List.ext_getElem (by simp [fl]) fun i h1 h2 => ?_
 simp [fl] at h1 ⊢
 omega
theorem nf_start (w : World) (n a b c : Nat) (ha : a = w.heap.size \/ a = w.heap.size + 1 \/ a = w.heap.size + 1 + 1) (hb : b = w.heap.size \/ b = w.heap.size + 1 \/ b = w.heap.size + 1 + 1) (hc : c = w.heap.size \/ c = w.heap.size + 1 \/ c = w.heap.size + 1 + 1) (hne : a ≠ b /\ a ≠ c /\ b ≠ c) (W : World)
 (hW : W.heap = ((((w.alloc (.cells (madeCells #[.int .i64 0] n) 3)).alloc (.cells (madeCells #[.int .i64 0] n) 3)).alloc (.cells (madeCells #[.int .i64 0] n) 3)).alloc (.cells #[.slice (some ⟨a, 0, none⟩) n n, .slice (some ⟨b, 0, none⟩) n n, .slice (some ⟨c, 0, none⟩) n n] 181)).heap) :
 FR W (w.heap.size + 1 + 1 + 1) a b c n (fl n 0 fun i => (i : Int)) ⟨fl n 0 fun _ => -1, fl n 0 fun i => (i : Int)⟩ := by
 have key : ∀ x, (x = w.heap.size \/ x = w.heap.size + 1 \/ x = w.heap.size + 1 + 1) -> ∀ ob, ((((w.alloc (.cells (madeCells #[.int .i64 0] n) 3)).alloc (.cells (madeCells #[.int .i64 0] n) 3)).alloc (.cells (madeCells #[.int .i64 0] n) 3)).alloc ob).heap[x]? = some (.cells (ivs (List.replicate n 0)).toArray 3 (0, 0)) := by
  intro x hx ob
  rw [made_ivs]
  rcases hx with rfl | rfl | rfl
  ·rw [heap_alloc_old _ _ (by first | (simp; done) | (simp; omega)), heap_alloc_old _ _ (by first | (simp; done) | (simp; omega)), heap_alloc_old _ _ (by first | (simp; done) | (simp; omega))]; exact heap_alloc_new _ _
  ·rw [heap_alloc_old _ _ (by first | (simp; done) | (simp; omega)), heap_alloc_old _ _ (by first | (simp; done) | (simp; omega))]
   simpa using heap_alloc_new (w.alloc (.cells (ivs (List.replicate n 0)).toArray 3)) (.cells (ivs (List.replicate n 0)).toArray 3)
  ·rw [heap_alloc_old _ _ (by simp)]
   simpa using heap_alloc_new ((w.alloc (.cells (ivs (List.replicate n 0)).toArray 3)).alloc (.cells (ivs (List.replicate n 0)).toArray 3)) (.cells (ivs (List.replicate n 0)).toArray 3)
 refine ⟨?_, ?_, ?_, ?_, hne⟩
 ·rw [hW]
  have := heap_alloc_new (((w.alloc (.cells (madeCells #[.int .i64 0] n) 3)).alloc (.cells (madeCells #[.int .i64 0] n) 3)).alloc (.cells (madeCells #[.int .i64 0] n) 3)) (.cells #[.slice (some ⟨a, 0, none⟩) n n, .slice (some ⟨b, 0, none⟩) n n, .slice (some ⟨c, 0, none⟩) n n] 181)
  simpa using this
 ·rw [hW, fl_zero]; exact key a ha _
 ·rw [hW, fl_zero]; exact key b hb _
 ·show W.heap[c]? = some (.cells (ivs (fl n 0 fun i => (i : Int))).toArray 3 (0, 0))
  rw [hW, fl_zero]; exact key c hc _
set_option maxRecDepth 100000 in
set_option maxHeartbeats 8000000 in
theorem newForest_any (w : World) (n : Nat) (hn : n <= 100000000) :
 Calls Tryz.prog 170 #[.int .i64 n] w fun e w' => ∃ fb gd gu gb, e = .returned (.pointer (some ⟨fb, 0, none⟩)) /\ FR w' fb gd gu gb n (door0 n) (fo0 n) /\ (∀ k, FF fb gd gu gb k -> w.heap.size <= k) /\ Below w.heap.size w w' := by
 have hmk := run_make_row' (P := Tryz.prog) 23 3 (.int .i64 0) 8 Tryz.underlying23 info3d rfl .i64 .i64 n (by omega) (by omega)
 have NF := show Hid _ from nf_start w n
 have HS : Hid (n = n) := rfl
 go_enter Tryz.func170, Tryz.ntmps170
 go_wp2_with fail
 go_cut [3] from 5 (fun p wc => ∃ fb gd gu gb : Nat, p = .pointer (some ⟨fb, 0, none⟩) /\ Hid (FR wc fb gd gu gb n (fl n 0 fun i => (i : Int)) ⟨fl n 0 fun _ => -1, fl n 0 fun i => (i : Int)⟩) /\ Hid (∀ k, FF fb gd gu gb k -> w.heap.size <= k) /\ Hid (Below w.heap.size w wc))
 case first =>
  go_region
  all_goals
   go_wp2_with fail
   go_meet
   case rel =>
    first
     | exact ⟨_, w.heap.size, w.heap.size + 1, w.heap.size + 1 + 1, rfl, NF.out _ _ _ (by omega) (by omega) (by omega) (by omega) _ rfl, (by rintro k (rfl | rfl | rfl | rfl) <;> omega), (((((Below.refl _ _).alloc (Nat.le_refl _) _).alloc (by simp) _).alloc (by simp; omega) _).alloc (by simp; omega) _).drew⟩
     | exact ⟨_, w.heap.size, w.heap.size + 1 + 1, w.heap.size + 1, rfl, NF.out _ _ _ (by omega) (by omega) (by omega) (by omega) _ rfl, (by rintro k (rfl | rfl | rfl | rfl) <;> omega), (((((Below.refl _ _).alloc (Nat.le_refl _) _).alloc (by simp) _).alloc (by simp; omega) _).alloc (by simp; omega) _).drew⟩
     | exact ⟨_, w.heap.size + 1, w.heap.size, w.heap.size + 1 + 1, rfl, NF.out _ _ _ (by omega) (by omega) (by omega) (by omega) _ rfl, (by rintro k (rfl | rfl | rfl | rfl) <;> omega), (((((Below.refl _ _).alloc (Nat.le_refl _) _).alloc (by simp) _).alloc (by simp; omega) _).alloc (by simp; omega) _).drew⟩
     | exact ⟨_, w.heap.size + 1, w.heap.size + 1 + 1, w.heap.size, rfl, NF.out _ _ _ (by omega) (by omega) (by omega) (by omega) _ rfl, (by rintro k (rfl | rfl | rfl | rfl) <;> omega), (((((Below.refl _ _).alloc (Nat.le_refl _) _).alloc (by simp) _).alloc (by simp; omega) _).alloc (by simp; omega) _).drew⟩
     | exact ⟨_, w.heap.size + 1 + 1, w.heap.size, w.heap.size + 1, rfl, NF.out _ _ _ (by omega) (by omega) (by omega) (by omega) _ rfl, (by rintro k (rfl | rfl | rfl | rfl) <;> omega), (((((Below.refl _ _).alloc (Nat.le_refl _) _).alloc (by simp) _).alloc (by simp; omega) _).alloc (by simp; omega) _).drew⟩
     | exact ⟨_, w.heap.size + 1 + 1, w.heap.size + 1, w.heap.size, rfl, NF.out _ _ _ (by omega) (by omega) (by omega) (by omega) _ rfl, (by rintro k (rfl | rfl | rfl | rfl) <;> omega), (((((Below.refl _ _).alloc (Nat.le_refl _) _).alloc (by simp) _).alloc (by simp; omega) _).alloc (by simp; omega) _).drew⟩
 case rest =>
  obtain ⟨fb, gd, gu, gb, rfl, HR, HL, HB⟩ := hcut
  clear NF hmk
  go_wp2_with fail
  go_loopw [14] (fun v wr => ∃ k : Nat, k <= n /\ v = .int .i64 k /\ Hid (FR wr fb gd gu gb n (fl n k fun i => (i : Int)) ⟨fl n k fun _ => -1, fl n k fun i => (i : Int)⟩) /\ Hid (Below w.heap.size w wr)) (fun v _ => n - (intOf v).toNat)
  case atStart => exact ⟨0, by omega, rfl, HR.out, HB.out⟩
  case round =>
   clear HR HB
   obtain ⟨k, hk, rfl, HR, HB⟩ := hrel
   by_cases hlt : k < n
   ·obtain ⟨c0, c1, c2⟩ := HR.out.boxes
    obtain ⟨z1, k1⟩ : ∃ z, wr.cell? ⟨gd, k, none⟩ = some z := ⟨_, cell_arr HR.out.d (ivs_at (by rw [fl_len]; exact hlt))⟩
    obtain ⟨z2, k2⟩ : ∃ z, wr.cell? ⟨gu, k, none⟩ = some z := ⟨_, cell_arr HR.out.u (ivs_at (by show k < (fl n k _).length; rw [fl_len]; exact hlt))⟩
    obtain ⟨z3, k3⟩ : ∃ z, wr.cell? ⟨gb, k, none⟩ = some z := ⟨_, cell_arr HR.out.b (ivs_at (by show k < (fl n k _).length; rw [fl_len]; exact hlt))⟩
    have f1 : wr.frozen? ⟨gd, k, none⟩ = false := fz_of HR.out.d
    have f2 : wr.frozen? ⟨gu, k, none⟩ = false := fz_of HR.out.u
    have f3 : wr.frozen? ⟨gb, k, none⟩ = false := fz_of HR.out.b
    obtain ⟨n1, n2, n3⟩ := HR.out.ne
    obtain ⟨m1, m2, m3⟩ := HR.out.fne
    have RR : FR (((wr.setCell ⟨gd, k, none⟩ (.int .i64 (k : Int))).setCell ⟨gu, k, none⟩ (.int .i64 (-1))).setCell ⟨gb, k, none⟩ (.int .i64 (k : Int))) fb gd gu gb n (fl n (k + 1) fun i => (i : Int)) ⟨fl n (k + 1) fun _ => -1, fl n (k + 1) fun i => (i : Int)⟩ := by
     have := ((HR.out.setD k (k : Int)).setU k (-1)).setB k (k : Int)
     simp only at this
     rw [fl_set (fun i => (i : Int)) hlt, fl_set (fun _ => -1) hlt] at this
     exact this
    have hl := HL.out
    have BB : Below w.heap.size w (((wr.setCell ⟨gd, k, none⟩ (.int .i64 (k : Int))).setCell ⟨gu, k, none⟩ (.int .i64 (-1))).setCell ⟨gb, k, none⟩ (.int .i64 (k : Int))) := ((HB.out.setCell (hl gd (.inr (.inl rfl))) _).setCell (hl gu (.inr (.inr (.inl rfl)))) _).setCell (hl gb (.inr (.inr (.inr rfl)))) _
    have HRR : Hid _ := RR
    have HBB : Hid _ := BB
    clear RR BB hl
    go_wp2_with fail
    go_region
    go_wp2_with fail
    go_roundw
    case rel => exact ⟨k + 1, by omega, by go_num, HRR.out.drew, HBB.out.drew⟩
    case measure => simp [intOf]; omega
   ·have hkn : k = n := by omega
    subst hkn
    go_wp2_with fail
    go_ret
    refine ⟨fb, gd, gu, gb, rfl, ?_, HL.out, HB.out⟩
    have := HR.out
    rw [fl_full, fl_full] at this
    have e : (List.range k).map (fun _ => (-1 : Int)) = List.replicate k (-1) := by
     refine List.ext_getElem (by simp) fun i h1 h2 => ?_
     simp
    rw [e] at this
    exact this
def vn0 : Value := .slice none 0 0
structure FA (w : World) (B go n : Nat) (vs : List Value) (S : List (List Int)) : Prop where
 out : w.heap[go]? = some (.cells vs.toArray 23 (0, 0))
 lo : B <= go
 lv : vs.length = n
 ls : S.length = n
 own : ∀ i, i < n -> OwnI w B (vs.getD i vn0) (S.getD i []).length (S.getD i [])
 ne : ∀ i j, i < n -> j < n -> i ≠ j -> ∀ g, (vs.getD i vn0).ownBlock = some g -> (vs.getD j vn0).ownBlock ≠ some g
theorem FA.start (w : World) (B n : Nat) (hB : B <= w.heap.size) : FA (w.alloc (.cells (madeCells #[vn0] n) 23)) B w.heap.size n (List.replicate n vn0) (List.replicate n []) := by
 have hv : ∀ i, (List.replicate n vn0).getD i vn0 = vn0 := fun i => by rw [List.getD, List.getElem?_replicate]; split <;> rfl
 have hs : ∀ i, (List.replicate n ([] : List Int)).getD i [] = [] := fun i => by rw [List.getD, List.getElem?_replicate]; split <;> rfl
 refine ⟨?_, hB, by simp, by simp, fun i hi => ?_, fun i j _ _ _ g hg => ?_⟩
 ·have e : madeCells #[vn0] n = (List.replicate n vn0).toArray := by
   apply Array.toList_inj.1
   rw [toList_madeCells_one]
  rw [e]; exact heap_alloc_new _ _
 ·rw [hv, hs]; exact OwnI.nil _ _
 ·rw [hv] at hg; simp [vn0, Value.ownBlock] at hg
theorem FA.move {w w' : World} {B go n vs S} (h : FA w B go n vs S) (hb : Below w.heap.size w w') : FA w' B go n vs S :=
 ⟨(hb.block go (gl h.out)).trans h.out, h.lo, h.lv, h.ls, fun i hi => (h.own i hi).keep hb, h.ne⟩
theorem FA.go_ne {w : World} {B go n vs S} (h : FA w B go n vs S) {i : Nat} (hi : i < n) : (vs.getD i vn0).ownBlock ≠ some go := own_not (h.own i hi).out h.out (by decide)
theorem FA.irow {w : World} {B go n vs S} (h : FA w B go n vs S) (hn : n <= 9223372036854775807) : IRow w (some ⟨go, 0, none⟩) n S := by
 refine ⟨by rw [h.ls]; exact Nat.le_refl _, hn, fun _ => ⟨go, 0, rfl, (gl h.out), fun i hi => ?_⟩⟩
 have hin : i < n := by rw [<- h.ls]; exact hi
 obtain ⟨ao, c, e, hI⟩ := (h.own i hin).ints
 have e2 : S.getD i [] = S[i] := by simp [hi]
 rw [e2] at e hI
 refine ⟨ao, c, ?_, hI⟩
 rw [Nat.zero_add]
 refine cell_arr h.out ?_
 have hv : i < vs.length := by rw [h.lv]; exact hin
 have e3 : vs.getD i vn0 = vs[i] := by simp [hv]
 rw [<- e, e3]
 simp [hv]
theorem FA.app {w w6 : World} {B go n vs S} (h : FA w B go n vs S) {p : Nat} (hp : p < n) {v6 : Value} {x : Int} (h6 : OwnI w6 B v6 ((S.getD p []).length + 1) (S.getD p [] ++ [x])) (g6 : GI B w w6 (vs.getD p vn0) v6) : FA (w6.setCell ⟨go, p, none⟩ v6) B go n (vs.set p v6) (S.set p (S.getD p [] ++ [x])) := by
 have o6 : w6.heap[go]? = some (.cells vs.toArray 23 (0, 0)) := (g6.blk go (gl h.out) (h.go_ne hp)).trans h.out
 have n6 := own_not h6.out o6 (by decide)
 have gv : ∀ i, (vs.set p v6).getD i vn0 = if i = p then v6 else vs.getD i vn0 := fun i => by
  by_cases e : i = p
  ·subst e; rw [if_pos rfl]; simp [List.getD, h.lv, hp]
  ·rw [if_neg e]; simp [List.getD, List.getElem?_set, Ne.symm e]
 have gs : ∀ i, (S.set p (S.getD p [] ++ [x])).getD i [] = if i = p then S.getD p [] ++ [x] else S.getD i [] := fun i => by
  by_cases e : i = p
  ·subst e; rw [if_pos rfl]; simp [List.getD, h.ls, hp]
  ·rw [if_neg e]; simp [List.getD, List.getElem?_set, Ne.symm e]
 refine ⟨?_, h.lo, by simpa using h.lv, by simpa using h.ls, fun i hi => ?_, fun i j hi hj hij g => ?_⟩
 ·have := heap_set_at (i := p) (v := v6) o6
  simpa using this
 ·rw [gv, gs]
  by_cases e : i = p
  ·rw [if_pos e, if_pos e]
   refine ⟨rfl, ?_⟩
   have e2 : (S.getD p [] ++ [x]).length = (S.getD p []).length + 1 := by simp
   rw [e2]
   exact own_move h6.out fun g hg => heap_set_other (fun e => n6 (by rw [hg, e]))
  ·rw [if_neg e, if_neg e]
   have hi' := h.own i hi
   refine ⟨rfl, own_move hi'.out fun g hg => ?_⟩
   rw [heap_set_other (fun e3 => h.go_ne hi (by rw [hg, e3])), g6.blk g (own_block hi'.out hg).2 (h.ne i p hi hp e g hg)]
 ·rw [gv, gv]
  have nn : ∀ k, k < n -> k ≠ p -> ∀ g, (vs.getD k vn0).ownBlock = some g -> v6.ownBlock ≠ some g := fun k hk hkp g hg hg6 => by
   rcases g6.own g hg6 with h1 | h1
   ·exact h.ne k p hk hp hkp g hg h1
   ·have := (own_block (h.own k hk).out hg).2; omega
  by_cases e1 : i = p
  ·rw [if_pos e1, if_neg (fun e2 => hij (e1.trans e2.symm))]
   exact fun hg hg2 => nn j hj (fun e2 => hij (e1.trans e2.symm)) g hg2 hg
  ·rw [if_neg e1]
   by_cases e2 : j = p
   ·rw [if_pos e2]; exact nn i hi e1 g
   ·rw [if_neg e2]; exact h.ne i j hi hj hij g
def srcIn (bl : List Int) (k : Nat) (row : List Int) (S : List (List Int)) : List (List Int) := row.foldl (fun S x => S.set (plc bl x).toNat (S.getD (plc bl x).toNat [] ++ [(k : Int)])) S
def srcN (bl : List Int) (Ls : List (List Int)) : Nat -> List (List Int)
 | 0 => List.replicate bl.length []
 | k + 1 => srcIn bl k (rowOf Ls (bl.getD k 0)) (srcN bl Ls k)
def srcs (bl : List Int) (Ls : List (List Int)) : List (List Int) := srcN bl Ls bl.length
theorem srcIn_take (bl : List Int) (k : Nat) (row : List Int) (S : List (List Int)) {j : Nat} (hj : j < row.length) : srcIn bl k (row.take (j + 1)) S = (srcIn bl k (row.take j) S).set (plc bl row[j]).toNat ((srcIn bl k (row.take j) S).getD (plc bl row[j]).toNat [] ++ [(k : Int)]) := by
 rw [<- List.take_append_getElem hj, srcIn, List.foldl_append]
 rfl
theorem infoSl : (Tryz.prog.info? 23).map (fun i => (i.zero, i.size, i.bytes)) = some (some (.slice none 0 0), 1, 24) := by kernel_rfl
set_option maxRecDepth 100000 in
set_option maxHeartbeats 4000000 in
theorem sources_any (w : World) {B wb mb v1 v2 bl mt} (H : WKS w B wb mb v1 v2 bl mt) (hBw : B <= w.heap.size) (ao : Option Addr) (nL c : Nat) (Ls : List (List Int)) (hn : nL = Ls.length) (h : IRow w ao c Ls) (hrg : ∀ x ∈ bl, 0 <= x /\ x < Ls.length) (hcl : ∀ x ∈ bl, ∀ y ∈ rowOf Ls x, y ∈ bl) (hsz : bl.length <= 1000000) (hM : ∀ l ∈ Ls, l.length <= 1000000) :
 Calls Tryz.prog 137 #[.pointer (some ⟨wb, 0, none⟩), .slice ao nL c] w fun e w' => ∃ go, e = .returned (.slice (some ⟨go, 0, none⟩) bl.length bl.length) /\ IRow w' (some ⟨go, 0, none⟩) bl.length (srcs bl Ls) /\ Below w.heap.size w w' := by
 have hmk := run_make_row' (P := Tryz.prog) 116 23 (.slice none 0 0) 24 Tryz.underlying116 infoSl rfl .i64 .i64 bl.length (by omega) (by omega)
 obtain ⟨a1, c1, e1, n1, n1'⟩ := own_slice H.o1.out
 subst e1
 have k0 : w.cell? ⟨wb, 0, none⟩ = some (.slice a1 bl.length c1) := cell_arr (i := 0) H.box rfl
 obtain ⟨n, hnn⟩ : ∃ n, n = bl.length := ⟨_, rfl⟩
 have HH : Hid _ := H
 have HI : Hid _ := h
 have HRG : Hid _ := hrg
 have HCL : Hid _ := hcl
 have HM : Hid _ := hM
 have HN : Hid (nL = Ls.length) := hn
 have HNN : Hid (n = bl.length) := hnn
 rw [<- hnn] at k0 hmk hsz n1
 have hwb : wb < w.heap.size := (H.lt wb (.inl rfl)).2
 have FS := FA.start w w.heap.size n (Nat.le_refl _)
 obtain ⟨w0, hw0⟩ : ∃ w0, w0 = w.alloc (.cells (madeCells #[.slice none 0 0] n) 23) := ⟨_, rfl⟩
 have b0 : Below w.heap.size w w0 := by rw [hw0]; exact (Below.refl _ _).alloc (Nat.le_refl _) _
 have q0 : w0.cell? ⟨wb, 0, none⟩ = some (.slice a1 n c1) := by rw [hw0]; exact cellA k0
 have hF0 : FA w0 w.heap.size w.heap.size n (List.replicate n vn0) (List.replicate n []) := by rw [hw0]; exact FS
 have HF0 : Hid _ := hF0
 have HB0 : Hid _ := b0
 have hz31 : ∀ u : World, True := fun _ => trivial
 clear H h hrg hcl hM hn hnn FS hF0 b0 hz31
 go_enter Tryz.func137, Tryz.ntmps137
 go_wp2_with fail
 rw [<- hw0]
 clear hw0 hmk k0 q0
 obtain ⟨B1, hB1⟩ : ∃ B1, B1 = w.heap.size := ⟨_, rfl⟩
 rw [<- hB1] at HF0 HB0 ⊢
 have HB1 : Hid (B1 = w.heap.size) := hB1
 clear hB1
 go_loopw [22] (fun v wr => ∃ (k : Nat) (vs : List Value), k <= n /\ v = .int .i64 k /\ Hid (FA wr B1 B1 n vs (srcN bl Ls k)) /\ Hid (∀ i, ((srcN bl Ls k).getD i []).length <= k * 1000000) /\ Hid (Below B1 w wr)) (fun v _ => n - (intOf v).toNat)
 case atStart =>
  refine ⟨0, _, by omega, rfl, by simp only [srcN]; rw [<- HNN.out]; exact HF0.out, fun i => ?_, HB0.out⟩
  simp only [srcN, List.getD, List.getElem?_replicate]
  split <;> simp
 case round =>
  clear HF0 HB0
  obtain ⟨k, vs, hk, rfl, HF, HL, HB⟩ := hrel
  by_cases hlt : k < n
  ·have hkb : k < bl.length := by have := HNN.out; omega
   have hBs : w.heap.size <= B1 := by have := HB1.out; omega
   have hbr := HRG.out bl[k] (List.getElem_mem hkb)
   obtain ⟨bn, hbn⟩ : ∃ bn : Nat, bl[k] = (bn : Int) := ⟨(bl[k]).toNat, by omega⟩
   have hbL : bn < Ls.length := by omega
   have hbL2 : bn < nL := by have := HN.out; omega
   obtain ⟨a0, c0, e0, hI1⟩ := HH.out.o1.ints
   cases e0
   obtain ⟨b1, o1, rfl, kx⟩ := (hI1.below HB.out hBs).at hkb
   rw [hbn] at kx
   obtain ⟨b2, o2, ar, cr, rfl, kr, hIr⟩ := HI.out.at hbL
   have kr2 := (HB.out.cell (p := ⟨b2, o2 + bn, none⟩) (by have := block_lt_of_cell kr; have := HB1.out; omega)).trans kr
   obtain ⟨row, hrow⟩ : ∃ row, row = Ls[bn] := ⟨_, rfl⟩
   rw [<- hrow] at kr2 hIr
   have hro : rowOf Ls (bl.getD k 0) = row := by
    have : bl.getD k 0 = bl[k] := by simp [hkb]
    rw [this, hbn, hrow]; simp [rowOf, hbL]
   obtain ⟨rl, hrl⟩ : ∃ rl, rl = row.length := ⟨_, rfl⟩
   have hrM : rl <= 1000000 := by rw [hrl, hrow]; exact HM.out _ (List.getElem_mem hbL)
   rw [<- hrl] at kr2
   have HRO : Hid (rowOf Ls (bl.getD k 0) = row) := hro
   have HRL : Hid (rl = row.length) := hrl
   have HIR : Hid (Ints w ar cr row) := hIr
   have HCK : Hid (∀ y ∈ row, y ∈ bl) := by
    intro y hy
    refine HCL.out bl[k] (List.getElem_mem hkb) y ?_
    have : bl.getD k 0 = bl[k] := by simp [hkb]
    rw [<- this, hro]; exact hy
   clear kr hrow hro hrl hIr hI1 hbr hbn
   go_wp2_with fail
   go_loopw [32] (fun v wr' => ∃ (j : Nat) (vs' : List Value), j <= rl /\ v = .int .i64 j /\ Hid (FA wr' B1 B1 n vs' (srcIn bl k (row.take j) (srcN bl Ls k))) /\ Hid (∀ i, ((srcIn bl k (row.take j) (srcN bl Ls k)).getD i []).length <= k * 1000000 + j) /\ Hid (Below B1 w wr')) (fun v _ => rl - (intOf v).toNat)
   case atStart =>
    refine ⟨0, vs, by omega, rfl, HF.out, fun i => ?_, HB.out⟩
    have := HL.out i
    simp only [srcIn, List.take_zero, List.foldl_nil]
    generalize k * 1000000 = K at this ⊢
    exact Nat.le_trans this (Nat.le_add_right K 0)
   case round =>
    clear HF HL HB kx kr2
    obtain ⟨j, vs', hj, rfl, HF, HL, HB⟩ := hrel
    by_cases hjl : j < rl
    ·have hjr : j < row.length := by have := HRL.out; omega
     obtain ⟨b3, o3, rfl, ky⟩ := (HIR.out.below HB.out hBs).at hjr
     obtain ⟨y, hy⟩ : ∃ y, y = row[j] := ⟨_, rfl⟩
     rw [<- hy] at ky
     have hyb : y ∈ bl := by rw [hy]; exact HCK.out _ (List.getElem_mem hjr)
     have hyr := HRG.out y hyb
     have fy : Fits y := by unfold Fits; have := HN.out; have := HI.out.le; have := HI.out.mx; omega
     have WK := HH.out.move (w' := wr) fun g hg => HB.out.block g (by have := (HH.out.lt g hg).2; have := HB1.out; omega)
     have kb : wr.cell? ⟨wb, 1, none⟩ = some (.map (some mb)) := cell_arr (i := 1) WK.box rfl
     obtain ⟨D, d1, d2⟩ := WK.map
     have hkey := keyOf_int_mk Tryz.underlying3 fy.wf
     obtain ⟨p, hp⟩ : ∃ p : Nat, plc bl y = (p : Int) := ⟨bl.idxOf y, by rw [plc, if_pos hyb]⟩
     have hpn : p < n := by
      have := List.idxOf_lt_length_of_mem hyb
      rw [plc, if_pos hyb] at hp
      have := HNN.out; omega
     have HAT : Hid (D.atKey (.int .i64 y) (.lit (.int .i64 0)) = .lit (.int .i64 (p : Int))) := by rw [<- hp]; exact (d2 y fy).2
     obtain ⟨S, hS⟩ : ∃ S, S = srcIn bl k (row.take j) (srcN bl Ls k) := ⟨_, rfl⟩
     have hF := HF.out
     rw [<- hS] at hF
     obtain ⟨av, cv, ev, _, _⟩ := own_slice (hF.own p hpn).out
     have hvl : p < vs'.length := by rw [hF.lv]; exact hpn
     have kv : wr.cell? ⟨B1, p, none⟩ = some (.slice av (S.getD p []).length cv) := by
      rw [<- ev]
      refine cell_arr hF.out ?_
      simp [hvl]
     have fv : wr.frozen? ⟨B1, p, none⟩ = false := fz_of hF.out
     have hlp : (S.getD p []).length + 1 <= 17592186044416 := by have := HL.out p; rw [<- hS] at this; omega
     obtain ⟨sl, hsl⟩ : ∃ sl, sl = (S.getD p []).length := ⟨_, rfl⟩
     have OP : OwnI wr B1 (.slice av sl cv) sl (S.getD p []) := by have := hF.own p hpn; rw [ev, <- hsl] at this; exact this
     rw [<- hsl] at kv hlp
     have hsB : B1 <= wr.heap.size := by have := HB.out.size; have := HB1.out; omega
     have HOP : Hid _ := OP
     have HSL : Hid (sl = (S.getD p []).length) := hsl
     have HEV : Hid (vs'.getD p vn0 = .slice av (S.getD p []).length cv) := ev
     have HFF : Hid _ := hF
     have HNEXT : Hid (srcIn bl k (row.take (j + 1)) (srcN bl Ls k) = S.set p (S.getD p [] ++ [(k : Int)])) := by
      show _ = _
      rw [srcIn_take _ _ _ _ hjr, <- hy, hp, Int.toNat_natCast, hS]
     have HLS : Hid (∀ i, (S.getD i []).length <= k * 1000000 + j) := by rw [hS]; exact HL.out
     clear hy hyb hyr fy WK d2 hp hS hF ev hsl OP
     go_wp2_with (first
      | (at_lookup; refine wpList_lookup_own_int _ rfl _ _ 82 rfl 3 3 .i64 law3 Tryz.underlying82 Tryz.underlying3 (zero3 _) mb bl.length D rfl d1 _ _ rfl hkey ?_; intro z hat hwc
         obtain rfl : z = (p : Int) := by (have e := hat.symm.trans HAT.out; cases e; rfl)
         clear hat hwc)
      | (at_builtin; refine wpList_append_intG (w0 := wr) rfl _ _ rfl B1 (.slice av sl cv) sl (S.getD p []) (k : Int) rfl HOP.out rfl hlp hsB ?_; intro v6 w6 h6 g6
         have o6 : w6.heap[B1]? = some (.cells vs'.toArray 23 (0, 0)) := (g6.blk B1 (gl HFF.out.out) (by have := HFF.out.go_ne hpn; rw [HEV.out, <- HSL.out] at this; exact this)).trans HFF.out.out
         obtain ⟨z6, q6⟩ : ∃ z, w6.cell? ⟨B1, p, none⟩ = some z := ⟨vs'[p], cell_arr o6 (by simp [hvl])⟩
         have p6 : w6.frozen? ⟨B1, p, none⟩ = false := fz_of o6
         have A6 := HFF.out.app hpn (v6 := v6) (x := (k : Int)) (w6 := w6) (by rw [<- HSL.out]; exact h6) (by rw [HEV.out, <- HSL.out]; exact g6)
         have B6 : Below B1 w (w6.setCell ⟨B1, p, none⟩ v6) := (HB.out.trans g6.bel).setCell (Nat.le_refl _) _
         obtain ⟨a6, c6, e6, _, _⟩ := own_slice h6.out
         subst e6
         have HA6 : Hid _ := A6
         have HB6 : Hid _ := B6
         clear A6 B6 h6 g6 o6)
      | go_in)
     go_roundw
     case rel =>
      refine ⟨j + 1, _, by omega, by go_num, by rw [HNEXT.out]; exact HA6.out, ?_, HB6.out⟩
      intro i
      rw [HNEXT.out]
      by_cases e : i = p
      ·subst e
       have e2 : (S.set i (S.getD i [] ++ [(k : Int)])).getD i [] = S.getD i [] ++ [(k : Int)] := by simp [List.getD, HFF.out.ls, hpn]
       rw [e2]
       have := HLS.out i
       simp at this ⊢
       omega
      ·have e2 : (S.set p (S.getD p [] ++ [(k : Int)])).getD i [] = S.getD i [] := by simp [List.getD, List.getElem?_set, Ne.symm e]
       rw [e2]
       have := HLS.out i
       omega
     case measure => simp [intOf]; omega
    ·have hjr : j = rl := by omega
     subst hjr
     have hF := HF.out
     have hL := HL.out
     rw [List.take_of_length_le (by have := HRL.out; omega)] at hF hL
     have HF' : Hid _ := hF
     have HL' : Hid _ := hL
     clear hF hL
     go_wp2_with fail
     go_roundw
     case rel =>
      refine ⟨k + 1, vs', by omega, by go_num, ?_, fun i => ?_, HB.out⟩
      ·simp only [srcN]; rw [HRO.out]; exact HF'.out
      ·have := HL'.out i
       simp only [srcN]; rw [HRO.out]
       omega
     case measure => simp [intOf]; omega
  ·have hkn : k = n := by omega
   subst hkn
   go_wp2_with fail
   go_ret
   have hF := HF.out
   have hb := HB.out
   rw [HNN.out] at hF
   refine ⟨B1, by rw [<- HNN.out]; rfl, hF.irow (by have := HNN.out; omega), by rw [<- HB1.out]; exact hb⟩
structure St where
 door : List Int
 f : Fo
 over : List Int
 wt : Int -> List Int
def dIn (x : Nat) (src : List Int) (d : List Int × Fo) : List Int × Fo := src.foldl (fun d y => (d.1.set x (min (gn d.1 x) (gn d.1 (lst d.1 d.2 y.toNat).1)), (lst d.1 d.2 y.toNat).2)) d
def dOv (door : List Int) (above : Nat) (l : List Int) (d : List Int × Fo) : List Int × Fo := l.foldl (fun d y => (d.1.set y.toNat ((lbw door d.2 y.toNat above).1 : Int), (lbw door d.2 y.toNat above).2)) d
def dstep (mt : List Int) (fr : List (List Int)) (x : Nat) (s : St) : St :=
 let d := dIn x (fr.getD x []) (s.door, s.f)
 let wt := upd s.wt (gn d.1 x) (s.wt (gn d.1 x) ++ [(x : Int)])
 let o := dOv d.1 (gn mt x).toNat (wt (gn mt x)) (s.over, ⟨d.2.up.set x (gn mt x), d.2.best⟩)
 ⟨d.1, o.2, o.1, upd wt (gn mt x) []⟩
def drun (mt : List Int) (fr : List (List Int)) : Nat -> St -> St
 | 0, s => s
 | k + 1, s => drun mt fr k (dstep mt fr (k + 1) s)
def st0 (n : Nat) : St := ⟨door0 n, fo0 n, List.replicate n 0, fun _ => []⟩
def fin1 (door : List Int) (k : Nat) (over : List Int) : List Int := if gn over k = gn door k then over else over.set k (gn over (gn over k).toNat)
def fpass (door : List Int) : Nat -> List Int -> List Int
 | 0, o => o
 | k + 1, o => fin1 door (k + 1) (fpass door k o)
def domP (mt : List Int) (fr : List (List Int)) : List Int := fpass (drun mt fr (mt.length - 1) (st0 mt.length)).door (mt.length - 1) (drun mt fr (mt.length - 1) (st0 mt.length)).over
structure DI (n : Nat) (s : St) (c : Nat) : Prop where
 fi : FI n s.door s.f
 lo : s.over.length = n
 orn : ∀ i, i < n -> 0 <= gn s.over i /\ gn s.over i < n
 wr : ∀ a, ∀ x ∈ s.wt a, 0 <= x /\ x < n
 wl : ∀ a, (s.wt a).length <= c
theorem FI.door {n : Nat} {door : List Int} {f : Fo} (h : FI n door f) {x : Nat} {v : Int} (hx : x < n) (h0 : 0 <= v) (h1 : v < n) : FI n (door.set x v) f :=
 ⟨by simpa using h.ld, h.lu, h.lb, fun i hi => by rw [gn_set (by rw [h.ld]; exact hx)]; split; exact ⟨h0, h1⟩; exact h.dr i hi, h.ur, h.br⟩
theorem FI.hang {n : Nat} {door : List Int} {f : Fo} (h : FI n door f) {x : Nat} {v : Int} (hx : x < n) (h0 : -1 <= v) (h1 : v < x) : FI n door ⟨f.up.set x v, f.best⟩ :=
 ⟨h.ld, by simpa using h.lu, h.lb, h.dr, fun i hi => by
  show -1 <= gn (f.up.set x v) i /\ gn (f.up.set x v) i < i
  rw [gn_set (by rw [h.lu]; exact hx)]; split
  ·next e => subst e; exact ⟨h0, h1⟩
  ·exact h.ur i hi, h.br⟩
def rawE (v : Value) : Option (DataW Value × List MemPlace) := some (.held v, [])
structure DR (w : World) (B fb gd gu gb ov mw n : Nat) (door : List Int) (f : Fo) (over : List Int) (wt : Int -> List Int) (val : Int -> Value) (c : Nat) : Prop where
 fr : FR w fb gd gu gb n door f
 ovr : w.heap[ov]? = some (.cells (ivs over).toArray 3 (0, 0))
 lo : ∀ k, FF fb gd gu gb k \/ k = ov \/ k = mw -> B <= k
 mp : ∃ D, w.ownsMap Tryz.prog 3 rawE mw c D /\ ∀ a, Fits a -> D.atKey (.int .i64 a) (.held vn0) = .held (val a)
 own : ∀ a, OwnI w B (val a) (wt a).length (wt a)
 ne : ∀ a b, a ≠ b -> ∀ g, (val a).ownBlock = some g -> (val b).ownBlock ≠ some g
 apart : ∀ a g, (val a).ownBlock = some g -> g ≠ gd /\ g ≠ gu /\ g ≠ gb /\ g ≠ ov
 ovne : ov ≠ gd /\ ov ≠ gu /\ ov ≠ gb
theorem own_map_moveR {w w' : World} {b c : Nat} {D : DataW Value} (h : w.ownsMap Tryz.prog 3 rawE b c D) (hk : w'.heap[b]? = w.heap[b]?) : w'.ownsMap Tryz.prog 3 rawE b c D := by
 obtain ⟨es, cl, h1, h2⟩ := h
 exact ⟨es, cl, hk.trans h1, h2⟩
theorem map_ne {w : World} {mw c g : Nat} {D : DataW Value} (h : w.ownsMap Tryz.prog 3 rawE mw c D) {A : Array Value} {t : TypeId} {fz : Nat × Nat} (hg : w.heap[g]? = some (.cells A t fz)) : g ≠ mw := by
 rintro rfl
 obtain ⟨es, cl, h1, _⟩ := h
 rw [h1] at hg; cases hg
theorem own_nomap {w : World} {mw c : Nat} {D : DataW Value} (h : w.ownsMap Tryz.prog 3 rawE mw c D) {B : Nat} {v : Value} {n : Nat} {L : List Int} (ho : OwnI w B v n L) : v.ownBlock ≠ some mw := by
 rcases ho.out.2 with ⟨rfl, _⟩ | ⟨g, cap, cur, rfl, _, e3, _⟩
 ·simp [Value.ownBlock]
 ·intro e
  simp [Value.ownBlock] at e
  exact map_ne h e3 e
def DF (fb gd gu gb ov mw : Nat) (val : Int -> Value) (k : Nat) : Prop := FF fb gd gu gb k \/ k = ov \/ k = mw \/ ∃ a, (val a).ownBlock = some k
theorem DR.lt {w B fb gd gu gb ov mw n door f over wt val c} (h : DR w B fb gd gu gb ov mw n door f over wt val c) : ∀ k, DF fb gd gu gb ov mw val k -> k < w.heap.size /\ B <= k := by
 obtain ⟨D, d1, _⟩ := h.mp
 rintro k (hk | rfl | rfl | ⟨a, ha⟩)
 ·exact ⟨h.fr.lt k hk, h.lo k (.inl hk)⟩
 ·exact ⟨(gl h.ovr), h.lo k (.inr (.inl rfl))⟩
 ·exact ⟨d1.lt, h.lo k (.inr (.inr rfl))⟩
 ·have := own_block (h.own a).out ha; exact ⟨this.2, this.1⟩
theorem DR.move {w w' : World} {B fb gd gu gb ov mw n door f over wt val c} (h : DR w B fb gd gu gb ov mw n door f over wt val c) (hk : ∀ k, DF fb gd gu gb ov mw val k -> w'.heap[k]? = w.heap[k]?) : DR w' B fb gd gu gb ov mw n door f over wt val c := by
 obtain ⟨D, d1, d2⟩ := h.mp
 exact ⟨h.fr.move fun k hf => hk k (.inl hf), (hk ov (.inr (.inl rfl))).trans h.ovr, h.lo, ⟨D, own_map_moveR d1 (hk mw (.inr (.inr (.inl rfl)))), d2⟩, fun a => ⟨(h.own a).len, own_move (h.own a).out fun g hg => hk g (.inr (.inr (.inr ⟨a, hg⟩)))⟩, h.ne, h.apart, h.ovne⟩
theorem DR.drewN {w B fb gd gu gb ov mw n door f over wt val c} (h : DR w B fb gd gu gb ov mw n door f over wt val c) (k : Nat) : DR (w.drewN k) B fb gd gu gb ov mw n door f over wt val c := h.move fun g hg => drewN_at w k g (h.lt g hg).1
theorem DR.forest {w w' : World} {B fb gd gu gb ov mw n door f over wt val c door' f'} (h : DR w B fb gd gu gb ov mw n door f over wt val c) (hf : FR w' fb gd gu gb n door' f') (ho : ∀ k, k < w.heap.size -> k ≠ gd -> k ≠ gu -> k ≠ gb -> w'.heap[k]? = w.heap[k]?) : DR w' B fb gd gu gb ov mw n door' f' over wt val c := by
 obtain ⟨D, d1, d2⟩ := h.mp
 have hm : gd ≠ mw /\ gu ≠ mw /\ gb ≠ mw := ⟨map_ne d1 h.fr.d, map_ne d1 h.fr.u, map_ne d1 h.fr.b⟩
 refine ⟨hf, (ho ov (h.lt ov (.inr (.inl rfl))).1 h.ovne.1 h.ovne.2.1 h.ovne.2.2).trans h.ovr, h.lo, ⟨D, own_map_moveR d1 (ho mw d1.lt hm.1.symm hm.2.1.symm hm.2.2.symm), d2⟩, fun a => ⟨(h.own a).len, own_move (h.own a).out fun g hg => ?_⟩, h.ne, h.apart, h.ovne⟩
 obtain ⟨p1, p2, p3, _⟩ := h.apart a g hg
 exact ho g (own_block (h.own a).out hg).2 p1 p2 p3
theorem DR.over {w : World} {B fb gd gu gb ov mw n door f over wt val c} (h : DR w B fb gd gu gb ov mw n door f over wt val c) (i : Nat) (v : Int) : DR (w.setCell ⟨ov, i, none⟩ (.int .i64 v)) B fb gd gu gb ov mw n door f (over.set i v) wt val c := by
 obtain ⟨D, d1, d2⟩ := h.mp
 have hfo : fb ≠ ov := by rintro rfl; have := h.fr.box; rw [h.ovr] at this; simp only [Option.some.injEq, Obj.cells.injEq] at this; exact absurd this.2.1 (by decide)
 refine ⟨h.fr.move fun k hk => heap_set_other ?_, ?_, h.lo, ⟨D, own_map_moveR d1 (heap_set_other (map_ne d1 h.ovr).symm), d2⟩, fun a => ⟨(h.own a).len, own_move (h.own a).out fun g hg => heap_set_other (h.apart a g hg).2.2.2⟩, h.ne, h.apart, h.ovne⟩
 ·rcases hk with rfl | rfl | rfl | rfl
  ·exact hfo
  ·exact h.ovne.1.symm
  ·exact h.ovne.2.1.symm
  ·exact h.ovne.2.2.symm
 ·have := heap_set_at (i := i) (v := .int .i64 v) h.ovr
  rw [ivs_set] at this; exact this
end Go.Proofs.YtfbkopjncmkbiabGreatDoor
