import Derived.Test.YtfbkopjncmkbiabGreatDoorRows
import Derived.WalkKit
import Derived.ProofKit
import Derived.WalkLawsBesides
import Derived.WalkSpells
import Derived.Deep.WholeRow
import Derived.Test.YtfbkopjncmkbiabGreatDoorKaz
set_option linter.unusedVariables false
set_option linter.unusedSimpArgs false
namespace Go.Proofs.YtfbkopjncmkbiabGreatDoor
open Go.ChangeShapes Go.WideShapes Go.ChangeAt Go.RowKit Go.Maps
theorem setN_len (L : List Int) (p : Nat) (x : Int) : (setN L p x).length = max L.length (p + 1) := by
 unfold setN
 simp
 omega
theorem Mach.go {FS s d w M} (h : Mach FS s d w M) (a : Ac) :
 Mach FS s d ((((w.setCell ⟨s.mb, 34, none⟩ (.pointer (some ⟨s.fb, s.fo + a.fi * 5, none⟩))).setCell ⟨s.mb, 35, none⟩ (.int .i64 (a.bk : Int))).setCell ⟨s.mb, 36, none⟩ (.int .i64 (a.bh : Int))).setCell ⟨s.mb, 37, none⟩ (.int .i64 (a.fst : Int))) { M with here := a }
 /\ Foo s d d w ((((w.setCell ⟨s.mb, 34, none⟩ (.pointer (some ⟨s.fb, s.fo + a.fi * 5, none⟩))).setCell ⟨s.mb, 35, none⟩ (.int .i64 (a.bk : Int))).setCell ⟨s.mb, 36, none⟩ (.int .i64 (a.bh : Int))).setCell ⟨s.mb, 37, none⟩ (.int .i64 (a.fst : Int))) :=
 ⟨⟨box_at (box_at (box_at (box_at h.box rfl) rfl) rfl) rfl, (((h.rest.set 34 _).set 35 _).set 36 _).set 37 _⟩, (((Foo.set s d w 34 _).trans (Foo.set s d _ 35 _)).trans (Foo.set s d _ 36 _)).trans (Foo.set s d _ 37 _)⟩
def mcsV (s : Mst) (d : Mdy) (M : Ms) (a b c e : Value) : List Value := tblM ++ [.slice (some ⟨s.fb, s.fo, none⟩) s.fn s.fc, .slice d.ia M.inp.length d.ic, .pointer (some ⟨s.hb, 0, none⟩),
 a, b, c, e, d.vw, d.vn, d.vp, d.ve, .int .i64 M.fin, .int .i64 M.kd, .int .i64 M.vl, .int .i64 M.steps, .int .i64 M.words, .int .i64 M.deep, .bool M.rests]
theorem mach_go {FS s d w M} {x y z u : Value} (hb : w.heap[s.mb]? = some (.cells (mcsV s d M x y z u).toArray 71 (0, 0))) (hr : MRest FS s d w M.inp M.nums M.phis M.wait M.ev M.hp) (a : Ac) :
 Mach FS s d ((((w.setCell ⟨s.mb, 34, none⟩ (.pointer (some ⟨s.fb, s.fo + a.fi * 5, none⟩))).setCell ⟨s.mb, 35, none⟩ (.int .i64 (a.bk : Int))).setCell ⟨s.mb, 36, none⟩ (.int .i64 (a.bh : Int))).setCell ⟨s.mb, 37, none⟩ (.int .i64 (a.fst : Int))) { M with here := a }
 /\ Foo s d d w ((((w.setCell ⟨s.mb, 34, none⟩ (.pointer (some ⟨s.fb, s.fo + a.fi * 5, none⟩))).setCell ⟨s.mb, 35, none⟩ (.int .i64 (a.bk : Int))).setCell ⟨s.mb, 36, none⟩ (.int .i64 (a.bh : Int))).setCell ⟨s.mb, 37, none⟩ (.int .i64 (a.fst : Int))) :=
 ⟨⟨box_at (box_at (box_at (box_at hb rfl) rfl) rfl) rfl, (((hr.set 34 _).set 35 _).set 36 _).set 37 _⟩, (((Foo.set s d w 34 _).trans (Foo.set s d _ 35 _)).trans (Foo.set s d _ 36 _)).trans (Foo.set s d _ 37 _)⟩
structure PutS (FS : List Fu) (s : Mst) (d0 : Mdy) (w0 w : World) (P X : List Int) (k : Nat) (Mz : Ms) : Prop where
 out : ∃ d M, Mach FS s d w M /\ Foo s d0 d w0 w /\ M.puts (P.drop k) (X.drop k) = some Mz /\ M.nums.length <= M.here.fst + 262144 /\ M.here.fst <= 900000000
theorem PutS.next {FS s d0 w0 w P X k Mz} (h : PutS FS s d0 w0 w P X k Mz) (hP : ∀ p ∈ P, p < 262144) (hk : k < P.length) : ∃ (p : Nat) (x : Int), P[k]? = some (p : Int) /\ X[k]? = some x /\ Calls Tryz.prog 41 #[.pointer (some ⟨s.mb, 0, none⟩), .int .i64 (p : Int), .int .i64 x] w fun e w' => e = .returned (.tuple #[]) /\ PutS FS s d0 w0 w' P X (k + 1) Mz := by
 obtain ⟨d, M, hM, hF, hp, hl, hf⟩ := h.out
 rw [List.drop_eq_getElem_cons hk] at hp
 have hlt := hP _ (List.getElem_mem hk)
 by_cases hx : k < X.length
 ·rw [List.drop_eq_getElem_cons hx] at hp
  unfold Ms.puts at hp
  by_cases h0 : P[k] < 0
  ·rw [if_pos h0] at hp; cases hp
  ·rw [if_neg h0] at hp
   obtain ⟨p, hpp⟩ : ∃ p : Nat, P[k] = (p : Int) := ⟨P[k].toNat, by omega⟩
   rw [hpp] at hp hlt
   rw [Int.toNat_natCast] at hp
   refine ⟨p, X[k], by simp [hk, hpp], by simp [hx], (mSet_any hM p X[k] (by omega) (by omega)).mono ?_⟩
   rintro e w' ⟨rfl, d', hM', hF'⟩
   refine ⟨rfl, d', _, hM', hF.trans hF', hp, ?_, hf⟩
   show (setN M.nums (M.here.fst + p) X[k]).length <= M.here.fst + 262144
   rw [setN_len]
   omega
 ·rw [List.drop_of_length_le (l := X) (by omega)] at hp
  unfold Ms.puts at hp
  cases hp
theorem puts_fst {P X : List Int} : ∀ {M M' : Ms}, M.puts P X = some M' -> M'.here = M.here /\ M'.wait = M.wait /\ M'.deep = M.deep := by
 induction P generalizing X with
 | nil => intro M M' h; simp only [Ms.puts] at h; cases h; exact ⟨rfl, rfl, rfl⟩
 | cons p P ih =>
   intro M M' h
   cases X with
   | nil => simp only [Ms.puts] at h; cases h
   | cons x X =>
     simp only [Ms.puts] at h
     split at h
     ·cases h
     ·have := ih h; exact this
theorem PutS.fin {FS s d0 w0 w P X Mz} (h : PutS FS s d0 w0 w P X P.length Mz) : ∃ d, Mach FS s d w Mz /\ Foo s d0 d w0 w := by
 obtain ⟨d, M, hM, hF, hp, hl, hf⟩ := h.out
 rw [List.drop_length] at hp
 simp only [Ms.puts] at hp
 cases hp
 exact ⟨d, hM, hF⟩
theorem PutS.mach {FS s d0 w0 w P X k Mz} (h : PutS FS s d0 w0 w P X k Mz) : s.mb < w.heap.size /\ Only (foot s d0) w0 w /\ Agr s w := by
 obtain ⟨d, M, hM, hF, _⟩ := h.out
 exact ⟨hM.cells.lt, hF.only, hM.rest.agr⟩
set_option maxRecDepth 100000 in
set_option maxHeartbeats 2000000 in
theorem mBegin_gen {FS s d w M} {y34 y35 y36 y37 : Value} (hb0 : w.heap[s.mb]? = some (.cells (mcsV s d M y34 y35 y36 y37).toArray 71 (0, 0))) (h : MRest FS s d w M.inp M.nums M.phis M.wait M.ev M.hp) (n : Nat) (f : Fu) (hf : FS[n]? = some f) (X : List Int) (aa : Option Addr) (al ac : Nat) (hal : al = X.length) (hA : ∀ w', Only (foot s d) w w' -> Ints w' aa ac X) (M' : Ms) (hM : M.begin FS n X = some M') (hP : ∀ p ∈ f.params, p < 262144) (hl : M.nums.length <= 900000000) (hwl : M.wait.length <= 1000000000) :
 Calls Tryz.prog 16 #[.pointer (some ⟨s.mb, 0, none⟩), .int .i64 (n : Int), .slice aa al ac] w fun e w' => e = .returned (.tuple #[]) /\ ∃ d', Mach FS s d' w' M' /\ Foo s d d' w w' := by
 have hd : Below w.heap.size w w.drew := (Below.refl _ _).drew
 have hD := h.below hd
 have hlt0 := (gl hb0)
 have hbD := (hd.block _ hlt0).trans hb0
 have c31 : w.drew.cell? ⟨s.mb, 31, none⟩ = some (.slice (some ⟨s.fb, s.fo, none⟩) s.fn s.fc) := cell_arr hbD rfl
 have c39 : w.drew.cell? ⟨s.mb, 39, none⟩ = some d.vn := cell_arr hbD rfl
 have hlt : s.mb < w.drew.heap.size := hlt0
 have fz : ∀ i, w.frozen? ⟨s.mb, i, none⟩ = false := fun i => fz_of hb0
 have k34 : w.cell? ⟨s.mb, 34, none⟩ = some y34 := cell_arr hb0 rfl
 have k35 : w.cell? ⟨s.mb, 35, none⟩ = some y35 := cell_arr hb0 rfl
 have k36 : w.cell? ⟨s.mb, 36, none⟩ = some y36 := cell_arr hb0 rfl
 have k37 : w.cell? ⟨s.mb, 37, none⟩ = some y37 := cell_arr hb0 rfl
 have fz34 := fz 34
 have fz35 := fz 35
 have fz36 := fz 36
 have fz37 := fz 37
 have hn : n < FS.length := (List.getElem?_eq_some_iff.1 hf).1
 have hfe : FS[n] = f := (List.getElem?_eq_some_iff.1 hf).2
 have hg := mach_go hbD hD ⟨n, 0, 0, M.nums.length⟩
 obtain ⟨w4, hw4⟩ : ∃ w4, w4 = ((((w.setCell ⟨s.mb, 34, none⟩ (.pointer (some ⟨s.fb, s.fo + n * 5, none⟩))).setCell ⟨s.mb, 35, none⟩ (.int .i64 0)).setCell ⟨s.mb, 36, none⟩ (.int .i64 0)).setCell ⟨s.mb, 37, none⟩ (.int .i64 (M.nums.length : Int))).drew := ⟨_, rfl⟩
 have hg1 : Mach FS s d w4 { M with here := ⟨n, 0, 0, M.nums.length⟩ } := by rw [hw4]; exact hg.1
 have hg2 : Foo s d d w w4 := by rw [hw4]; exact (Foo.of_below hd).trans hg.2
 obtain ⟨ka, kc, la, lc, ma, mc, hst, hpI, _, _⟩ := st_fu hg1.rest.agr hg1.rest.fus hn
 have hP1 : FS[n].params = f.params := by rw [hfe]
 rw [hP1] at hst hpI
 have f1 := (hst w4 hg1.rest.agr).1
 have hg34 := hg1.cells.c34
 have hlt4 := hg1.cells.lt
 have hfb : s.fb < w4.heap.size := block_lt_of_cell f1
 unfold Ms.begin at hM
 rw [hf] at hM
 simp only [Option.map_eq_some_iff] at hM
 obtain ⟨Mz, hz, hz2⟩ := hM
 have hz3 := puts_fst hz
 have hzw : Mz.wait = M.wait := hz3.2.1
 have HS0 : Hid (PutS FS s d w w4 f.params X 0 Mz) := ⟨d, _, hg1, hg2, by simpa using hz, by show M.nums.length <= M.nums.length + 262144; omega, hl⟩
 obtain ⟨pl, hpl⟩ : ∃ pl, pl = f.params.length := ⟨_, rfl⟩
 have hplm : pl <= kc /\ kc <= 9223372036854775807 := by have := hpI w4 hg1.rest.agr; have := this.le; have := (hpI w4 hg1.rest.agr).mx; omega
 have hxl : al <= ac /\ ac <= 9223372036854775807 := by have := (hA w4 hg2.only).le; have := (hA w4 hg2.only).mx; omega
 have HNEXT : Hid (∀ (k : Nat) (W : World), k < pl -> PutS FS s d w W f.params X k Mz -> ∃ (p : Nat) (x : Int) (b o b2 o2 : Nat), s.mb < W.heap.size /\ ka = some ⟨b, o, none⟩ /\ aa = some ⟨b2, o2, none⟩ /\ k < al /\ W.cell? ⟨b, o + k, none⟩ = some (.int .i64 (p : Int)) /\ W.cell? ⟨b2, o2 + k, none⟩ = some (.int .i64 x) /\ Hid (Calls Tryz.prog 41 #[.pointer (some ⟨s.mb, 0, none⟩), .int .i64 (p : Int), .int .i64 x] W fun e w' => e = .returned (.tuple #[]) /\ PutS FS s d w w' f.params X (k + 1) Mz)) := by
  intro k W hk hS
  obtain ⟨p, x, hp, hx, hc⟩ := hS.next hP (by omega)
  obtain ⟨hmw, hon, hag⟩ := hS.mach
  have hkp : k < f.params.length := by omega
  have hkx : k < X.length := (List.getElem?_eq_some_iff.1 hx).1
  obtain ⟨b, o, e, hb⟩ := (hpI W hag).at hkp
  obtain ⟨b2, o2, e2, hb2⟩ := (hA W hon).at hkx
  have q1 : f.params[k] = (p : Int) := (List.getElem?_eq_some_iff.1 hp).2
  have q2 : X[k] = x := (List.getElem?_eq_some_iff.1 hx).2
  rw [q1] at hb
  rw [q2] at hb2
  exact ⟨p, x, b, o, b2, o2, hmw, e, e2, by omega, hb, hb2, hc⟩
 have HDEEP : Hid (∀ W, PutS FS s d w W f.params X pl Mz -> ∃ vw c, W.drew.cell? ⟨s.mb, 38, none⟩ = some (.slice vw M.wait.length c) /\ s.mb < W.heap.size /\ Hid (Calls Tryz.prog 42 #[.pointer (some ⟨s.mb, 41, none⟩), .int .i64 ((M.wait.length : Int) + 1)] W.drew fun e w' => e = .returned (.tuple #[]) /\ (∃ d', Mach FS s d' w' M' /\ Foo s d d' w w') /\ w'.cell? ⟨s.mb, 38, none⟩ = some (.slice vw M.wait.length c))) := by
  intro W hS
  rw [hpl] at hS
  obtain ⟨d1, hm1, hf1⟩ := hS.fin
  have hb : Below W.heap.size W W.drew := (Below.refl _ _).drew
  have hm2 := hm1.below hb
  obtain ⟨vw, c, ew, _⟩ := own_slice hm2.rest.wait.out
  have ew2 : d1.vw = .slice vw M.wait.length c := by rw [ew, List.length_map, hzw]
  refine ⟨vw, c, ?_, hm1.cells.lt, ?_⟩
  ·rw [<- ew2]; exact hm2.cells.c38
  ·refine (told_deep W.drew (o := 41) (k := (M.wait.length : Int) + 1) hm2.told.c47 (hm2.told.fz 47)).mono ?_
   rintro e w' ⟨rfl, hw'⟩
   have hd2 := hm2.deeper (max Mz.deep ((M.wait.length : Int) + 1))
   refine ⟨rfl, ⟨d1, ?_, ?_⟩, ?_⟩
   ·rw [hw', <- hz2, <- hzw]; rw [<- hzw] at hd2; exact hd2.1
   ·rw [hw']; exact hf1.trans ((Foo.of_below hb).trans hd2.2)
   ·rw [hw', <- ew2]; exact hd2.1.cells.c38
 obtain ⟨na, nc, en, _⟩ := own_slice hD.nums.out
 rw [en] at c39
 obtain ⟨nl, hnl⟩ : ∃ nl, nl = M.nums.length := ⟨_, rfl⟩
 obtain ⟨wl, hwl2⟩ : ∃ wl, wl = M.wait.length := ⟨_, rfl⟩
 have hns : n < s.fn := by rw [hD.fn]; exact hn
 have hfnm : s.fn <= s.fc /\ s.fc <= 9223372036854775807 := by have := (hD.fus _ hD.agr).le; have := (hD.fus _ hD.agr).mx; have := hD.fn; omega
 rw [<- hnl] at c39 hw4 hl
 rw [<- hwl2] at HDEEP hwl
 rw [<- hpl] at f1
 generalize s.mb = mb at *
 generalize s.fb = fb at *
 generalize s.fo = fo at *
 generalize s.fn = fn at *
 generalize s.fc = fc at *
 have S0 : (fun w' : World => w'.cell? ⟨mb, 31, none⟩ = some (.slice (some ⟨fb, fo, none⟩) fn fc) /\ w'.cell? ⟨mb, 39, none⟩ = some (.slice na nl nc)) w.drew := ⟨c31, c39⟩
 have hnn : (n : Int) < (fn : Int) := by omega
 have hww : IntKind.i64.wrap ((wl : Int) + 1) = (wl : Int) + 1 := by rw [IntKind.wrap_i64]; omega
 clear hb0 hbD hlt0 h hD hg hg1 hg2 hst hpI hz hz2 hz3 hzw hd hf hfe hP1 hA hP en hnl hwl2 hpl fz
 go_enter Tryz.func16, Tryz.ntmps16
 go_wp2_with fail
 refine led_start (S := fun w' : World => w'.cell? ⟨mb, 31, none⟩ = some (.slice (some ⟨fb, fo, none⟩) fn fc) /\ w'.cell? ⟨mb, 39, none⟩ = some (.slice na nl nc)) (z := 18) (by kernel_rfl) ?_
 refine led_t (i := 0) (v := ?v0) rfl (by kernel_rfl) (.inl ⟨by rfl, ?hy0⟩) S0 ?rest0
 case hy0 =>
  rintro w' ⟨h1, h2⟩
  go_simp
  all_goals with_reducible rfl
 try simp only [Act.put, List.getElem_toArray, List.getElem_cons_succ, List.getElem_cons_zero, List.setIfInBounds_toArray, List.set_cons_zero, List.set_cons_succ]
 refine led_t (i := 1) (v := ?v1) rfl (by kernel_rfl) (.inl ⟨by rfl, ?hy1⟩) S0 ?rest1
 case hy1 =>
  rintro w' ⟨h1, h2⟩
  go_simp
  all_goals with_reducible rfl
 try simp only [Act.put, List.getElem_toArray, List.getElem_cons_succ, List.getElem_cons_zero, List.setIfInBounds_toArray, List.set_cons_zero, List.set_cons_succ]
 refine led_t (i := 2) (v := ?v2) rfl (by kernel_rfl) (.inl ⟨by rfl, ?hy2⟩) S0 ?rest2
 case hy2 =>
  rintro w' ⟨h1, h2⟩
  go_simp
  all_goals with_reducible rfl
 try simp only [Act.put, List.getElem_toArray, List.getElem_cons_succ, List.getElem_cons_zero, List.setIfInBounds_toArray, List.set_cons_zero, List.set_cons_succ]
 refine led_t (i := 3) (v := ?v3) rfl (by kernel_rfl) (.inl ⟨by rfl, ?hy3⟩) S0 ?rest3
 case hy3 =>
  rintro w' ⟨h1, h2⟩
  go_simp
  all_goals with_reducible rfl
 try simp only [Act.put, List.getElem_toArray, List.getElem_cons_succ, List.getElem_cons_zero, List.setIfInBounds_toArray, List.set_cons_zero, List.set_cons_succ]
 refine led_t (i := 4) (v := ?v4) rfl (by kernel_rfl) (.inl ⟨by rfl, ?hy4⟩) S0 ?rest4
 case hy4 =>
  rintro w' ⟨h1, h2⟩
  go_simp
  all_goals with_reducible rfl
 try simp only [Act.put, List.getElem_toArray, List.getElem_cons_succ, List.getElem_cons_zero, List.setIfInBounds_toArray, List.set_cons_zero, List.set_cons_succ]
 refine led_t (i := 5) (v := ?v5) rfl (by kernel_rfl) (.inl ⟨by rfl, ?hy5⟩) S0 ?rest5
 case hy5 =>
  rintro w' ⟨h1, h2⟩
  go_simp
  all_goals with_reducible rfl
 try simp only [Act.put, List.getElem_toArray, List.getElem_cons_succ, List.getElem_cons_zero, List.setIfInBounds_toArray, List.set_cons_zero, List.set_cons_succ]
 refine led_t (i := 6) (v := ?v6) rfl (by kernel_rfl) (.inl ⟨by rfl, ?hy6⟩) S0 ?rest6
 case hy6 =>
  rintro w' ⟨h1, h2⟩
  go_simp
  all_goals with_reducible rfl
 try simp only [Act.put, List.getElem_toArray, List.getElem_cons_succ, List.getElem_cons_zero, List.setIfInBounds_toArray, List.set_cons_zero, List.set_cons_succ]
 refine led_t (i := 7) (v := ?v7) rfl (by kernel_rfl) (.inl ⟨by rfl, ?hy7⟩) S0 ?rest7
 case hy7 =>
  rintro w' ⟨h1, h2⟩
  go_simp
  all_goals with_reducible rfl
 try simp only [Act.put, List.getElem_toArray, List.getElem_cons_succ, List.getElem_cons_zero, List.setIfInBounds_toArray, List.set_cons_zero, List.set_cons_succ]
 refine led_t (i := 8) (v := ?v8) rfl (by kernel_rfl) (.inl ⟨by rfl, ?hy8⟩) S0 ?rest8
 case hy8 =>
  rintro w' ⟨h1, h2⟩
  go_simp
  all_goals with_reducible rfl
 try simp only [Act.put, List.getElem_toArray, List.getElem_cons_succ, List.getElem_cons_zero, List.setIfInBounds_toArray, List.set_cons_zero, List.set_cons_succ]
 refine led_t (i := 9) (v := ?v9) rfl (by kernel_rfl) (.inl ⟨by rfl, ?hy9⟩) S0 ?rest9
 case hy9 =>
  rintro w' ⟨h1, h2⟩
  go_simp
  all_goals with_reducible rfl
 try simp only [Act.put, List.getElem_toArray, List.getElem_cons_succ, List.getElem_cons_zero, List.setIfInBounds_toArray, List.set_cons_zero, List.set_cons_succ]
 refine led_t (i := 10) (v := ?v10) rfl (by kernel_rfl) (.inl ⟨by rfl, ?hy10⟩) S0 ?rest10
 case hy10 =>
  rintro w' ⟨h1, h2⟩
  go_simp
  all_goals with_reducible rfl
 try simp only [Act.put, List.getElem_toArray, List.getElem_cons_succ, List.getElem_cons_zero, List.setIfInBounds_toArray, List.set_cons_zero, List.set_cons_succ]
 refine led_t (i := 11) (v := ?v11) rfl (by kernel_rfl) (.inl ⟨by rfl, ?hy11⟩) S0 ?rest11
 case hy11 =>
  rintro w' ⟨h1, h2⟩
  go_simp
  all_goals with_reducible rfl
 try simp only [Act.put, List.getElem_toArray, List.getElem_cons_succ, List.getElem_cons_zero, List.setIfInBounds_toArray, List.set_cons_zero, List.set_cons_succ]
 refine led_t (i := 12) (v := ?v12) rfl (by kernel_rfl) (.inl ⟨by rfl, ?hy12⟩) S0 ?rest12
 case hy12 =>
  rintro w' ⟨h1, h2⟩
  go_simp
  all_goals with_reducible rfl
 try simp only [Act.put, List.getElem_toArray, List.getElem_cons_succ, List.getElem_cons_zero, List.setIfInBounds_toArray, List.set_cons_zero, List.set_cons_succ]
 refine led_t (i := 13) (v := ?v13) rfl (by kernel_rfl) (.inl ⟨by rfl, ?hy13⟩) S0 ?rest13
 case hy13 =>
  rintro w' ⟨h1, h2⟩
  go_simp
  all_goals with_reducible rfl
 try simp only [Act.put, List.getElem_toArray, List.getElem_cons_succ, List.getElem_cons_zero, List.setIfInBounds_toArray, List.set_cons_zero, List.set_cons_succ]
 refine led_t (i := 14) (v := ?v14) rfl (by kernel_rfl) (.inl ⟨by rfl, ?hy14⟩) S0 ?rest14
 case hy14 =>
  rintro w' ⟨h1, h2⟩
  go_simp
  all_goals with_reducible rfl
 try simp only [Act.put, List.getElem_toArray, List.getElem_cons_succ, List.getElem_cons_zero, List.setIfInBounds_toArray, List.set_cons_zero, List.set_cons_succ]
 refine led_one (i := 15) rfl (by kernel_rfl) ?_
 intro K1 hK1
 rw [if_pos (by rfl)]
 go_simp
 refine hK1 _ _ (fun _ => S0) ?_
 clear hK1
 try simp only [Act.put, List.getElem_toArray, List.getElem_cons_succ, List.getElem_cons_zero, List.setIfInBounds_toArray, List.set_cons_zero, List.set_cons_succ]
 refine led_one (i := 16) rfl (by kernel_rfl) ?_
 intro K2 hK2
 rw [if_pos (by rfl)]
 go_simp
 refine hK2 _ _ (fun _ => S0) ?_
 clear hK2
 try simp only [Act.put, List.getElem_toArray, List.getElem_cons_succ, List.getElem_cons_zero, List.setIfInBounds_toArray, List.set_cons_zero, List.set_cons_succ]
 refine led_one (i := 17) rfl (by kernel_rfl) ?_
 intro K3 hK3
 rw [if_pos (by rfl)]
 go_simp
 refine hK3 _ _ (fun _ => S0) ?_
 clear hK3
 try simp only [Act.put, List.getElem_toArray, List.getElem_cons_succ, List.getElem_cons_zero, List.setIfInBounds_toArray, List.set_cons_zero, List.set_cons_succ]
 refine led_one (i := 18) rfl (by kernel_rfl) ?_
 intro K4 hK4
 rw [if_pos (by rfl)]
 go_simp
 refine hK4 _ _ (fun h => absurd rfl h) ?_
 clear hK4
 refine led_done (by kernel_rfl) ?_
 rw [<- hw4]
 clear hw4 S0 c31 c39 k34 k35 k36 k37 fz34 fz35 fz36 fz37
 go_wp2_with fail
 clear hg34 f1
 go_loopw [36] (fun v wr => ∃ k : Nat, k <= pl /\ v = .int .i64 k /\ Hid (PutS FS s d w wr f.params X k Mz)) (fun v _ => pl - (intOf v).toNat)
 case atStart => exact ⟨0, by omega, rfl, HS0⟩
 case round =>
  clear HS0 hlt4 hfb
  obtain ⟨k, hk, rfl, HK⟩ := hrel
  by_cases hlk : k < pl
  ·obtain ⟨p, x, b, o, b2, o2, hmw, e1, e2, hka, k1, k2, HC⟩ := HNEXT.out k wr hlk HK.out
   subst e1
   subst e2
   have hkal : (k : Int) < (al : Int) := by omega
   have hkpl : (k : Int) < (pl : Int) := by omega
   clear HK HNEXT HDEEP
   go_wp2_with (go_at_call 41; refine Calls.mono HC.out ?_; rintro e w1 ⟨rfl, hb1⟩; have H1 : Hid _ := hb1; clear hb1)
   go_roundw
   case rel => exact ⟨k + 1, by omega, by go_num, H1.out⟩
   case measure => simp [intOf]; omega
  ·have hkn : k = pl := by omega
   subst hkn
   obtain ⟨vw, c, k38, hmw, HC⟩ := HDEEP.out wr HK.out
   clear HK HNEXT HDEEP
   go_wp2_with fail
   go_region_held (fun w' => w'.cell? ⟨mb, 38, none⟩ = some (.slice vw wl c))
    (first | exact k38 | exact S1)
    (first | (go_at_call 42; refine Calls.mono HC.out ?_; rintro e w1 ⟨rfl, hb1, S1⟩; have H1 : Hid _ := hb1; clear hb1))
   all_goals
    go_wp2_with fail
    exact bodyPost_end (v := .tuple #[]) (by simp [results, Tryz.results16, go_sem]) rfl ⟨rfl, H1.out⟩
theorem mBegin_any {FS s d w M} (h : Mach FS s d w M) (n : Nat) (f : Fu) (hf : FS[n]? = some f) (X : List Int) (aa : Option Addr) (al ac : Nat) (hal : al = X.length) (hA : ∀ w', Only (foot s d) w w' -> Ints w' aa ac X) (M' : Ms) (hM : M.begin FS n X = some M') (hP : ∀ p ∈ f.params, p < 262144) (hl : M.nums.length <= 900000000) (hwl : M.wait.length <= 1000000000) :
 Calls Tryz.prog 16 #[.pointer (some ⟨s.mb, 0, none⟩), .int .i64 (n : Int), .slice aa al ac] w fun e w' => e = .returned (.tuple #[]) /\ ∃ d', Mach FS s d' w' M' /\ Foo s d d' w w' :=
 mBegin_gen (y34 := .pointer (some ⟨s.fb, s.fo + M.here.fi * 5, none⟩)) (y35 := .int .i64 (M.here.bk : Int)) (y36 := .int .i64 (M.here.bh : Int)) (y37 := .int .i64 (M.here.fst : Int)) h.box h.rest n f hf X aa al ac hal hA M' hM hP hl hwl
end Go.Proofs.YtfbkopjncmkbiabGreatDoor
namespace Go.Proofs.YtfbkopjncmkbiabGreatDoor
open Go.ChangeShapes Go.WideShapes Go.ChangeAt Go.RowKit
theorem add_anyW (a b : Int) (w : World) : Calls Tryz.prog 139 #[.int .i64 a, .int .i64 b] w fun e w' => e = .returned (.int .i64 (wrap64 (a + b))) /\ w' = w := by
 go_enter Tryz.func139, Tryz.ntmps139
 go_wp2
 go_ret
 exact ⟨rfl, rfl⟩
theorem sub_anyW (a b : Int) (w : World) : Calls Tryz.prog 140 #[.int .i64 a, .int .i64 b] w fun e w' => e = .returned (.int .i64 (wrap64 (a - b))) /\ w' = w := by
 go_enter Tryz.func140, Tryz.ntmps140
 go_wp2
 go_ret
 exact ⟨rfl, rfl⟩
theorem mul_anyW (a b : Int) (w : World) : Calls Tryz.prog 141 #[.int .i64 a, .int .i64 b] w fun e w' => e = .returned (.int .i64 (wrap64 (a * b))) /\ w' = w := by
 go_enter Tryz.func141, Tryz.ntmps141
 go_wp2
 go_ret
 exact ⟨rfl, rfl⟩
theorem and_anyW (a b : Int) (w : World) : Calls Tryz.prog 144 #[.int .i64 a, .int .i64 b] w fun e w' => e = .returned (.int .i64 (bits .and .i64 a b)) /\ w' = w := by
 go_enter Tryz.func144, Tryz.ntmps144
 go_wp2
 go_ret
 exact ⟨rfl, rfl⟩
theorem or_anyW (a b : Int) (w : World) : Calls Tryz.prog 145 #[.int .i64 a, .int .i64 b] w fun e w' => e = .returned (.int .i64 (bits .or .i64 a b)) /\ w' = w := by
 go_enter Tryz.func145, Tryz.ntmps145
 go_wp2
 go_ret
 exact ⟨rfl, rfl⟩
theorem xor_anyW (a b : Int) (w : World) : Calls Tryz.prog 146 #[.int .i64 a, .int .i64 b] w fun e w' => e = .returned (.int .i64 (bits .xor .i64 a b)) /\ w' = w := by
 go_enter Tryz.func146, Tryz.ntmps146
 go_wp2
 go_ret
 exact ⟨rfl, rfl⟩
theorem bic_anyW (a b : Int) (w : World) : Calls Tryz.prog 147 #[.int .i64 a, .int .i64 b] w fun e w' => e = .returned (.int .i64 (bits .andNot .i64 a b)) /\ w' = w := by
 go_enter Tryz.func147, Tryz.ntmps147
 go_wp2
 go_ret
 exact ⟨rfl, rfl⟩
theorem inv_anyW (a : Int) (w : World) : Calls Tryz.prog 158 #[.int .i64 a] w fun e w' => e = .returned (.int .i64 (bits .xor .i64 (-1) a)) /\ w' = w := by
 go_enter Tryz.func158, Tryz.ntmps158
 go_wp2
 go_ret
 exact ⟨rfl, rfl⟩
theorem neg_anyW (a : Int) (w : World) : Calls Tryz.prog 156 #[.int .i64 a] w fun e w' => e = .returned (.int .i64 (wrap64 (-a))) /\ w' = w := by
 go_enter Tryz.func156, Tryz.ntmps156
 go_wp2
 go_ret
 exact ⟨rfl, rfl⟩
def shlIW (a b : Int) : Int := if b < 0 then 0 else wrap64 (a * 2 ^ min b.toNat 64)
def shrIW (a b : Int) : Int := if b < 0 then 0 else a / 2 ^ min b.toNat 64
theorem shl_anyW (a b : Int) (w : World) : Calls Tryz.prog 148 #[.int .i64 a, .int .i64 b] w fun e w' => e = .returned (.int .i64 (shlIW a b)) /\ w' = w := by
 by_cases h : b < 0
 ·have e1 : Hid (shlIW a b = 0) := by unfold shlIW; rw [if_pos h]; rfl
  rw [e1.out]; clear e1
  go_enter Tryz.func148, Tryz.ntmps148
  go_wp2
  go_ret
  exact ⟨rfl, rfl⟩
 ·have e1 : Hid (shlIW a b = wrap64 (a * 2 ^ min b.toNat 64)) := by unfold shlIW; rw [if_neg h]; rfl
  rw [e1.out]; clear e1
  go_enter Tryz.func148, Tryz.ntmps148
  go_wp2
  go_ret
  exact ⟨by rw [<- IntWalk.i64_left]; rfl, rfl⟩
theorem shr_anyW (a b : Int) (w : World) : Calls Tryz.prog 149 #[.int .i64 a, .int .i64 b] w fun e w' => e = .returned (.int .i64 (shrIW a b)) /\ w' = w := by
 by_cases h : b < 0
 ·have e1 : Hid (shrIW a b = 0) := by unfold shrIW; rw [if_pos h]; rfl
  rw [e1.out]; clear e1
  go_enter Tryz.func149, Tryz.ntmps149
  go_wp2
  go_ret
  exact ⟨rfl, rfl⟩
 ·have e1 : Hid (shrIW a b = a / 2 ^ min b.toNat 64) := by unfold shrIW; rw [if_neg h]; rfl
  rw [e1.out]; clear e1
  go_enter Tryz.func149, Tryz.ntmps149
  go_wp2
  go_ret
  exact ⟨rfl, rfl⟩
def divIW (a b : Int) : Int := if b = 0 then 0 else wrap64 (a.tdiv b)
def remIW (a b : Int) : Int := if b = 0 then 0 else a.tmod b
theorem div_anyW (a b : Int) (w : World) : Calls Tryz.prog 142 #[.int .i64 a, .int .i64 b] w fun e w' => e = .returned (.int .i64 (divIW a b)) /\ w' = w := by
 by_cases h : b = 0
 ·subst h
  go_enter Tryz.func142, Tryz.ntmps142
  go_wp2
  go_ret
  exact ⟨rfl, rfl⟩
 ·have e1 : Hid (divIW a b = wrap64 (a.tdiv b)) := by unfold divIW; rw [if_neg h]; rfl
  rw [e1.out]; clear e1
  have h1 : (b == 0) = false := by simp [h]
  go_enter Tryz.func142, Tryz.ntmps142
  go_wp2
  go_ret
  exact ⟨rfl, rfl⟩
theorem rem_anyW (a b : Int) (w : World) : Calls Tryz.prog 143 #[.int .i64 a, .int .i64 b] w fun e w' => e = .returned (.int .i64 (remIW a b)) /\ w' = w := by
 by_cases h : b = 0
 ·subst h
  go_enter Tryz.func143, Tryz.ntmps143
  go_wp2
  go_ret
  exact ⟨rfl, rfl⟩
 ·have e1 : Hid (remIW a b = a.tmod b) := by unfold remIW; rw [if_neg h]; rfl
  rw [e1.out]; clear e1
  have h1 : (b == 0) = false := by simp [h]
  go_enter Tryz.func143, Tryz.ntmps143
  go_wp2
  go_ret
  exact ⟨rfl, rfl⟩
def truthIW (p : Bool) : Int := if p then 1 else 0
theorem truth_anyW (p : Bool) (w : World) : Calls Tryz.prog 151 #[.bool p] w fun e w' => e = .returned (.int .i64 (truthIW p)) /\ w' = w := by
 cases p
 ·go_enter Tryz.func151, Tryz.ntmps151
  go_wp2
  go_ret
  exact ⟨rfl, rfl⟩
 ·go_enter Tryz.func151, Tryz.ntmps151
  go_wp2
  go_ret
  exact ⟨rfl, rfl⟩
theorem eq_anyW (a b : Int) (w : World) : Calls Tryz.prog 150 #[.int .i64 a, .int .i64 b] w fun e w' => e = .returned (.int .i64 (truthIW (a == b))) /\ w' = w := by
 go_enter Tryz.func150, Tryz.ntmps150
 go_wp2_with (go_at_call 151; refine (truth_anyW _ _).mono ?_; rintro e w' ⟨rfl, rfl⟩)
 go_ret
 exact ⟨rfl, rfl⟩
theorem ne_anyW (a b : Int) (w : World) : Calls Tryz.prog 152 #[.int .i64 a, .int .i64 b] w fun e w' => e = .returned (.int .i64 (truthIW (a != b))) /\ w' = w := by
 go_enter Tryz.func152, Tryz.ntmps152
 go_wp2_with (go_at_call 151; refine (truth_anyW _ _).mono ?_; rintro e w' ⟨rfl, rfl⟩)
 go_ret
 exact ⟨rfl, rfl⟩
theorem lt_anyW (a b : Int) (w : World) : Calls Tryz.prog 153 #[.int .i64 a, .int .i64 b] w fun e w' => e = .returned (.int .i64 (truthIW (decide (a < b)))) /\ w' = w := by
 go_enter Tryz.func153, Tryz.ntmps153
 go_wp2_with (go_at_call 151; refine (truth_anyW _ _).mono ?_; rintro e w' ⟨rfl, rfl⟩)
 go_ret
 exact ⟨rfl, rfl⟩
theorem le_anyW (a b : Int) (w : World) : Calls Tryz.prog 154 #[.int .i64 a, .int .i64 b] w fun e w' => e = .returned (.int .i64 (truthIW (decide (a <= b)))) /\ w' = w := by
 go_enter Tryz.func154, Tryz.ntmps154
 go_wp2_with (go_at_call 151; refine (truth_anyW _ _).mono ?_; rintro e w' ⟨rfl, rfl⟩)
 go_ret
 exact ⟨rfl, rfl⟩
theorem neg2_anyW (a b : Int) (w : World) : Calls Tryz.prog 155 #[.int .i64 a, .int .i64 b] w fun e w' => e = .returned (.int .i64 (wrap64 (-a))) /\ w' = w := by
 go_enter Tryz.func155, Tryz.ntmps155
 go_wp2_with (go_at_call 156; refine (neg_anyW _ _).mono ?_; rintro e w' ⟨rfl, rfl⟩)
 go_ret
 exact ⟨rfl, rfl⟩
theorem inv2_anyW (a b : Int) (w : World) : Calls Tryz.prog 157 #[.int .i64 a, .int .i64 b] w fun e w' => e = .returned (.int .i64 (bits .xor .i64 (-1) a)) /\ w' = w := by
 go_enter Tryz.func157, Tryz.ntmps157
 go_wp2_with (go_at_call 158; refine (inv_anyW _ _).mono ?_; rintro e w' ⟨rfl, rfl⟩)
 go_ret
 exact ⟨rfl, rfl⟩
theorem not_anyW (a b : Int) (w : World) : Calls Tryz.prog 159 #[.int .i64 a, .int .i64 b] w fun e w' => e = .returned (.int .i64 (wrap64 (1 - a))) /\ w' = w := by
 go_enter Tryz.func159, Tryz.ntmps159
 go_wp2_with (go_at_call 140; refine (sub_anyW _ _ _).mono ?_; rintro e w' ⟨rfl, rfl⟩)
 go_ret
 exact ⟨rfl, rfl⟩
def tblW : Array Value := #[Value.func (Fn.func 139) #[] #[], Value.func (Fn.func 140) #[] #[], Value.func (Fn.func 141) #[] #[], Value.func (Fn.func 142) #[] #[], Value.func (Fn.func 143) #[] #[], Value.func (Fn.func 144) #[] #[], Value.func (Fn.func 145) #[] #[], Value.func (Fn.func 146) #[] #[], Value.func (Fn.func 147) #[] #[], Value.func (Fn.func 148) #[] #[], Value.func (Fn.func 149) #[] #[], Value.func (Fn.func 150) #[] #[], Value.func (Fn.func 152) #[] #[], Value.func (Fn.func 153) #[] #[], Value.func (Fn.func 154) #[] #[], Value.func (Fn.func 155) #[] #[], Value.func (Fn.func 157) #[] #[], Value.func (Fn.func 159) #[] #[]]
theorem operations_anyW (w : World) : Calls Tryz.prog 113 #[] w fun e w' => e = .returned (.agg tblW) /\ w' = w.alloc (.cells tblW 137) := by
 go_enter Tryz.func113, Tryz.ntmps113
 go_wp2_with (refine wpList_store_row rfl 137 _ _ rfl _ _ rfl rfl 137 _ (heap_alloc_new _ _) (by kernel_rfl) rfl (by kernel_rfl) ?_; rw [World.setRow_alloc_new])
 refine bodyPost_ret (v := .agg tblW) ?_ rfl ⟨rfl, rfl⟩
 exact results_cell_row rfl _ _ _ 137 tblW (0, 0) _ rfl (heap_alloc_new _ _) Tryz.underlying137 rfl (by kernel_rfl)
end Go.Proofs.YtfbkopjncmkbiabGreatDoor
