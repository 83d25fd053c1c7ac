import Derived.Test.YtfbkopjncmkbiabGreatDoorKaz
import Derived.Test.YtfbkopjncmkbiabGreatDoorKbc
set_option linter.unusedVariables false
set_option linter.unusedSimpArgs false
namespace Go.Proofs.YtfbkopjncmkbiabGreatDoor
open Go.ChangeShapes Go.WideShapes Go.ChangeAt Go.RowKit Go.Maps
theorem mcs_tbl (s : Mst) (d : Mdy) (M : Ms) {o : Nat} (ho : o < 31) : (mcs s d M).toArray[o]? = tblM[o]? := by
 have e : tblM.length = 31 := rfl
 unfold mcs
 rw [List.getElem?_toArray, List.getElem?_append_left (by omega)]
def Ms.after (M : Ms) (i : Nat) : Option Int -> Ms
 | none => M
 | some x => M.put i x
structure Oprt (FS : List Fu) (s : Mst) (d : Mdy) (M : Ms) (v : Vl) (K : Nat) (M1 : Ms) (r : Option Int) : Prop where
 out : ∀ W ka kl kc, Mach FS s d W M -> kl = v.args.length -> Ints W ka kc v.args -> Calls Tryz.prog K #[.pointer (some ⟨s.mb, 0, none⟩), .agg #[.int .i64 v.op, .int .i64 v.ty, .int .i64 v.imm, .slice ka kl kc]] W fun e w' => e = .returned (.tuple #[.int .i64 (r.getD 0), .bool r.isSome]) /\ ∃ d', Mach FS s d' w' M1 /\ Foo s d d' W w'
set_option maxRecDepth 100000 in
set_option maxHeartbeats 2000000 in
theorem mDo_constant {FS s d w M} (h : Mach FS s d w M) (i : Nat) (f : Fu) (hf : FS[M.here.fi]? = some f) (v : Vl) (hv : f.vals[i]? = some v) (o : Nat) (ho : v.op = (o : Int)) (ho1 : o < 31) (ht : tblM[o]? = some (.func (.func 23) #[] #[])) (M1 : Ms) (r : Option Int) (hO : Oprt FS s d M v 23 M1 r) (hb : ∀ x, r = some x -> M1.here.fst + i <= 1000000000 /\ M1.nums.length <= 1000000000) :
 Calls Tryz.prog 45 #[.pointer (some ⟨s.mb, 0, none⟩), .int .i64 (i : Int)] w fun e w' => e = .returned (.tuple #[]) /\ ∃ d', Mach FS s d' w' (M1.after i r) /\ Foo s d d' w w' := by
 have hn : M.here.fi < FS.length := (List.getElem?_eq_some_iff.1 hf).1
 have hfe : FS[M.here.fi] = f := (List.getElem?_eq_some_iff.1 hf).2
 have hi : i < f.vals.length := (List.getElem?_eq_some_iff.1 hv).1
 have hve : f.vals[i] = v := (List.getElem?_eq_some_iff.1 hv).2
 obtain ⟨pa, pc, la, lc, ma, mc, hst, u1, hvs, u2⟩ := st_fu h.rest.agr h.rest.fus hn
 clear u1 u2
 rw [hfe] at hst hvs
 obtain ⟨b, o2, ka, kc, rfl, hvc, hvi⟩ := st_vl h.rest.agr hvs hi
 rw [hve] at hvc hvi
 obtain ⟨k0, k1, k2, k3⟩ := hvc w h.rest.agr
 have f3 := (hst w h.rest.agr).2.1
 have c34 := h.cells.c34
 have hlt := h.cells.lt
 have hvl := (hvs w h.rest.agr).le
 have hvm := (hvs w h.rest.agr).mx
 obtain ⟨nv, hnv⟩ : ∃ nv, nv = f.vals.length := ⟨_, rfl⟩
 obtain ⟨kl, hkl⟩ : ∃ kl, kl = v.args.length := ⟨_, rfl⟩
 rw [<- hkl] at k3
 rw [<- hnv] at f3 hi hvl
 have hfb : s.fb < w.heap.size := block_lt_of_cell f3
 have hbb : b < w.heap.size := block_lt_of_cell k0
 obtain ⟨w1, hw1⟩ : ∃ w1, w1 = w.alloc (.cells #[.int .i64 v.op, .int .i64 v.ty, .int .i64 v.imm, .slice ka kl kc] 25) := ⟨_, rfl⟩
 have b1 : Below w.heap.size w w1 := by rw [hw1]; exact below_new w _
 have b2 : Below w1.heap.size w1 w1.drew := (Below.refl _ _).drew
 have h1 := h.below b1
 have h2 := h1.below b2
 have vb1 : w1.heap[w.heap.size]? = some (.cells #[.int .i64 v.op, .int .i64 v.ty, .int .i64 v.imm, .slice ka kl kc] 25 (0, 0)) := by rw [hw1]; exact heap_alloc_new _ _
 have vb2 := (b2.block _ (gl vb1)).trans vb1
 have nf := h2.not_foot vb2 (by decide) (by decide) (by decide) (by decide) (by decide)
 obtain ⟨g, hg⟩ : ∃ g, g = w.heap.size := ⟨_, rfl⟩
 rw [<- hg] at vb2 nf
 have tb : ∀ W d' M', Mach FS s d' W M' -> W.cell? ⟨s.mb, o, none⟩ = some (.func (.func 23) #[] #[]) := fun W d' M' q => cell_arr q.box (by rw [mcs_tbl _ _ _ ho1, ht])
 have HOP : Hid (Calls Tryz.prog 23 #[.pointer (some ⟨s.mb, 0, none⟩), .agg #[.int .i64 (o : Int), .int .i64 v.ty, .int .i64 v.imm, .slice ka kl kc]] w1.drew fun e w' => e = .returned (.tuple #[.int .i64 (r.getD 0), .bool r.isSome]) /\ (∃ d', Mach FS s d' w' M1 /\ Foo s d d' w w') /\ s.mb < w'.heap.size /\ (w'.cell? ⟨g, 0, none⟩ = some (.int .i64 (o : Int)) /\ w'.cell? ⟨g, 1, none⟩ = some (.int .i64 v.ty) /\ w'.cell? ⟨g, 2, none⟩ = some (.int .i64 v.imm) /\ w'.cell? ⟨g, 3, none⟩ = some (.slice ka kl kc) /\ w'.cell? ⟨s.mb, o, none⟩ = some (.func (.func 23) #[] #[]))) := by
  have q := hO.out w1.drew ka kl kc h2 hkl (hvi _ h2.rest.agr)
  rw [ho] at q
  refine Calls.mono q ?_
  rintro e w' ⟨rfl, d', q1, q2⟩
  have vb9 := (q2.only.block _ (gl vb2) nf).trans vb2
  exact ⟨rfl, ⟨d', q1, (Foo.of_below b1).trans ((Foo.of_below b2).trans q2)⟩, q1.cells.lt, by rw [<- ho]; exact cell_arr vb9 rfl, cell_arr vb9 rfl, cell_arr vb9 rfl, cell_arr vb9 rfl, tb _ _ _ q1⟩
 have S0 : w1.drew.cell? ⟨g, 0, none⟩ = some (.int .i64 (o : Int)) /\ w1.drew.cell? ⟨g, 1, none⟩ = some (.int .i64 v.ty) /\ w1.drew.cell? ⟨g, 2, none⟩ = some (.int .i64 v.imm) /\ w1.drew.cell? ⟨g, 3, none⟩ = some (.slice ka kl kc) /\ w1.drew.cell? ⟨s.mb, o, none⟩ = some (.func (.func 23) #[] #[]) := ⟨by rw [<- ho]; exact cell_arr vb2 rfl, cell_arr vb2 rfl, cell_arr vb2 rfl, cell_arr vb2 rfl, tb _ _ _ h2⟩
 have HSET : Hid (∀ w3 x, r = some x -> (∃ d', Mach FS s d' w3 M1 /\ Foo s d d' w w3) -> Calls Tryz.prog 41 #[.pointer (some ⟨s.mb, 0, none⟩), .int .i64 (i : Int), .int .i64 x] w3 fun e w' => e = .returned (.tuple #[]) /\ ∃ d', Mach FS s d' w' (M1.after i r) /\ Foo s d d' w w') := by
  rintro w3 x rfl ⟨d', q1, q2⟩
  exact (mSet_any q1 i x (hb x rfl).1 (hb x rfl).2).mono fun e w' ⟨q3, d'', q4, q5⟩ => ⟨q3, d'', q4, q2.trans q5⟩
 rw [ho] at hw1 k0
 have hoI : (o : Int) < 31 := by omega
 have hiI : (i : Int) < (nv : Int) := by omega
 generalize s.mb = mb at *
 generalize s.fb = fb at *
 generalize s.fo + M.here.fi * 5 = q at *
 clear h h1 h2 b1 b2 vb1 vb2 nf tb hst hvs hvc hvi hf hfe hv hve hO hn hnv hkl ho ht
 go_enter Tryz.func45, Tryz.ntmps45
 go_upto_region 1 with fail
 rw [<- hw1]
 clear hw1
 rw [<- hg]
 clear hg k0 k1 k2 k3 f3 c34 hfb hbb
 cases r with
 | none =>
   have HOQ : Hid _ := HOP.out
   simp only [Option.getD, Option.isSome] at HOQ
   clear HOP HSET
   go_region_held (fun W => W.cell? ⟨g, 0, none⟩ = some (.int .i64 (o : Int)) /\ W.cell? ⟨g, 1, none⟩ = some (.int .i64 v.ty) /\ W.cell? ⟨g, 2, none⟩ = some (.int .i64 v.imm) /\ W.cell? ⟨g, 3, none⟩ = some (.slice ka kl kc) /\ W.cell? ⟨mb, o, none⟩ = some (.func (.func 23) #[] #[]))
    (first | exact S0 | exact S9)
    (first | (go_at_call 23; refine Calls.mono HOQ.out ?_; rintro e w3 ⟨rfl, h3, x3, S9⟩; have H3 : Hid _ := h3; clear h3))
   all_goals
    go_wp2_with fail
    exact bodyPost_end (v := .tuple #[]) (by simp [results, Tryz.results45, go_sem]) rfl ⟨rfl, H3.out⟩
 | some x =>
   have HOQ : Hid _ := HOP.out
   simp only [Option.getD, Option.isSome] at HOQ
   clear HOP
   go_region_held (fun W => W.cell? ⟨g, 0, none⟩ = some (.int .i64 (o : Int)) /\ W.cell? ⟨g, 1, none⟩ = some (.int .i64 v.ty) /\ W.cell? ⟨g, 2, none⟩ = some (.int .i64 v.imm) /\ W.cell? ⟨g, 3, none⟩ = some (.slice ka kl kc) /\ W.cell? ⟨mb, o, none⟩ = some (.func (.func 23) #[] #[]))
    (first | exact S0 | exact S9)
    (first | (go_at_call 23; refine Calls.mono HOQ.out ?_; rintro e w3 ⟨rfl, h3, x3, S9⟩; have H3 : Hid _ := HSET.out w3 x rfl h3; clear h3))
   all_goals
    go_wp2_with (go_at_call 41; refine Calls.mono H3.out ?_; rintro e w4 ⟨rfl, h4⟩; have H4 : Hid _ := h4; clear h4)
    exact bodyPost_end (v := .tuple #[]) (by simp [results, Tryz.results45, go_sem]) rfl ⟨rfl, H4.out⟩
set_option maxRecDepth 100000 in
set_option maxHeartbeats 2000000 in
theorem mDo_calculate {FS s d w M} (h : Mach FS s d w M) (i : Nat) (f : Fu) (hf : FS[M.here.fi]? = some f) (v : Vl) (hv : f.vals[i]? = some v) (o : Nat) (ho : v.op = (o : Int)) (ho1 : o < 31) (ht : tblM[o]? = some (.func (.func 37) #[] #[])) (M1 : Ms) (r : Option Int) (hO : Oprt FS s d M v 37 M1 r) (hb : ∀ x, r = some x -> M1.here.fst + i <= 1000000000 /\ M1.nums.length <= 1000000000) :
 Calls Tryz.prog 45 #[.pointer (some ⟨s.mb, 0, none⟩), .int .i64 (i : Int)] w fun e w' => e = .returned (.tuple #[]) /\ ∃ d', Mach FS s d' w' (M1.after i r) /\ Foo s d d' w w' := by
 have hn : M.here.fi < FS.length := (List.getElem?_eq_some_iff.1 hf).1
 have hfe : FS[M.here.fi] = f := (List.getElem?_eq_some_iff.1 hf).2
 have hi : i < f.vals.length := (List.getElem?_eq_some_iff.1 hv).1
 have hve : f.vals[i] = v := (List.getElem?_eq_some_iff.1 hv).2
 obtain ⟨pa, pc, la, lc, ma, mc, hst, u1, hvs, u2⟩ := st_fu h.rest.agr h.rest.fus hn
 clear u1 u2
 rw [hfe] at hst hvs
 obtain ⟨b, o2, ka, kc, rfl, hvc, hvi⟩ := st_vl h.rest.agr hvs hi
 rw [hve] at hvc hvi
 obtain ⟨k0, k1, k2, k3⟩ := hvc w h.rest.agr
 have f3 := (hst w h.rest.agr).2.1
 have c34 := h.cells.c34
 have hlt := h.cells.lt
 have hvl := (hvs w h.rest.agr).le
 have hvm := (hvs w h.rest.agr).mx
 obtain ⟨nv, hnv⟩ : ∃ nv, nv = f.vals.length := ⟨_, rfl⟩
 obtain ⟨kl, hkl⟩ : ∃ kl, kl = v.args.length := ⟨_, rfl⟩
 rw [<- hkl] at k3
 rw [<- hnv] at f3 hi hvl
 have hfb : s.fb < w.heap.size := block_lt_of_cell f3
 have hbb : b < w.heap.size := block_lt_of_cell k0
 obtain ⟨w1, hw1⟩ : ∃ w1, w1 = w.alloc (.cells #[.int .i64 v.op, .int .i64 v.ty, .int .i64 v.imm, .slice ka kl kc] 25) := ⟨_, rfl⟩
 have b1 : Below w.heap.size w w1 := by rw [hw1]; exact below_new w _
 have b2 : Below w1.heap.size w1 w1.drew := (Below.refl _ _).drew
 have h1 := h.below b1
 have h2 := h1.below b2
 have vb1 : w1.heap[w.heap.size]? = some (.cells #[.int .i64 v.op, .int .i64 v.ty, .int .i64 v.imm, .slice ka kl kc] 25 (0, 0)) := by rw [hw1]; exact heap_alloc_new _ _
 have vb2 := (b2.block _ (gl vb1)).trans vb1
 have nf := h2.not_foot vb2 (by decide) (by decide) (by decide) (by decide) (by decide)
 obtain ⟨g, hg⟩ : ∃ g, g = w.heap.size := ⟨_, rfl⟩
 rw [<- hg] at vb2 nf
 have tb : ∀ W d' M', Mach FS s d' W M' -> W.cell? ⟨s.mb, o, none⟩ = some (.func (.func 37) #[] #[]) := fun W d' M' q => cell_arr q.box (by rw [mcs_tbl _ _ _ ho1, ht])
 have HOP : Hid (Calls Tryz.prog 37 #[.pointer (some ⟨s.mb, 0, none⟩), .agg #[.int .i64 (o : Int), .int .i64 v.ty, .int .i64 v.imm, .slice ka kl kc]] w1.drew fun e w' => e = .returned (.tuple #[.int .i64 (r.getD 0), .bool r.isSome]) /\ (∃ d', Mach FS s d' w' M1 /\ Foo s d d' w w') /\ s.mb < w'.heap.size /\ (w'.cell? ⟨g, 0, none⟩ = some (.int .i64 (o : Int)) /\ w'.cell? ⟨g, 1, none⟩ = some (.int .i64 v.ty) /\ w'.cell? ⟨g, 2, none⟩ = some (.int .i64 v.imm) /\ w'.cell? ⟨g, 3, none⟩ = some (.slice ka kl kc) /\ w'.cell? ⟨s.mb, o, none⟩ = some (.func (.func 37) #[] #[]))) := by
  have q := hO.out w1.drew ka kl kc h2 hkl (hvi _ h2.rest.agr)
  rw [ho] at q
  refine Calls.mono q ?_
  rintro e w' ⟨rfl, d', q1, q2⟩
  have vb9 := (q2.only.block _ (gl vb2) nf).trans vb2
  exact ⟨rfl, ⟨d', q1, (Foo.of_below b1).trans ((Foo.of_below b2).trans q2)⟩, q1.cells.lt, by rw [<- ho]; exact cell_arr vb9 rfl, cell_arr vb9 rfl, cell_arr vb9 rfl, cell_arr vb9 rfl, tb _ _ _ q1⟩
 have S0 : w1.drew.cell? ⟨g, 0, none⟩ = some (.int .i64 (o : Int)) /\ w1.drew.cell? ⟨g, 1, none⟩ = some (.int .i64 v.ty) /\ w1.drew.cell? ⟨g, 2, none⟩ = some (.int .i64 v.imm) /\ w1.drew.cell? ⟨g, 3, none⟩ = some (.slice ka kl kc) /\ w1.drew.cell? ⟨s.mb, o, none⟩ = some (.func (.func 37) #[] #[]) := ⟨by rw [<- ho]; exact cell_arr vb2 rfl, cell_arr vb2 rfl, cell_arr vb2 rfl, cell_arr vb2 rfl, tb _ _ _ h2⟩
 have HSET : Hid (∀ w3 x, r = some x -> (∃ d', Mach FS s d' w3 M1 /\ Foo s d d' w w3) -> Calls Tryz.prog 41 #[.pointer (some ⟨s.mb, 0, none⟩), .int .i64 (i : Int), .int .i64 x] w3 fun e w' => e = .returned (.tuple #[]) /\ ∃ d', Mach FS s d' w' (M1.after i r) /\ Foo s d d' w w') := by
  rintro w3 x rfl ⟨d', q1, q2⟩
  exact (mSet_any q1 i x (hb x rfl).1 (hb x rfl).2).mono fun e w' ⟨q3, d'', q4, q5⟩ => ⟨q3, d'', q4, q2.trans q5⟩
 rw [ho] at hw1 k0
 have hoI : (o : Int) < 31 := by omega
 have hiI : (i : Int) < (nv : Int) := by omega
 generalize s.mb = mb at *
 generalize s.fb = fb at *
 generalize s.fo + M.here.fi * 5 = q at *
 clear h h1 h2 b1 b2 vb1 vb2 nf tb hst hvs hvc hvi hf hfe hv hve hO hn hnv hkl ho ht
 go_enter Tryz.func45, Tryz.ntmps45
 go_upto_region 1 with fail
 rw [<- hw1]
 clear hw1
 rw [<- hg]
 clear hg k0 k1 k2 k3 f3 c34 hfb hbb
 cases r with
 | none =>
   have HOQ : Hid _ := HOP.out
   simp only [Option.getD, Option.isSome] at HOQ
   clear HOP HSET
   go_region_held (fun W => W.cell? ⟨g, 0, none⟩ = some (.int .i64 (o : Int)) /\ W.cell? ⟨g, 1, none⟩ = some (.int .i64 v.ty) /\ W.cell? ⟨g, 2, none⟩ = some (.int .i64 v.imm) /\ W.cell? ⟨g, 3, none⟩ = some (.slice ka kl kc) /\ W.cell? ⟨mb, o, none⟩ = some (.func (.func 37) #[] #[]))
    (first | exact S0 | exact S9)
    (first | (go_at_call 37; refine Calls.mono HOQ.out ?_; rintro e w3 ⟨rfl, h3, x3, S9⟩; have H3 : Hid _ := h3; clear h3))
   all_goals
    go_wp2_with fail
    exact bodyPost_end (v := .tuple #[]) (by simp [results, Tryz.results45, go_sem]) rfl ⟨rfl, H3.out⟩
 | some x =>
   have HOQ : Hid _ := HOP.out
   simp only [Option.getD, Option.isSome] at HOQ
   clear HOP
   go_region_held (fun W => W.cell? ⟨g, 0, none⟩ = some (.int .i64 (o : Int)) /\ W.cell? ⟨g, 1, none⟩ = some (.int .i64 v.ty) /\ W.cell? ⟨g, 2, none⟩ = some (.int .i64 v.imm) /\ W.cell? ⟨g, 3, none⟩ = some (.slice ka kl kc) /\ W.cell? ⟨mb, o, none⟩ = some (.func (.func 37) #[] #[]))
    (first | exact S0 | exact S9)
    (first | (go_at_call 37; refine Calls.mono HOQ.out ?_; rintro e w3 ⟨rfl, h3, x3, S9⟩; have H3 : Hid _ := HSET.out w3 x rfl h3; clear h3))
   all_goals
    go_wp2_with (go_at_call 41; refine Calls.mono H3.out ?_; rintro e w4 ⟨rfl, h4⟩; have H4 : Hid _ := h4; clear h4)
    exact bodyPost_end (v := .tuple #[]) (by simp [results, Tryz.results45, go_sem]) rfl ⟨rfl, H4.out⟩
set_option maxRecDepth 100000 in
set_option maxHeartbeats 2000000 in
theorem mDo_take {FS s d w M} (h : Mach FS s d w M) (i : Nat) (f : Fu) (hf : FS[M.here.fi]? = some f) (v : Vl) (hv : f.vals[i]? = some v) (o : Nat) (ho : v.op = (o : Int)) (ho1 : o < 31) (ht : tblM[o]? = some (.func (.func 30) #[] #[])) (M1 : Ms) (r : Option Int) (hO : Oprt FS s d M v 30 M1 r) (hb : ∀ x, r = some x -> M1.here.fst + i <= 1000000000 /\ M1.nums.length <= 1000000000) :
 Calls Tryz.prog 45 #[.pointer (some ⟨s.mb, 0, none⟩), .int .i64 (i : Int)] w fun e w' => e = .returned (.tuple #[]) /\ ∃ d', Mach FS s d' w' (M1.after i r) /\ Foo s d d' w w' := by
 have hn : M.here.fi < FS.length := (List.getElem?_eq_some_iff.1 hf).1
 have hfe : FS[M.here.fi] = f := (List.getElem?_eq_some_iff.1 hf).2
 have hi : i < f.vals.length := (List.getElem?_eq_some_iff.1 hv).1
 have hve : f.vals[i] = v := (List.getElem?_eq_some_iff.1 hv).2
 obtain ⟨pa, pc, la, lc, ma, mc, hst, u1, hvs, u2⟩ := st_fu h.rest.agr h.rest.fus hn
 clear u1 u2
 rw [hfe] at hst hvs
 obtain ⟨b, o2, ka, kc, rfl, hvc, hvi⟩ := st_vl h.rest.agr hvs hi
 rw [hve] at hvc hvi
 obtain ⟨k0, k1, k2, k3⟩ := hvc w h.rest.agr
 have f3 := (hst w h.rest.agr).2.1
 have c34 := h.cells.c34
 have hlt := h.cells.lt
 have hvl := (hvs w h.rest.agr).le
 have hvm := (hvs w h.rest.agr).mx
 obtain ⟨nv, hnv⟩ : ∃ nv, nv = f.vals.length := ⟨_, rfl⟩
 obtain ⟨kl, hkl⟩ : ∃ kl, kl = v.args.length := ⟨_, rfl⟩
 rw [<- hkl] at k3
 rw [<- hnv] at f3 hi hvl
 have hfb : s.fb < w.heap.size := block_lt_of_cell f3
 have hbb : b < w.heap.size := block_lt_of_cell k0
 obtain ⟨w1, hw1⟩ : ∃ w1, w1 = w.alloc (.cells #[.int .i64 v.op, .int .i64 v.ty, .int .i64 v.imm, .slice ka kl kc] 25) := ⟨_, rfl⟩
 have b1 : Below w.heap.size w w1 := by rw [hw1]; exact below_new w _
 have b2 : Below w1.heap.size w1 w1.drew := (Below.refl _ _).drew
 have h1 := h.below b1
 have h2 := h1.below b2
 have vb1 : w1.heap[w.heap.size]? = some (.cells #[.int .i64 v.op, .int .i64 v.ty, .int .i64 v.imm, .slice ka kl kc] 25 (0, 0)) := by rw [hw1]; exact heap_alloc_new _ _
 have vb2 := (b2.block _ (gl vb1)).trans vb1
 have nf := h2.not_foot vb2 (by decide) (by decide) (by decide) (by decide) (by decide)
 obtain ⟨g, hg⟩ : ∃ g, g = w.heap.size := ⟨_, rfl⟩
 rw [<- hg] at vb2 nf
 have tb : ∀ W d' M', Mach FS s d' W M' -> W.cell? ⟨s.mb, o, none⟩ = some (.func (.func 30) #[] #[]) := fun W d' M' q => cell_arr q.box (by rw [mcs_tbl _ _ _ ho1, ht])
 have HOP : Hid (Calls Tryz.prog 30 #[.pointer (some ⟨s.mb, 0, none⟩), .agg #[.int .i64 (o : Int), .int .i64 v.ty, .int .i64 v.imm, .slice ka kl kc]] w1.drew fun e w' => e = .returned (.tuple #[.int .i64 (r.getD 0), .bool r.isSome]) /\ (∃ d', Mach FS s d' w' M1 /\ Foo s d d' w w') /\ s.mb < w'.heap.size /\ (w'.cell? ⟨g, 0, none⟩ = some (.int .i64 (o : Int)) /\ w'.cell? ⟨g, 1, none⟩ = some (.int .i64 v.ty) /\ w'.cell? ⟨g, 2, none⟩ = some (.int .i64 v.imm) /\ w'.cell? ⟨g, 3, none⟩ = some (.slice ka kl kc) /\ w'.cell? ⟨s.mb, o, none⟩ = some (.func (.func 30) #[] #[]))) := by
  have q := hO.out w1.drew ka kl kc h2 hkl (hvi _ h2.rest.agr)
  rw [ho] at q
  refine Calls.mono q ?_
  rintro e w' ⟨rfl, d', q1, q2⟩
  have vb9 := (q2.only.block _ (gl vb2) nf).trans vb2
  exact ⟨rfl, ⟨d', q1, (Foo.of_below b1).trans ((Foo.of_below b2).trans q2)⟩, q1.cells.lt, by rw [<- ho]; exact cell_arr vb9 rfl, cell_arr vb9 rfl, cell_arr vb9 rfl, cell_arr vb9 rfl, tb _ _ _ q1⟩
 have S0 : w1.drew.cell? ⟨g, 0, none⟩ = some (.int .i64 (o : Int)) /\ w1.drew.cell? ⟨g, 1, none⟩ = some (.int .i64 v.ty) /\ w1.drew.cell? ⟨g, 2, none⟩ = some (.int .i64 v.imm) /\ w1.drew.cell? ⟨g, 3, none⟩ = some (.slice ka kl kc) /\ w1.drew.cell? ⟨s.mb, o, none⟩ = some (.func (.func 30) #[] #[]) := ⟨by rw [<- ho]; exact cell_arr vb2 rfl, cell_arr vb2 rfl, cell_arr vb2 rfl, cell_arr vb2 rfl, tb _ _ _ h2⟩
 have HSET : Hid (∀ w3 x, r = some x -> (∃ d', Mach FS s d' w3 M1 /\ Foo s d d' w w3) -> Calls Tryz.prog 41 #[.pointer (some ⟨s.mb, 0, none⟩), .int .i64 (i : Int), .int .i64 x] w3 fun e w' => e = .returned (.tuple #[]) /\ ∃ d', Mach FS s d' w' (M1.after i r) /\ Foo s d d' w w') := by
  rintro w3 x rfl ⟨d', q1, q2⟩
  exact (mSet_any q1 i x (hb x rfl).1 (hb x rfl).2).mono fun e w' ⟨q3, d'', q4, q5⟩ => ⟨q3, d'', q4, q2.trans q5⟩
 rw [ho] at hw1 k0
 have hoI : (o : Int) < 31 := by omega
 have hiI : (i : Int) < (nv : Int) := by omega
 generalize s.mb = mb at *
 generalize s.fb = fb at *
 generalize s.fo + M.here.fi * 5 = q at *
 clear h h1 h2 b1 b2 vb1 vb2 nf tb hst hvs hvc hvi hf hfe hv hve hO hn hnv hkl ho ht
 go_enter Tryz.func45, Tryz.ntmps45
 go_upto_region 1 with fail
 rw [<- hw1]
 clear hw1
 rw [<- hg]
 clear hg k0 k1 k2 k3 f3 c34 hfb hbb
 cases r with
 | none =>
   have HOQ : Hid _ := HOP.out
   simp only [Option.getD, Option.isSome] at HOQ
   clear HOP HSET
   go_region_held (fun W => W.cell? ⟨g, 0, none⟩ = some (.int .i64 (o : Int)) /\ W.cell? ⟨g, 1, none⟩ = some (.int .i64 v.ty) /\ W.cell? ⟨g, 2, none⟩ = some (.int .i64 v.imm) /\ W.cell? ⟨g, 3, none⟩ = some (.slice ka kl kc) /\ W.cell? ⟨mb, o, none⟩ = some (.func (.func 30) #[] #[]))
    (first | exact S0 | exact S9)
    (first | (go_at_call 30; refine Calls.mono HOQ.out ?_; rintro e w3 ⟨rfl, h3, x3, S9⟩; have H3 : Hid _ := h3; clear h3))
   all_goals
    go_wp2_with fail
    exact bodyPost_end (v := .tuple #[]) (by simp [results, Tryz.results45, go_sem]) rfl ⟨rfl, H3.out⟩
 | some x =>
   have HOQ : Hid _ := HOP.out
   simp only [Option.getD, Option.isSome] at HOQ
   clear HOP
   go_region_held (fun W => W.cell? ⟨g, 0, none⟩ = some (.int .i64 (o : Int)) /\ W.cell? ⟨g, 1, none⟩ = some (.int .i64 v.ty) /\ W.cell? ⟨g, 2, none⟩ = some (.int .i64 v.imm) /\ W.cell? ⟨g, 3, none⟩ = some (.slice ka kl kc) /\ W.cell? ⟨mb, o, none⟩ = some (.func (.func 30) #[] #[]))
    (first | exact S0 | exact S9)
    (first | (go_at_call 30; refine Calls.mono HOQ.out ?_; rintro e w3 ⟨rfl, h3, x3, S9⟩; have H3 : Hid _ := HSET.out w3 x rfl h3; clear h3))
   all_goals
    go_wp2_with (go_at_call 41; refine Calls.mono H3.out ?_; rintro e w4 ⟨rfl, h4⟩; have H4 : Hid _ := h4; clear h4)
    exact bodyPost_end (v := .tuple #[]) (by simp [results, Tryz.results45, go_sem]) rfl ⟨rfl, H4.out⟩
set_option maxRecDepth 100000 in
set_option maxHeartbeats 2000000 in
theorem mDo_call {FS s d w M} (h : Mach FS s d w M) (i : Nat) (f : Fu) (hf : FS[M.here.fi]? = some f) (v : Vl) (hv : f.vals[i]? = some v) (o : Nat) (ho : v.op = (o : Int)) (ho1 : o < 31) (ht : tblM[o]? = some (.func (.func 31) #[] #[])) (M1 : Ms) (r : Option Int) (hO : Oprt FS s d M v 31 M1 r) (hb : ∀ x, r = some x -> M1.here.fst + i <= 1000000000 /\ M1.nums.length <= 1000000000) :
 Calls Tryz.prog 45 #[.pointer (some ⟨s.mb, 0, none⟩), .int .i64 (i : Int)] w fun e w' => e = .returned (.tuple #[]) /\ ∃ d', Mach FS s d' w' (M1.after i r) /\ Foo s d d' w w' := by
 have hn : M.here.fi < FS.length := (List.getElem?_eq_some_iff.1 hf).1
 have hfe : FS[M.here.fi] = f := (List.getElem?_eq_some_iff.1 hf).2
 have hi : i < f.vals.length := (List.getElem?_eq_some_iff.1 hv).1
 have hve : f.vals[i] = v := (List.getElem?_eq_some_iff.1 hv).2
 obtain ⟨pa, pc, la, lc, ma, mc, hst, u1, hvs, u2⟩ := st_fu h.rest.agr h.rest.fus hn
 clear u1 u2
 rw [hfe] at hst hvs
 obtain ⟨b, o2, ka, kc, rfl, hvc, hvi⟩ := st_vl h.rest.agr hvs hi
 rw [hve] at hvc hvi
 obtain ⟨k0, k1, k2, k3⟩ := hvc w h.rest.agr
 have f3 := (hst w h.rest.agr).2.1
 have c34 := h.cells.c34
 have hlt := h.cells.lt
 have hvl := (hvs w h.rest.agr).le
 have hvm := (hvs w h.rest.agr).mx
 obtain ⟨nv, hnv⟩ : ∃ nv, nv = f.vals.length := ⟨_, rfl⟩
 obtain ⟨kl, hkl⟩ : ∃ kl, kl = v.args.length := ⟨_, rfl⟩
 rw [<- hkl] at k3
 rw [<- hnv] at f3 hi hvl
 have hfb : s.fb < w.heap.size := block_lt_of_cell f3
 have hbb : b < w.heap.size := block_lt_of_cell k0
 obtain ⟨w1, hw1⟩ : ∃ w1, w1 = w.alloc (.cells #[.int .i64 v.op, .int .i64 v.ty, .int .i64 v.imm, .slice ka kl kc] 25) := ⟨_, rfl⟩
 have b1 : Below w.heap.size w w1 := by rw [hw1]; exact below_new w _
 have b2 : Below w1.heap.size w1 w1.drew := (Below.refl _ _).drew
 have h1 := h.below b1
 have h2 := h1.below b2
 have vb1 : w1.heap[w.heap.size]? = some (.cells #[.int .i64 v.op, .int .i64 v.ty, .int .i64 v.imm, .slice ka kl kc] 25 (0, 0)) := by rw [hw1]; exact heap_alloc_new _ _
 have vb2 := (b2.block _ (gl vb1)).trans vb1
 have nf := h2.not_foot vb2 (by decide) (by decide) (by decide) (by decide) (by decide)
 obtain ⟨g, hg⟩ : ∃ g, g = w.heap.size := ⟨_, rfl⟩
 rw [<- hg] at vb2 nf
 have tb : ∀ W d' M', Mach FS s d' W M' -> W.cell? ⟨s.mb, o, none⟩ = some (.func (.func 31) #[] #[]) := fun W d' M' q => cell_arr q.box (by rw [mcs_tbl _ _ _ ho1, ht])
 have HOP : Hid (Calls Tryz.prog 31 #[.pointer (some ⟨s.mb, 0, none⟩), .agg #[.int .i64 (o : Int), .int .i64 v.ty, .int .i64 v.imm, .slice ka kl kc]] w1.drew fun e w' => e = .returned (.tuple #[.int .i64 (r.getD 0), .bool r.isSome]) /\ (∃ d', Mach FS s d' w' M1 /\ Foo s d d' w w') /\ s.mb < w'.heap.size /\ (w'.cell? ⟨g, 0, none⟩ = some (.int .i64 (o : Int)) /\ w'.cell? ⟨g, 1, none⟩ = some (.int .i64 v.ty) /\ w'.cell? ⟨g, 2, none⟩ = some (.int .i64 v.imm) /\ w'.cell? ⟨g, 3, none⟩ = some (.slice ka kl kc) /\ w'.cell? ⟨s.mb, o, none⟩ = some (.func (.func 31) #[] #[]))) := by
  have q := hO.out w1.drew ka kl kc h2 hkl (hvi _ h2.rest.agr)
  rw [ho] at q
  refine Calls.mono q ?_
  rintro e w' ⟨rfl, d', q1, q2⟩
  have vb9 := (q2.only.block _ (gl vb2) nf).trans vb2
  exact ⟨rfl, ⟨d', q1, (Foo.of_below b1).trans ((Foo.of_below b2).trans q2)⟩, q1.cells.lt, by rw [<- ho]; exact cell_arr vb9 rfl, cell_arr vb9 rfl, cell_arr vb9 rfl, cell_arr vb9 rfl, tb _ _ _ q1⟩
 have S0 : w1.drew.cell? ⟨g, 0, none⟩ = some (.int .i64 (o : Int)) /\ w1.drew.cell? ⟨g, 1, none⟩ = some (.int .i64 v.ty) /\ w1.drew.cell? ⟨g, 2, none⟩ = some (.int .i64 v.imm) /\ w1.drew.cell? ⟨g, 3, none⟩ = some (.slice ka kl kc) /\ w1.drew.cell? ⟨s.mb, o, none⟩ = some (.func (.func 31) #[] #[]) := ⟨by rw [<- ho]; exact cell_arr vb2 rfl, cell_arr vb2 rfl, cell_arr vb2 rfl, cell_arr vb2 rfl, tb _ _ _ h2⟩
 have HSET : Hid (∀ w3 x, r = some x -> (∃ d', Mach FS s d' w3 M1 /\ Foo s d d' w w3) -> Calls Tryz.prog 41 #[.pointer (some ⟨s.mb, 0, none⟩), .int .i64 (i : Int), .int .i64 x] w3 fun e w' => e = .returned (.tuple #[]) /\ ∃ d', Mach FS s d' w' (M1.after i r) /\ Foo s d d' w w') := by
  rintro w3 x rfl ⟨d', q1, q2⟩
  exact (mSet_any q1 i x (hb x rfl).1 (hb x rfl).2).mono fun e w' ⟨q3, d'', q4, q5⟩ => ⟨q3, d'', q4, q2.trans q5⟩
 rw [ho] at hw1 k0
 have hoI : (o : Int) < 31 := by omega
 have hiI : (i : Int) < (nv : Int) := by omega
 generalize s.mb = mb at *
 generalize s.fb = fb at *
 generalize s.fo + M.here.fi * 5 = q at *
 clear h h1 h2 b1 b2 vb1 vb2 nf tb hst hvs hvc hvi hf hfe hv hve hO hn hnv hkl ho ht
 go_enter Tryz.func45, Tryz.ntmps45
 go_upto_region 1 with fail
 rw [<- hw1]
 clear hw1
 rw [<- hg]
 clear hg k0 k1 k2 k3 f3 c34 hfb hbb
 cases r with
 | none =>
   have HOQ : Hid _ := HOP.out
   simp only [Option.getD, Option.isSome] at HOQ
   clear HOP HSET
   go_region_held (fun W => W.cell? ⟨g, 0, none⟩ = some (.int .i64 (o : Int)) /\ W.cell? ⟨g, 1, none⟩ = some (.int .i64 v.ty) /\ W.cell? ⟨g, 2, none⟩ = some (.int .i64 v.imm) /\ W.cell? ⟨g, 3, none⟩ = some (.slice ka kl kc) /\ W.cell? ⟨mb, o, none⟩ = some (.func (.func 31) #[] #[]))
    (first | exact S0 | exact S9)
    (first | (go_at_call 31; refine Calls.mono HOQ.out ?_; rintro e w3 ⟨rfl, h3, x3, S9⟩; have H3 : Hid _ := h3; clear h3))
   all_goals
    go_wp2_with fail
    exact bodyPost_end (v := .tuple #[]) (by simp [results, Tryz.results45, go_sem]) rfl ⟨rfl, H3.out⟩
 | some x =>
   have HOQ : Hid _ := HOP.out
   simp only [Option.getD, Option.isSome] at HOQ
   clear HOP
   go_region_held (fun W => W.cell? ⟨g, 0, none⟩ = some (.int .i64 (o : Int)) /\ W.cell? ⟨g, 1, none⟩ = some (.int .i64 v.ty) /\ W.cell? ⟨g, 2, none⟩ = some (.int .i64 v.imm) /\ W.cell? ⟨g, 3, none⟩ = some (.slice ka kl kc) /\ W.cell? ⟨mb, o, none⟩ = some (.func (.func 31) #[] #[]))
    (first | exact S0 | exact S9)
    (first | (go_at_call 31; refine Calls.mono HOQ.out ?_; rintro e w3 ⟨rfl, h3, x3, S9⟩; have H3 : Hid _ := HSET.out w3 x rfl h3; clear h3))
   all_goals
    go_wp2_with (go_at_call 41; refine Calls.mono H3.out ?_; rintro e w4 ⟨rfl, h4⟩; have H4 : Hid _ := h4; clear h4)
    exact bodyPost_end (v := .tuple #[]) (by simp [results, Tryz.results45, go_sem]) rfl ⟨rfl, H4.out⟩
set_option maxRecDepth 100000 in
set_option maxHeartbeats 2000000 in
theorem mDo_printInt {FS s d w M} (h : Mach FS s d w M) (i : Nat) (f : Fu) (hf : FS[M.here.fi]? = some f) (v : Vl) (hv : f.vals[i]? = some v) (o : Nat) (ho : v.op = (o : Int)) (ho1 : o < 31) (ht : tblM[o]? = some (.func (.func 32) #[] #[])) (M1 : Ms) (r : Option Int) (hO : Oprt FS s d M v 32 M1 r) (hb : ∀ x, r = some x -> M1.here.fst + i <= 1000000000 /\ M1.nums.length <= 1000000000) :
 Calls Tryz.prog 45 #[.pointer (some ⟨s.mb, 0, none⟩), .int .i64 (i : Int)] w fun e w' => e = .returned (.tuple #[]) /\ ∃ d', Mach FS s d' w' (M1.after i r) /\ Foo s d d' w w' := by
 have hn : M.here.fi < FS.length := (List.getElem?_eq_some_iff.1 hf).1
 have hfe : FS[M.here.fi] = f := (List.getElem?_eq_some_iff.1 hf).2
 have hi : i < f.vals.length := (List.getElem?_eq_some_iff.1 hv).1
 have hve : f.vals[i] = v := (List.getElem?_eq_some_iff.1 hv).2
 obtain ⟨pa, pc, la, lc, ma, mc, hst, u1, hvs, u2⟩ := st_fu h.rest.agr h.rest.fus hn
 clear u1 u2
 rw [hfe] at hst hvs
 obtain ⟨b, o2, ka, kc, rfl, hvc, hvi⟩ := st_vl h.rest.agr hvs hi
 rw [hve] at hvc hvi
 obtain ⟨k0, k1, k2, k3⟩ := hvc w h.rest.agr
 have f3 := (hst w h.rest.agr).2.1
 have c34 := h.cells.c34
 have hlt := h.cells.lt
 have hvl := (hvs w h.rest.agr).le
 have hvm := (hvs w h.rest.agr).mx
 obtain ⟨nv, hnv⟩ : ∃ nv, nv = f.vals.length := ⟨_, rfl⟩
 obtain ⟨kl, hkl⟩ : ∃ kl, kl = v.args.length := ⟨_, rfl⟩
 rw [<- hkl] at k3
 rw [<- hnv] at f3 hi hvl
 have hfb : s.fb < w.heap.size := block_lt_of_cell f3
 have hbb : b < w.heap.size := block_lt_of_cell k0
 obtain ⟨w1, hw1⟩ : ∃ w1, w1 = w.alloc (.cells #[.int .i64 v.op, .int .i64 v.ty, .int .i64 v.imm, .slice ka kl kc] 25) := ⟨_, rfl⟩
 have b1 : Below w.heap.size w w1 := by rw [hw1]; exact below_new w _
 have b2 : Below w1.heap.size w1 w1.drew := (Below.refl _ _).drew
 have h1 := h.below b1
 have h2 := h1.below b2
 have vb1 : w1.heap[w.heap.size]? = some (.cells #[.int .i64 v.op, .int .i64 v.ty, .int .i64 v.imm, .slice ka kl kc] 25 (0, 0)) := by rw [hw1]; exact heap_alloc_new _ _
 have vb2 := (b2.block _ (gl vb1)).trans vb1
 have nf := h2.not_foot vb2 (by decide) (by decide) (by decide) (by decide) (by decide)
 obtain ⟨g, hg⟩ : ∃ g, g = w.heap.size := ⟨_, rfl⟩
 rw [<- hg] at vb2 nf
 have tb : ∀ W d' M', Mach FS s d' W M' -> W.cell? ⟨s.mb, o, none⟩ = some (.func (.func 32) #[] #[]) := fun W d' M' q => cell_arr q.box (by rw [mcs_tbl _ _ _ ho1, ht])
 have HOP : Hid (Calls Tryz.prog 32 #[.pointer (some ⟨s.mb, 0, none⟩), .agg #[.int .i64 (o : Int), .int .i64 v.ty, .int .i64 v.imm, .slice ka kl kc]] w1.drew fun e w' => e = .returned (.tuple #[.int .i64 (r.getD 0), .bool r.isSome]) /\ (∃ d', Mach FS s d' w' M1 /\ Foo s d d' w w') /\ s.mb < w'.heap.size /\ (w'.cell? ⟨g, 0, none⟩ = some (.int .i64 (o : Int)) /\ w'.cell? ⟨g, 1, none⟩ = some (.int .i64 v.ty) /\ w'.cell? ⟨g, 2, none⟩ = some (.int .i64 v.imm) /\ w'.cell? ⟨g, 3, none⟩ = some (.slice ka kl kc) /\ w'.cell? ⟨s.mb, o, none⟩ = some (.func (.func 32) #[] #[]))) := by
  have q := hO.out w1.drew ka kl kc h2 hkl (hvi _ h2.rest.agr)
  rw [ho] at q
  refine Calls.mono q ?_
  rintro e w' ⟨rfl, d', q1, q2⟩
  have vb9 := (q2.only.block _ (gl vb2) nf).trans vb2
  exact ⟨rfl, ⟨d', q1, (Foo.of_below b1).trans ((Foo.of_below b2).trans q2)⟩, q1.cells.lt, by rw [<- ho]; exact cell_arr vb9 rfl, cell_arr vb9 rfl, cell_arr vb9 rfl, cell_arr vb9 rfl, tb _ _ _ q1⟩
 have S0 : w1.drew.cell? ⟨g, 0, none⟩ = some (.int .i64 (o : Int)) /\ w1.drew.cell? ⟨g, 1, none⟩ = some (.int .i64 v.ty) /\ w1.drew.cell? ⟨g, 2, none⟩ = some (.int .i64 v.imm) /\ w1.drew.cell? ⟨g, 3, none⟩ = some (.slice ka kl kc) /\ w1.drew.cell? ⟨s.mb, o, none⟩ = some (.func (.func 32) #[] #[]) := ⟨by rw [<- ho]; exact cell_arr vb2 rfl, cell_arr vb2 rfl, cell_arr vb2 rfl, cell_arr vb2 rfl, tb _ _ _ h2⟩
 have HSET : Hid (∀ w3 x, r = some x -> (∃ d', Mach FS s d' w3 M1 /\ Foo s d d' w w3) -> Calls Tryz.prog 41 #[.pointer (some ⟨s.mb, 0, none⟩), .int .i64 (i : Int), .int .i64 x] w3 fun e w' => e = .returned (.tuple #[]) /\ ∃ d', Mach FS s d' w' (M1.after i r) /\ Foo s d d' w w') := by
  rintro w3 x rfl ⟨d', q1, q2⟩
  exact (mSet_any q1 i x (hb x rfl).1 (hb x rfl).2).mono fun e w' ⟨q3, d'', q4, q5⟩ => ⟨q3, d'', q4, q2.trans q5⟩
 rw [ho] at hw1 k0
 have hoI : (o : Int) < 31 := by omega
 have hiI : (i : Int) < (nv : Int) := by omega
 generalize s.mb = mb at *
 generalize s.fb = fb at *
 generalize s.fo + M.here.fi * 5 = q at *
 clear h h1 h2 b1 b2 vb1 vb2 nf tb hst hvs hvc hvi hf hfe hv hve hO hn hnv hkl ho ht
 go_enter Tryz.func45, Tryz.ntmps45
 go_upto_region 1 with fail
 rw [<- hw1]
 clear hw1
 rw [<- hg]
 clear hg k0 k1 k2 k3 f3 c34 hfb hbb
 cases r with
 | none =>
   have HOQ : Hid _ := HOP.out
   simp only [Option.getD, Option.isSome] at HOQ
   clear HOP HSET
   go_region_held (fun W => W.cell? ⟨g, 0, none⟩ = some (.int .i64 (o : Int)) /\ W.cell? ⟨g, 1, none⟩ = some (.int .i64 v.ty) /\ W.cell? ⟨g, 2, none⟩ = some (.int .i64 v.imm) /\ W.cell? ⟨g, 3, none⟩ = some (.slice ka kl kc) /\ W.cell? ⟨mb, o, none⟩ = some (.func (.func 32) #[] #[]))
    (first | exact S0 | exact S9)
    (first | (go_at_call 32; refine Calls.mono HOQ.out ?_; rintro e w3 ⟨rfl, h3, x3, S9⟩; have H3 : Hid _ := h3; clear h3))
   all_goals
    go_wp2_with fail
    exact bodyPost_end (v := .tuple #[]) (by simp [results, Tryz.results45, go_sem]) rfl ⟨rfl, H3.out⟩
 | some x =>
   have HOQ : Hid _ := HOP.out
   simp only [Option.getD, Option.isSome] at HOQ
   clear HOP
   go_region_held (fun W => W.cell? ⟨g, 0, none⟩ = some (.int .i64 (o : Int)) /\ W.cell? ⟨g, 1, none⟩ = some (.int .i64 v.ty) /\ W.cell? ⟨g, 2, none⟩ = some (.int .i64 v.imm) /\ W.cell? ⟨g, 3, none⟩ = some (.slice ka kl kc) /\ W.cell? ⟨mb, o, none⟩ = some (.func (.func 32) #[] #[]))
    (first | exact S0 | exact S9)
    (first | (go_at_call 32; refine Calls.mono HOQ.out ?_; rintro e w3 ⟨rfl, h3, x3, S9⟩; have H3 : Hid _ := HSET.out w3 x rfl h3; clear h3))
   all_goals
    go_wp2_with (go_at_call 41; refine Calls.mono H3.out ?_; rintro e w4 ⟨rfl, h4⟩; have H4 : Hid _ := h4; clear h4)
    exact bodyPost_end (v := .tuple #[]) (by simp [results, Tryz.results45, go_sem]) rfl ⟨rfl, H4.out⟩
theorem nan_any (w : World) (a : Int) : Calls Tryz.prog 173 #[.int .i64 a] w fun e w' => e = .returned (.bool false) /\ w' = w := by
 have e : (a != a) = false := by simp
 go_enter Tryz.func173, Tryz.ntmps173
 go_wp2_with fail
 go_ret
 exact ⟨by first | rfl | simp, rfl⟩
theorem nan2_any (w : World) (a : Int) : Calls Tryz.prog 161 #[.int .i64 a] w fun e w' => e = .returned (.bool false) /\ w' = w := by
 have e : (a != a) = false := by simp
 go_enter Tryz.func161, Tryz.ntmps161
 go_wp2_with fail
 go_ret
 exact ⟨by first | rfl | simp, rfl⟩
theorem less_any (w : World) (a b : Int) : Calls Tryz.prog 160 #[.int .i64 a, .int .i64 b] w fun e w' => e = .returned (.bool (decide (a < b))) /\ w' = w := by
 go_enter Tryz.func160, Tryz.ntmps160
 go_wp2_with (go_at_call 173; refine (nan_any _ _).mono ?_; rintro e w' ⟨rfl, rfl⟩)
 go_ret
 exact ⟨by first | rfl | simp, rfl⟩
theorem bsr_fin (L : List Int) (x : Int) {i j : Nat} (h : ¬ i < j) : ∀ q, bsr L x q i j = i
 | 0 => rfl
 | q + 1 => by rw [bsr, if_neg h]
set_option maxRecDepth 100000 in
set_option maxHeartbeats 1000000 in
theorem bs_any (w : World) (ao : Option Addr) (n c : Nat) (L : List Int) (hn : n = L.length) (hI : Ints w ao c L) (x : Int) (hl : n <= 1000000000) :
 Calls Tryz.prog 114 #[.slice ao n c, .int .i64 x] w fun e w' => ∃ t, e = .returned (.tuple #[.int .i64 (bsP L x : Int), .bool t]) /\ w' = w := by
 obtain ⟨R, hR⟩ : ∃ R, R = bsP L x := ⟨_, rfl⟩
 rw [<- hR]
 have HAT : Hid (∀ i, i < n -> ∃ b o, ao = some ⟨b, o, none⟩ /\ w.cell? ⟨b, o + i, none⟩ = some (.int .i64 (L.getD i 0))) := fun i hi => by
  obtain ⟨b, o, e, h⟩ := hI.at (show i < L.length by omega)
  refine ⟨b, o, e, ?_⟩
  rw [h]
  simp [List.getD, show i < L.length by omega]
 have HR : Hid (n - 0 <= L.length /\ bsr L x L.length 0 n = R) := by rw [hn, hR]; exact ⟨by omega, rfl⟩
 clear hR hI hn
 go_enter Tryz.func114, Tryz.ntmps114
 go_wp2_with fail
 go_loopw [7, 8] (fun u v wr => ∃ (i j q : Nat), i <= j /\ j <= n /\ u = .int .i64 i /\ v = .int .i64 j /\ wr = w /\ Hid (j - i <= q /\ bsr L x q i j = R)) (fun u v _ => (intOf v).toNat - (intOf u).toNat)
 case atStart => exact ⟨0, n, L.length, by omega, by omega, rfl, rfl, rfl, HR⟩
 case round =>
  clear HR
  obtain ⟨i, j, q, hij, hjn, rfl, rfl, rfl, HK⟩ := hrel
  by_cases hlt : i < j
  ·obtain ⟨q', rfl⟩ : ∃ q', q = q' + 1 := ⟨q - 1, by have := HK.out.1; omega⟩
   obtain ⟨hq, hb⟩ := HK.out
   rw [bsr, if_pos hlt] at hb
   obtain ⟨m, hm⟩ : ∃ m, m = (i + j) / 2 := ⟨_, rfl⟩
   rw [<- hm] at hb
   obtain ⟨b, o, rfl, k1⟩ := HAT.out m (by omega)
   have hmn : m < n := by omega
   have him : i <= m /\ m < j := by omega
   have hsum : (i : Int) + (j : Int) <= 2000000000 := by omega
   have hw0 : IntKind.i64.wrap ((i : Int) + (j : Int)) = (i : Int) + (j : Int) := by rw [IntKind.wrap_i64]; omega
   have hm2 : ((i : Int) + (j : Int)) / 2 = (m : Int) := by omega
   obtain ⟨y, hy⟩ : ∃ y, y = L.getD m 0 := ⟨_, rfl⟩
   rw [<- hy] at hb k1
   have HH : Hid (((i : Int) + (j : Int)) / 2 = (m : Int)) := hm2
   clear hm2
   go_upto_region 5 with fail
   rw [HH.out]
   have hmI : (m : Int) < (n : Int) := by omega
   clear hm hy hw0 HH HK hsum
   by_cases hyx : y < x
   ·rw [if_pos hyx] at hb
    have hd : decide (y < x) = true := by simp [hyx]
    have HN : Hid (j - (m + 1) <= q' /\ bsr L x q' (m + 1) j = R) := ⟨by omega, hb⟩
    clear hb hyx
    go_wp2_with (go_at_call 160; refine (less_any _ _ _).mono ?_; rintro e w' ⟨rfl, rfl⟩)
    go_roundw
    case rel => exact ⟨m + 1, j, q', by omega, by omega, by go_num, rfl, by first | rfl | trivial, HN⟩
    case measure => simp [intOf]; omega
   ·rw [if_neg hyx] at hb
    have hd : decide (y < x) = false := by simp [hyx]
    have HN : Hid (m - i <= q' /\ bsr L x q' i m = R) := ⟨by omega, hb⟩
    clear hb hyx
    go_wp2_with (go_at_call 160; refine (less_any _ _ _).mono ?_; rintro e w' ⟨rfl, rfl⟩)
    go_roundw
    case rel => exact ⟨i, m, q', by omega, by omega, rfl, rfl, by first | rfl | trivial, HN⟩
    case measure => simp [intOf]; omega
  ·have hb := HK.out.2
   rw [bsr_fin L x hlt] at hb
   have HE : Hid (i = R) := hb
   clear hb HK
   have hle : (j : Int) <= (i : Int) := by omega
   by_cases hin : i < n
   ·obtain ⟨b, o, rfl, k1⟩ := HAT.out i hin
    generalize L.getD i 0 = y at k1
    have hinI : (i : Int) < (n : Int) := by omega
    have hdd : decide ((i : Int) < (n : Int)) = true := by simp [hinI]
    by_cases hyx : (y == x) = true
    ·go_wp2_with fail
     go_ret2
     have eR := HE.out
     subst eR
     exact ⟨_, rfl, rfl⟩
    ·have hyx2 : (y == x) = false := by simpa using hyx
     clear hyx
     go_wp2_with (go_at_call 161; refine (nan2_any _ _).mono ?_; rintro e w' ⟨rfl, rfl⟩)
     go_ret2
     have eR := HE.out
     subst eR
     exact ⟨_, rfl, rfl⟩
   ·have hinI : (n : Int) <= (i : Int) := by omega
    have hdd : decide ((i : Int) < (n : Int)) = false := by simp; omega
    go_wp2_with fail
    go_ret2
    have eR := HE.out
    subst eR
    exact ⟨_, rfl, rfl⟩
end Go.Proofs.YtfbkopjncmkbiabGreatDoor
