import Derived.Test.YtfofmmkihhnfmaaGreatDoorJau
set_option linter.unusedVariables false
set_option linter.unusedSimpArgs false
namespace Go.Proofs.YtfofmmkihhnfmaaGreatDoor
open Go.ChangeShapes Go.WideShapes Go.ChangeAt Go.RowKit Go.Maps
theorem tbl_fn (o : Nat) (h1 : 1 <= o) (h2 : o < 39) : ∃ g, tblR[o]? = some (.func (.func g) #[] #[]) /\ OpensR g := by
 have hop : o = 1 \/ o = 2 \/ o = 3 \/ o = 4 \/ o = 5 \/ o = 6 \/ o = 7 \/ o = 8 \/ o = 9 \/ o = 10 \/ o = 11 \/ o = 12 \/ o = 13 \/ o = 14 \/ o = 15 \/ o = 16 \/ o = 17 \/ o = 18 \/ o = 19 \/ o = 20 \/ o = 21 \/ o = 22 \/ o = 23 \/ o = 24 \/ o = 25 \/ o = 26 \/ o = 27 \/ o = 28 \/ o = 29 \/ o = 30 \/ o = 31 \/ o = 32 \/ o = 33 \/ o = 34 \/ o = 35 \/ o = 36 \/ o = 37 \/ o = 38 := by omega
 rcases hop with rfl | rfl | rfl | rfl | rfl | rfl | rfl | rfl | rfl | rfl | rfl | rfl | rfl | rfl | rfl | rfl | rfl | rfl | rfl | rfl | rfl | rfl | rfl | rfl | rfl | rfl | rfl | rfl | rfl | rfl | rfl | rfl | rfl | rfl | rfl | rfl | rfl | rfl
 ·exact ⟨_, rfl, OpensR.of Tryz.func42 (by kernel_rfl) rfl⟩
 ·exact ⟨_, rfl, OpensR.of Tryz.func43 (by kernel_rfl) rfl⟩
 ·exact ⟨_, rfl, OpensR.of Tryz.func66 (by kernel_rfl) rfl⟩
 ·exact ⟨_, rfl, OpensR.of Tryz.func66 (by kernel_rfl) rfl⟩
 ·exact ⟨_, rfl, OpensR.of Tryz.func66 (by kernel_rfl) rfl⟩
 ·exact ⟨_, rfl, OpensR.of Tryz.func44 (by kernel_rfl) rfl⟩
 ·exact ⟨_, rfl, OpensR.of Tryz.func44 (by kernel_rfl) rfl⟩
 ·exact ⟨_, rfl, OpensR.of Tryz.func66 (by kernel_rfl) rfl⟩
 ·exact ⟨_, rfl, OpensR.of Tryz.func66 (by kernel_rfl) rfl⟩
 ·exact ⟨_, rfl, OpensR.of Tryz.func66 (by kernel_rfl) rfl⟩
 ·exact ⟨_, rfl, OpensR.of Tryz.func66 (by kernel_rfl) rfl⟩
 ·exact ⟨_, rfl, OpensR.of Tryz.func45 (by kernel_rfl) rfl⟩
 ·exact ⟨_, rfl, OpensR.of Tryz.func45 (by kernel_rfl) rfl⟩
 ·exact ⟨_, rfl, OpensR.of Tryz.func66 (by kernel_rfl) rfl⟩
 ·exact ⟨_, rfl, OpensR.of Tryz.func66 (by kernel_rfl) rfl⟩
 ·exact ⟨_, rfl, OpensR.of Tryz.func66 (by kernel_rfl) rfl⟩
 ·exact ⟨_, rfl, OpensR.of Tryz.func66 (by kernel_rfl) rfl⟩
 ·exact ⟨_, rfl, OpensR.of Tryz.func46 (by kernel_rfl) rfl⟩
 ·exact ⟨_, rfl, OpensR.of Tryz.func46 (by kernel_rfl) rfl⟩
 ·exact ⟨_, rfl, OpensR.of Tryz.func47 (by kernel_rfl) rfl⟩
 ·exact ⟨_, rfl, OpensR.of Tryz.func48 (by kernel_rfl) rfl⟩
 ·exact ⟨_, rfl, OpensR.of Tryz.func49 (by kernel_rfl) rfl⟩
 ·exact ⟨_, rfl, OpensR.of Tryz.func50 (by kernel_rfl) rfl⟩
 ·exact ⟨_, rfl, OpensR.of Tryz.func51 (by kernel_rfl) rfl⟩
 ·exact ⟨_, rfl, OpensR.of Tryz.func52 (by kernel_rfl) rfl⟩
 ·exact ⟨_, rfl, OpensR.of Tryz.func53 (by kernel_rfl) rfl⟩
 ·exact ⟨_, rfl, OpensR.of Tryz.func54 (by kernel_rfl) rfl⟩
 ·exact ⟨_, rfl, OpensR.of Tryz.func55 (by kernel_rfl) rfl⟩
 ·exact ⟨_, rfl, OpensR.of Tryz.func56 (by kernel_rfl) rfl⟩
 ·exact ⟨_, rfl, OpensR.of Tryz.func57 (by kernel_rfl) rfl⟩
 ·exact ⟨_, rfl, OpensR.of Tryz.func58 (by kernel_rfl) rfl⟩
 ·exact ⟨_, rfl, OpensR.of Tryz.func59 (by kernel_rfl) rfl⟩
 ·exact ⟨_, rfl, OpensR.of Tryz.func60 (by kernel_rfl) rfl⟩
 ·exact ⟨_, rfl, OpensR.of Tryz.func61 (by kernel_rfl) rfl⟩
 ·exact ⟨_, rfl, OpensR.of Tryz.func62 (by kernel_rfl) rfl⟩
 ·exact ⟨_, rfl, OpensR.of Tryz.func63 (by kernel_rfl) rfl⟩
 ·exact ⟨_, rfl, OpensR.of Tryz.func64 (by kernel_rfl) rfl⟩
 ·exact ⟨_, rfl, OpensR.of Tryz.func65 (by kernel_rfl) rfl⟩
theorem leaves_tmps {P : Program} {fn : Func} {R : Ending -> World -> Prop} (hr : ∀ t t', results fn t = results fn t') : ∀ (ds : List Deferred) (u : FrameMode) (w : World) (t t' : Array Value), Leaves P fn t R ds u w -> Leaves P fn t' R ds u w
 | [], .returning, w, t, t', h => by
   obtain ⟨v, h1, h2⟩ := h
   exact ⟨v, by rw [hr t' t]; exact h1, h2⟩
 | [], .panicking _, w, t, t', h => h
 | [], .run, w, t, t', h => h
 | d :: ds, u, w, t, t', h => by
   obtain ⟨hu, fv, cap, f, args, h1, h2, h3⟩ := h
   refine ⟨hu, fv, cap, f, args, h1, h2, h3.mono fun e u' w' k => ?_⟩
   cases e with
   | returned v => exact leaves_tmps hr ds _ _ t t' k
   | panicked c => exact leaves_tmps hr ds _ _ t t' k
   | outgrown => exact k
theorem panicR {Q : Ending -> World -> Prop} {c : List PanicEntry} {a : Act} {w : World} {dst : Option Nat} {v : Value} (h : bodyPostD Tryz.prog Tryz.f72 Q (.panic c) (a.put dst v) w) : bodyPostD Tryz.prog Tryz.f72 Q (.panic c) a w := by
 have hd : (a.put dst v).defers = a.defers := by cases dst <;> rfl
 have h2 : Leaves Tryz.prog Tryz.f72 (a.put dst v).tmps Q (a.put dst v).defers (.panicking c) w := h
 rw [hd] at h2
 exact leaves_tmps (fun t t' => by simp [results, Tryz.results72]) _ _ _ _ _ h2
set_option maxRecDepth 100000 in
set_option maxHeartbeats 4000000 in
theorem mAdv_ok {s d w R} (h : Rm s d w R) (j : Nat) (hnx : R.nx = (j : Int)) (hj : j < s.C.length) (hlc : s.C.length <= 1000000000) (hop : 1 <= (s.C[j]).op /\ (s.C[j]).op <= 38) (p : Pre s R.on s.C[j]) (hwy : R.on.why s.C[j] = none) (Q : Ending -> World -> Prop) (hQ : ∀ w', (∃ d', Rm s d' w' (R.on.does s.FS s.S s.room s.C[j]) /\ FooR s d d' w w') -> Q (.returned (.tuple #[])) w') :
 Calls Tryz.prog 72 #[.pointer (some ⟨s.mb, 0, none⟩)] w Q := by
 have HQQ : Hid _ := hQ
 clear hQ
 have hlt := h.lt
 obtain ⟨cb, co, eco, lcb, hqa⟩ := (h.rest.code w h.rest.agr).at (j := j) (by simpa using hj)
 obtain ⟨x, hx⟩ : ∃ x, x = s.C[j] := ⟨_, rfl⟩
 have eg : (s.C.map riv).getD j [] = riv x := by simp [List.getD, hj, hx]
 rw [eg] at hqa
 rw [<- hx] at hop p hwy HQQ
 obtain ⟨o, ho⟩ : ∃ o : Nat, x.op = (o : Int) := ⟨x.op.toNat, by omega⟩
 have ho9 : o < 39 := by omega
 have q0 : w.cell? ⟨cb, co + j * 5, none⟩ = some (.int .i64 x.op) := hqa 0 _ rfl
 have q1 : w.cell? ⟨cb, co + j * 5 + 1, none⟩ = some (.int .i64 x.a) := hqa 1 _ rfl
 have q2 : w.cell? ⟨cb, co + j * 5 + 2, none⟩ = some (.int .i64 x.b) := hqa 2 _ rfl
 have q3 : w.cell? ⟨cb, co + j * 5 + 3, none⟩ = some (.int .i64 x.c) := hqa 3 _ rfl
 have q4 : w.cell? ⟨cb, co + j * 5 + 4, none⟩ = some (.int .i64 x.n) := hqa 4 _ rfl
 have c39 := h.cells.c39
 have c41 := h.cells.c41
 have f41 := h.fz 41
 rw [eco] at c39
 rw [hnx] at c41
 have hji : (j : Int) < (s.C.length : Int) := by omega
 have hlm : (s.C.length : Int) <= 1000000000 := by omega
 have hw : IntKind.i64.wrap ((j : Int) + 1) = (j : Int) + 1 := by rw [IntKind.wrap_i64]; omega
 have hmf : ∀ (fn : Fn) (first cap : Array Value) (w : World), (Instr.makeFunc fn first cap).run Tryz.prog w = .ok (.func fn first cap) w := fun _ _ _ _ => rfl
 obtain ⟨g, hg, hog⟩ := tbl_fn o (by omega) ho9
 have HOG : Hid (OpensR g) := hog
 clear hog
 obtain ⟨W1, hW1⟩ : ∃ W1, W1 = w.alloc (.cells #[.pointer (some ⟨s.mb, 0, none⟩)] 31) := ⟨_, rfl⟩
 obtain ⟨W2, hW2⟩ : ∃ W2, W2 = W1.alloc (.cells #[.int .i64 x.op, .int .i64 x.a, .int .i64 x.b, .int .i64 x.c, .int .i64 x.n] 71) := ⟨_, rfl⟩
 obtain ⟨W4, hW4⟩ : ∃ W4, W4 = W2.setCell ⟨s.mb, 41, none⟩ (.int .i64 ((j : Int) + 1)) := ⟨_, rfl⟩
 have bW1 : Below w.heap.size w W1 := by rw [hW1]; exact below_newR w _
 have z1 : W1.heap.size = w.heap.size + 1 := by rw [hW1]; simp
 have b2 : Below w.heap.size w W2 := by rw [hW2]; exact bW1.alloc (by omega) _
 have h2 := h.below b2
 have q4x := h2.setNx ((j : Int) + 1)
 have eon : R.on = { R with nx := (j : Int) + 1 } := by unfold Rv.on; rw [hnx]
 rw [<- eon, <- hW4] at q4x
 have H4 : Rm s d W4 R.on := q4x.1
 have foo4 : FooR s d d w W4 := (FooR.of_below b2).trans q4x.2
 have c41b := h2.cells.c41
 have f41b := h2.fz 41
 have l41b := h2.lt
 rw [hnx] at c41b
 have nmb : w.heap.size ≠ s.mb /\ w.heap.size + 1 ≠ s.mb := by omega
 have ep2 : W2.heap[w.heap.size]? = some (.cells #[.pointer (some ⟨s.mb, 0, none⟩)] 31 (0, 0)) := by rw [hW2, heap_alloc_old _ _ (by omega), hW1]; exact heap_alloc_new _ _
 have cpb : W2.cell? ⟨w.heap.size, 0, none⟩ = some (.pointer (some ⟨s.mb, 0, none⟩)) := cell_arr ep2 rfl
 have lpb : w.heap.size < W2.heap.size := (gl ep2)
 have ep : W4.heap[w.heap.size]? = some (.cells #[.pointer (some ⟨s.mb, 0, none⟩)] 31 (0, 0)) := by rw [hW4, heap_set_other nmb.1]; exact ep2
 have ex : W4.heap[w.heap.size + 1]? = some (.cells #[.int .i64 x.op, .int .i64 x.a, .int .i64 x.b, .int .i64 x.c, .int .i64 x.n] 71 (0, 0)) := by
  rw [hW4, heap_set_other nmb.2, hW2, <- z1]; exact heap_alloc_new _ _
 have ht : W4.cell? ⟨s.mb, o, none⟩ = some (.func (.func g) #[] #[]) := cell_arr H4.box (by rw [List.getElem?_toArray, rcs_tbl ho9]; exact hg)
 have S4 : W4.cell? ⟨w.heap.size, 0, none⟩ = some (.pointer (some ⟨s.mb, 0, none⟩)) /\ W4.cell? ⟨w.heap.size + 1, 0, none⟩ = some (.int .i64 (o : Int)) /\ W4.cell? ⟨w.heap.size + 1, 1, none⟩ = some (.int .i64 x.a) /\ W4.cell? ⟨w.heap.size + 1, 2, none⟩ = some (.int .i64 x.b) /\ W4.cell? ⟨w.heap.size + 1, 3, none⟩ = some (.int .i64 x.c) /\ W4.cell? ⟨w.heap.size + 1, 4, none⟩ = some (.int .i64 x.n) /\ W4.cell? ⟨s.mb, o, none⟩ = some (.func (.func g) #[] #[]) /\ s.mb < W4.heap.size /\ w.heap.size < W4.heap.size /\ w.heap.size + 1 < W4.heap.size := ⟨cell_arr ep rfl, by rw [<- ho]; exact cell_arr ex rfl, cell_arr ex rfl, cell_arr ex rfl, cell_arr ex rfl, cell_arr ex rfl, ht, H4.lt, (gl ep), (gl ex)⟩
 have HI : Hid (Calls Tryz.prog g #[.pointer (some ⟨s.mb, 0, none⟩), .agg #[.int .i64 (o : Int), .int .i64 x.a, .int .i64 x.b, .int .i64 x.c, .int .i64 x.n]] W4.drew.drew (fun e w2 => e = .returned (.tuple #[]) /\ ∃ d', Rm s d' w2 (R.on.does s.FS s.S s.room x) /\ FooR s d d' w w2)) := by
  have q := ins_any (H4.below ((Below.refl _ _).drew).drew) x p g (by rw [ho]; exact hg)
  rw [ho] at q
  refine q.mono ?_
  rintro e w2 ⟨k1, k2⟩
  obtain ⟨rfl, d', r1, r2⟩ := k2 hwy
  exact ⟨rfl, d', r1, foo4.trans ((FooR.of_below ((Below.refl _ _).drew).drew).trans r2)⟩
 obtain ⟨op, hopx⟩ : ∃ op, op = x.op := ⟨_, rfl⟩
 have HOP : Hid (op = (o : Int)) := hopx.trans ho
 rw [<- hopx] at q0 hW2
 clear hqa eg eco H4 p hwy hop ep ex ht hg ho hopx hnx b2 h2 q4x eon foo4 ep2 nmb
 generalize x.a = a at *
 generalize x.b = b at *
 generalize x.c = c at *
 generalize x.n = n at *
 clear hx
 obtain ⟨lC, hlC⟩ : ∃ l, l = s.C.length := ⟨_, rfl⟩
 rw [<- hlC] at c39 hji hlm
 generalize s.cc = ccc at *
 generalize s.mb = mb at *
 clear h hlC hj hlc
 have HO9 : Hid (o < 39) := ho9
 obtain ⟨pb, hpb⟩ : ∃ pb, pb = w.heap.size := ⟨_, rfl⟩
 rw [<- hpb] at S4 cpb lpb 
 clear ho9
 have HQ2 : Hid _ := hW2
 have HQ4 : Hid _ := hW4
 have HQP : Hid _ := hpb
 have HS4 : Hid _ := S4
 have HQ1 : Hid _ := hW1
 rw [<- hpb] at z1
 have HZ1 : Hid _ := z1
 have ep1 : W1.heap[pb]? = some (.cells #[.pointer (some ⟨mb, 0, none⟩)] 31 (0, 0)) := by rw [hW1, hpb]; exact heap_alloc_new _ _
 have lp1 : pb < W1.heap.size := (gl ep1)
 have s2 : W1.cell? ⟨pb, 0, none⟩ = some (.pointer (some ⟨mb, 0, none⟩)) /\ W1.cell? ⟨mb, 39, none⟩ = some (.slice (some ⟨cb, co, none⟩) lC ccc) /\ W1.cell? ⟨mb, 41, none⟩ = some (.int .i64 (j : Int)) /\ W1.cell? ⟨cb, co + j * 5, none⟩ = some (.int .i64 op) /\ W1.cell? ⟨cb, co + j * 5 + 1, none⟩ = some (.int .i64 a) /\ W1.cell? ⟨cb, co + j * 5 + 2, none⟩ = some (.int .i64 b) /\ W1.cell? ⟨cb, co + j * 5 + 3, none⟩ = some (.int .i64 c) /\ W1.cell? ⟨cb, co + j * 5 + 4, none⟩ = some (.int .i64 n) /\ mb < W1.heap.size /\ pb < W1.heap.size /\ cb < W1.heap.size := ⟨cell_arr ep1 rfl, (bW1.cell (p := ⟨mb, 39, none⟩) hlt).trans c39, (bW1.cell (p := ⟨mb, 41, none⟩) hlt).trans c41, (bW1.cell (p := ⟨cb, co + j * 5, none⟩) lcb).trans q0, (bW1.cell (p := ⟨cb, co + j * 5 + 1, none⟩) lcb).trans q1, (bW1.cell (p := ⟨cb, co + j * 5 + 2, none⟩) lcb).trans q2, (bW1.cell (p := ⟨cb, co + j * 5 + 3, none⟩) lcb).trans q3, (bW1.cell (p := ⟨cb, co + j * 5 + 4, none⟩) lcb).trans q4, Nat.lt_of_lt_of_le hlt bW1.size, lp1, Nat.lt_of_lt_of_le lcb bW1.size⟩
 have HS2 : Hid _ := s2
 have HSA : Hid ((World.alloc W1.drew (.cells #[.int .i64 0, .int .i64 0, .int .i64 0, .int .i64 0, .int .i64 0] 71)).cell? ⟨pb, 0, none⟩ = some (.pointer (some ⟨mb, 0, none⟩)) /\ (World.alloc W1.drew (.cells #[.int .i64 0, .int .i64 0, .int .i64 0, .int .i64 0, .int .i64 0] 71)).cell? ⟨mb, 39, none⟩ = some (.slice (some ⟨cb, co, none⟩) lC ccc) /\ (World.alloc W1.drew (.cells #[.int .i64 0, .int .i64 0, .int .i64 0, .int .i64 0, .int .i64 0] 71)).cell? ⟨mb, 41, none⟩ = some (.int .i64 (j : Int)) /\ (World.alloc W1.drew (.cells #[.int .i64 0, .int .i64 0, .int .i64 0, .int .i64 0, .int .i64 0] 71)).cell? ⟨cb, co + j * 5, none⟩ = some (.int .i64 op) /\ (World.alloc W1.drew (.cells #[.int .i64 0, .int .i64 0, .int .i64 0, .int .i64 0, .int .i64 0] 71)).cell? ⟨cb, co + j * 5 + 1, none⟩ = some (.int .i64 a) /\ (World.alloc W1.drew (.cells #[.int .i64 0, .int .i64 0, .int .i64 0, .int .i64 0, .int .i64 0] 71)).cell? ⟨cb, co + j * 5 + 2, none⟩ = some (.int .i64 b) /\ (World.alloc W1.drew (.cells #[.int .i64 0, .int .i64 0, .int .i64 0, .int .i64 0, .int .i64 0] 71)).cell? ⟨cb, co + j * 5 + 3, none⟩ = some (.int .i64 c) /\ (World.alloc W1.drew (.cells #[.int .i64 0, .int .i64 0, .int .i64 0, .int .i64 0, .int .i64 0] 71)).cell? ⟨cb, co + j * 5 + 4, none⟩ = some (.int .i64 n) /\ mb < (World.alloc W1.drew (.cells #[.int .i64 0, .int .i64 0, .int .i64 0, .int .i64 0, .int .i64 0] 71)).heap.size /\ pb < (World.alloc W1.drew (.cells #[.int .i64 0, .int .i64 0, .int .i64 0, .int .i64 0, .int .i64 0] 71)).heap.size /\ cb < (World.alloc W1.drew (.cells #[.int .i64 0, .int .i64 0, .int .i64 0, .int .i64 0, .int .i64 0] 71)).heap.size) := by
  obtain ⟨u0, u1, u2, u3, u4, u5, u6, u7, u8, u9, u10⟩ := s2
  exact ⟨(cellA (w := W1) u0 : _), (cellA (w := W1) u1 : _), (cellA (w := W1) u2 : _), (cellA (w := W1) u3 : _), (cellA (w := W1) u4 : _), (cellA (w := W1) u5 : _), (cellA (w := W1) u6 : _), (cellA (w := W1) u7 : _), by simp; omega, by simp; omega, by simp; omega⟩
 clear hW2 hW4 hpb S4 hW1 bW1 ep1 lp1 s2 z1
 go_enter_defers Tryz.func72, Tryz.ntmps72
 go_upto_region 2 with fail
 rw [<- HQ1.out, <- HQP.out]
 have S8 : (fun w' : World => w'.cell? ⟨pb, 0, none⟩ = some (.pointer (some ⟨mb, 0, none⟩)) /\ w'.cell? ⟨mb, 39, none⟩ = some (.slice (some ⟨cb, co, none⟩) lC ccc) /\ w'.cell? ⟨mb, 41, none⟩ = some (.int .i64 (j : Int)) /\ w'.cell? ⟨cb, co + j * 5, none⟩ = some (.int .i64 op) /\ w'.cell? ⟨cb, co + j * 5 + 1, none⟩ = some (.int .i64 a) /\ w'.cell? ⟨cb, co + j * 5 + 2, none⟩ = some (.int .i64 b) /\ w'.cell? ⟨cb, co + j * 5 + 3, none⟩ = some (.int .i64 c) /\ w'.cell? ⟨cb, co + j * 5 + 4, none⟩ = some (.int .i64 n) /\ mb < w'.heap.size /\ pb < w'.heap.size /\ cb < w'.heap.size) W1.drew := HS2.out
 refine lec_start (S := fun w' : World => w'.cell? ⟨pb, 0, none⟩ = some (.pointer (some ⟨mb, 0, none⟩)) /\ w'.cell? ⟨mb, 39, none⟩ = some (.slice (some ⟨cb, co, none⟩) lC ccc) /\ w'.cell? ⟨mb, 41, none⟩ = some (.int .i64 (j : Int)) /\ w'.cell? ⟨cb, co + j * 5, none⟩ = some (.int .i64 op) /\ w'.cell? ⟨cb, co + j * 5 + 1, none⟩ = some (.int .i64 a) /\ w'.cell? ⟨cb, co + j * 5 + 2, none⟩ = some (.int .i64 b) /\ w'.cell? ⟨cb, co + j * 5 + 3, none⟩ = some (.int .i64 c) /\ w'.cell? ⟨cb, co + j * 5 + 4, none⟩ = some (.int .i64 n) /\ mb < w'.heap.size /\ pb < w'.heap.size /\ cb < w'.heap.size) (z := 13) (by kernel_rfl) ?_
 show lec _ _ _ _ _ 14 _ _ _
 try simp only [List.size_toArray, List.length_cons, List.length_nil, Array.replicate]
 refine lec_takeT [1, 2, 3, 4, 10, 11, 13] (i := 0) (v := ?v0z) rfl (by kernel_rfl) (by kernel_rfl) (by kernel_rfl) (by kernel_rfl) (fun c a w h => panicR h) (.inl ⟨by rfl, ?hy0z⟩) S8 ?rest0z
 case hy0z =>
  rintro w' ⟨g0, g1, g2, g3, g4, g5, g6, g7, g8, g9, g10⟩
  go_simp
  all_goals with_reducible rfl
 try simp only [Act.put, List.getElem_toArray, List.getElem_cons_succ, List.getElem_cons_zero, List.setIfInBounds_toArray, List.set_cons_zero, List.set_cons_succ]
 refine lec_takeP (i := 1) (v := ?v1z) rfl (by kernel_rfl) (by kernel_rfl) (by kernel_rfl) (by kernel_rfl) (fun c a w h => panicR h) (.inl ⟨by rfl, ?hy1z⟩) S8 ?rest1z
 case hy1z =>
  rintro w' _
  go_simp
  all_goals with_reducible rfl
 try simp only [Act.put, List.getElem_toArray, List.getElem_cons_succ, List.getElem_cons_zero, List.setIfInBounds_toArray, List.set_cons_zero, List.set_cons_succ]
 refine lec_takeP (i := 2) (v := ?v2z) rfl (by kernel_rfl) (by kernel_rfl) (by kernel_rfl) (by kernel_rfl) (fun c a w h => panicR h) (.inl ⟨by rfl, ?hy2z⟩) S8 ?rest2z
 case hy2z =>
  rintro w' _
  go_simp
  all_goals with_reducible rfl
 try simp only [Act.put, List.getElem_toArray, List.getElem_cons_succ, List.getElem_cons_zero, List.setIfInBounds_toArray, List.set_cons_zero, List.set_cons_succ]
 refine lec_takeP (i := 3) (v := ?v3z) rfl (by kernel_rfl) (by kernel_rfl) (by kernel_rfl) (by kernel_rfl) (fun c a w h => panicR h) (.inl ⟨by rfl, ?hy3z⟩) S8 ?rest3z
 case hy3z =>
  rintro w' _
  go_simp
  all_goals with_reducible rfl
 try simp only [Act.put, List.getElem_toArray, List.getElem_cons_succ, List.getElem_cons_zero, List.setIfInBounds_toArray, List.set_cons_zero, List.set_cons_succ]
 refine lec_takeT [10, 11, 13] (i := 4) (v := ?v4z) rfl (by kernel_rfl) (by kernel_rfl) (by kernel_rfl) (by kernel_rfl) (fun c a w h => panicR h) (.inl ⟨by rfl, ?hy4z⟩) S8 ?rest4z
 case hy4z =>
  rintro w' ⟨g0, g1, g2, g3, g4, g5, g6, g7, g8, g9, g10⟩
  go_simp
  all_goals with_reducible rfl
 try simp only [Act.put, List.getElem_toArray, List.getElem_cons_succ, List.getElem_cons_zero, List.setIfInBounds_toArray, List.set_cons_zero, List.set_cons_succ]
 refine lec_takeT [6, 7, 8, 9, 10, 11, 13] (i := 5) (v := ?v5z) rfl (by kernel_rfl) (by kernel_rfl) (by kernel_rfl) (by kernel_rfl) (fun c a w h => panicR h) (.inl ⟨by rfl, ?hy5z⟩) S8 ?rest5z
 case hy5z =>
  rintro w' ⟨g0, g1, g2, g3, g4, g5, g6, g7, g8, g9, g10⟩
  go_simp
  all_goals with_reducible rfl
 try simp only [Act.put, List.getElem_toArray, List.getElem_cons_succ, List.getElem_cons_zero, List.setIfInBounds_toArray, List.set_cons_zero, List.set_cons_succ]
 refine lec_takeP (i := 6) (v := ?v6z) rfl (by kernel_rfl) (by kernel_rfl) (by kernel_rfl) (by kernel_rfl) (fun c a w h => panicR h) (.inl ⟨by rfl, ?hy6z⟩) S8 ?rest6z
 case hy6z =>
  rintro w' _
  go_simp
  all_goals with_reducible rfl
 try simp only [Act.put, List.getElem_toArray, List.getElem_cons_succ, List.getElem_cons_zero, List.setIfInBounds_toArray, List.set_cons_zero, List.set_cons_succ]
 refine lec_takeP (i := 7) (v := ?v7z) rfl (by kernel_rfl) (by kernel_rfl) (by kernel_rfl) (by kernel_rfl) (fun c a w h => panicR h) (.inl ⟨by rfl, ?hy7z⟩) S8 ?rest7z
 case hy7z =>
  rintro w' _
  go_simp
  all_goals with_reducible rfl
 try simp only [Act.put, List.getElem_toArray, List.getElem_cons_succ, List.getElem_cons_zero, List.setIfInBounds_toArray, List.set_cons_zero, List.set_cons_succ]
 refine lec_takeP (i := 8) (v := ?v8z) rfl (by kernel_rfl) (by kernel_rfl) (by kernel_rfl) (by kernel_rfl) (fun c a w h => panicR h) (.inl ⟨by rfl, ?hy8z⟩) S8 ?rest8z
 case hy8z =>
  rintro w' _
  go_simp
  all_goals with_reducible rfl
 try simp only [Act.put, List.getElem_toArray, List.getElem_cons_succ, List.getElem_cons_zero, List.setIfInBounds_toArray, List.set_cons_zero, List.set_cons_succ]
 refine lec_takeT [10, 11, 13] (i := 9) (v := ?v9z) rfl (by kernel_rfl) (by kernel_rfl) (by kernel_rfl) (by kernel_rfl) (fun c a w h => panicR h) (.inl ⟨by rfl, ?hy9z⟩) S8 ?rest9z
 case hy9z =>
  rintro w' ⟨g0, g1, g2, g3, g4, g5, g6, g7, g8, g9, g10⟩
  go_simp
  all_goals with_reducible rfl
 try simp only [Act.put, List.getElem_toArray, List.getElem_cons_succ, List.getElem_cons_zero, List.setIfInBounds_toArray, List.set_cons_zero, List.set_cons_succ]
 refine lec_takeP (i := 10) (v := ?v10z) rfl (by kernel_rfl) (by kernel_rfl) (by kernel_rfl) (by kernel_rfl) (fun c a w h => panicR h) (.inl ⟨by rfl, ?hy10z⟩) S8 ?rest10z
 case hy10z =>
  rintro w' _
  go_simp
  all_goals with_reducible rfl
 try simp only [Act.put, List.getElem_toArray, List.getElem_cons_succ, List.getElem_cons_zero, List.setIfInBounds_toArray, List.set_cons_zero, List.set_cons_succ]
 refine lec_takeT [13] (i := 11) (v := ?v11z) rfl (by kernel_rfl) (by kernel_rfl) (by kernel_rfl) (by kernel_rfl) (fun c a w h => panicR h) (.inl ⟨by rfl, ?hy11z⟩) S8 ?rest11z
 case hy11z =>
  rintro w' ⟨g0, g1, g2, g3, g4, g5, g6, g7, g8, g9, g10⟩
  go_simp
  all_goals with_reducible rfl
 try simp only [Act.put, List.getElem_toArray, List.getElem_cons_succ, List.getElem_cons_zero, List.setIfInBounds_toArray, List.set_cons_zero, List.set_cons_succ]
 refine lec_one (i := 12) rfl (by kernel_rfl) ?_
 intro K12 hK12
 rw [if_pos (by rfl)]
 go_simp
 have HA : (fun w' : World => w'.cell? ⟨pb, 0, none⟩ = some (.pointer (some ⟨mb, 0, none⟩)) /\ w'.cell? ⟨mb, 39, none⟩ = some (.slice (some ⟨cb, co, none⟩) lC ccc) /\ w'.cell? ⟨mb, 41, none⟩ = some (.int .i64 (j : Int)) /\ w'.cell? ⟨cb, co + j * 5, none⟩ = some (.int .i64 op) /\ w'.cell? ⟨cb, co + j * 5 + 1, none⟩ = some (.int .i64 a) /\ w'.cell? ⟨cb, co + j * 5 + 2, none⟩ = some (.int .i64 b) /\ w'.cell? ⟨cb, co + j * 5 + 3, none⟩ = some (.int .i64 c) /\ w'.cell? ⟨cb, co + j * 5 + 4, none⟩ = some (.int .i64 n) /\ mb < w'.heap.size /\ pb < w'.heap.size /\ cb < w'.heap.size) (World.alloc W1.drew (.cells #[.int .i64 0, .int .i64 0, .int .i64 0, .int .i64 0, .int .i64 0] 71)) := HSA.out
 refine hK12 _ _ (fun _ => HA) ?_
 clear S8
 have S8 := HA
 clear HA
 clear hK12
 try simp only [Act.put, List.getElem_toArray, List.getElem_cons_succ, List.getElem_cons_zero, List.setIfInBounds_toArray, List.set_cons_zero, List.set_cons_succ]
 refine lec_one (i := 13) rfl (by kernel_rfl) ?_
 intro K13 hK13
 rw [if_pos (by rfl)]
 go_simp
 refine hK13 _ _ (fun h => by cases h) ?_
 clear hK13
 try simp only [Act.put, List.getElem_toArray, List.getElem_cons_succ, List.getElem_cons_zero, List.setIfInBounds_toArray, List.set_cons_zero, List.set_cons_succ]
 refine lec_done (by kernel_rfl) ?_
 clear S8
 rw [<- HQ2.out, HZ1.out]
 clear HQ2 HZ1 q0 q1 q2 q3 q4 c39 c41 f41 hlt lcb
 go_upto_region 4 with fail
 rw [<- HQ4.out]
 have hop9 := HOP.out
 subst hop9
 have hoi : (o : Int) < 39 := by have := HO9.out; omega
 clear HQ4 HQP HOP HO9 c41b f41b cpb lpb
 have S8 : (fun w' : World => w'.cell? ⟨pb, 0, none⟩ = some (.pointer (some ⟨mb, 0, none⟩)) /\ w'.cell? ⟨pb + 1, 0, none⟩ = some (.int .i64 (o : Int)) /\ w'.cell? ⟨pb + 1, 1, none⟩ = some (.int .i64 a) /\ w'.cell? ⟨pb + 1, 2, none⟩ = some (.int .i64 b) /\ w'.cell? ⟨pb + 1, 3, none⟩ = some (.int .i64 c) /\ w'.cell? ⟨pb + 1, 4, none⟩ = some (.int .i64 n) /\ w'.cell? ⟨mb, o, none⟩ = some (.func (.func g) #[] #[]) /\ mb < w'.heap.size /\ pb < w'.heap.size /\ pb + 1 < w'.heap.size) W4.drew.drew := HS4.out
 refine lec_start (S := fun w' : World => w'.cell? ⟨pb, 0, none⟩ = some (.pointer (some ⟨mb, 0, none⟩)) /\ w'.cell? ⟨pb + 1, 0, none⟩ = some (.int .i64 (o : Int)) /\ w'.cell? ⟨pb + 1, 1, none⟩ = some (.int .i64 a) /\ w'.cell? ⟨pb + 1, 2, none⟩ = some (.int .i64 b) /\ w'.cell? ⟨pb + 1, 3, none⟩ = some (.int .i64 c) /\ w'.cell? ⟨pb + 1, 4, none⟩ = some (.int .i64 n) /\ w'.cell? ⟨mb, o, none⟩ = some (.func (.func g) #[] #[]) /\ mb < w'.heap.size /\ pb < w'.heap.size /\ pb + 1 < w'.heap.size) (z := 10) (by kernel_rfl) ?_
 show lec _ _ _ _ _ 11 _ _ _
 try simp only [List.size_toArray, List.length_cons, List.length_nil, Array.replicate]
 refine lec_takeT [3, 4, 5, 6, 7, 10] (i := 0) (v := ?v0y) rfl (by kernel_rfl) (by kernel_rfl) (by kernel_rfl) (by kernel_rfl) (fun c a w h => panicR h) (.inl ⟨by rfl, ?hy0y⟩) S8 ?rest0y
 case hy0y =>
  rintro w' ⟨g0, g1, g2, g3, g4, g5, g6, g7, g8, g9⟩
  go_simp
  all_goals with_reducible rfl
 try simp only [Act.put, List.getElem_toArray, List.getElem_cons_succ, List.getElem_cons_zero, List.setIfInBounds_toArray, List.set_cons_zero, List.set_cons_succ]
 refine lec_takeP (i := 1) (v := ?v1y) rfl (by kernel_rfl) (by kernel_rfl) (by kernel_rfl) (by kernel_rfl) (fun c a w h => panicR h) (.inl ⟨by rfl, ?hy1y⟩) S8 ?rest1y
 case hy1y =>
  rintro w' _
  go_simp
  all_goals with_reducible rfl
 try simp only [Act.put, List.getElem_toArray, List.getElem_cons_succ, List.getElem_cons_zero, List.setIfInBounds_toArray, List.set_cons_zero, List.set_cons_succ]
 refine lec_takeT [6, 7, 10] (i := 2) (v := ?v2y) rfl (by kernel_rfl) (by kernel_rfl) (by kernel_rfl) (by kernel_rfl) (fun c a w h => panicR h) (.inl ⟨by rfl, ?hy2y⟩) S8 ?rest2y
 case hy2y =>
  rintro w' ⟨g0, g1, g2, g3, g4, g5, g6, g7, g8, g9⟩
  go_simp
  all_goals with_reducible rfl
 try simp only [Act.put, List.getElem_toArray, List.getElem_cons_succ, List.getElem_cons_zero, List.setIfInBounds_toArray, List.set_cons_zero, List.set_cons_succ]
 refine lec_takeP (i := 3) (v := ?v3y) rfl (by kernel_rfl) (by kernel_rfl) (by kernel_rfl) (by kernel_rfl) (fun c a w h => panicR h) (.inl ⟨by rfl, ?hy3y⟩) S8 ?rest3y
 case hy3y =>
  rintro w' _
  go_simp
  all_goals with_reducible rfl
 try simp only [Act.put, List.getElem_toArray, List.getElem_cons_succ, List.getElem_cons_zero, List.setIfInBounds_toArray, List.set_cons_zero, List.set_cons_succ]
 refine lec_takeP (i := 4) (v := ?v4y) rfl (by kernel_rfl) (by kernel_rfl) (by kernel_rfl) (by kernel_rfl) (fun c a w h => panicR h) (.inl ⟨by rfl, ?hy4y⟩) S8 ?rest4y
 case hy4y =>
  rintro w' _
  go_simp
  all_goals with_reducible rfl
 try simp only [Act.put, List.getElem_toArray, List.getElem_cons_succ, List.getElem_cons_zero, List.setIfInBounds_toArray, List.set_cons_zero, List.set_cons_succ]
 refine lec_takeP (i := 5) (v := ?v5y) rfl (by kernel_rfl) (by kernel_rfl) (by kernel_rfl) (by kernel_rfl) (fun c a w h => panicR h) (.inl ⟨by rfl, ?hy5y⟩) S8 ?rest5y
 case hy5y =>
  rintro w' _
  go_simp
  all_goals with_reducible rfl
 try simp only [Act.put, List.getElem_toArray, List.getElem_cons_succ, List.getElem_cons_zero, List.setIfInBounds_toArray, List.set_cons_zero, List.set_cons_succ]
 refine lec_takeP (i := 6) (v := ?v6y) rfl (by kernel_rfl) (by kernel_rfl) (by kernel_rfl) (by kernel_rfl) (fun c a w h => panicR h) (.inl ⟨by rfl, ?hy6y⟩) S8 ?rest6y
 case hy6y =>
  rintro w' _
  go_simp
  all_goals with_reducible rfl
 try simp only [Act.put, List.getElem_toArray, List.getElem_cons_succ, List.getElem_cons_zero, List.setIfInBounds_toArray, List.set_cons_zero, List.set_cons_succ]
 refine lec_takeT [10] (i := 7) (v := ?v7y) rfl (by kernel_rfl) (by kernel_rfl) (by kernel_rfl) (by kernel_rfl) (fun c a w h => panicR h) (.inl ⟨by rfl, ?hy7y⟩) S8 ?rest7y
 case hy7y =>
  rintro w' ⟨g0, g1, g2, g3, g4, g5, g6, g7, g8, g9⟩
  go_simp
  all_goals with_reducible rfl
 try simp only [Act.put, List.getElem_toArray, List.getElem_cons_succ, List.getElem_cons_zero, List.setIfInBounds_toArray, List.set_cons_zero, List.set_cons_succ]
 refine lec_takeT [10] (i := 8) (v := ?v8y) rfl (by kernel_rfl) (by kernel_rfl) (by kernel_rfl) (by kernel_rfl) (fun c a w h => panicR h) (.inl ⟨by rfl, ?hy8y⟩) S8 ?rest8y
 case hy8y =>
  rintro w' ⟨g0, g1, g2, g3, g4, g5, g6, g7, g8, g9⟩
  go_simp
  all_goals with_reducible rfl
 try simp only [Act.put, List.getElem_toArray, List.getElem_cons_succ, List.getElem_cons_zero, List.setIfInBounds_toArray, List.set_cons_zero, List.set_cons_succ]
 refine lec_takeT [10] (i := 9) (v := ?v9y) rfl (by kernel_rfl) (by kernel_rfl) (by kernel_rfl) (by kernel_rfl) (fun c a w h => panicR h) (.inl ⟨by rfl, ?hy9y⟩) S8 ?rest9y
 case hy9y =>
  rintro w' ⟨g0, g1, g2, g3, g4, g5, g6, g7, g8, g9⟩
  go_simp
  all_goals with_reducible rfl
 try simp only [Act.put, List.getElem_toArray, List.getElem_cons_succ, List.getElem_cons_zero, List.setIfInBounds_toArray, List.set_cons_zero, List.set_cons_succ]
 refine lec_one (i := 10) rfl (by kernel_rfl) ?_
 intro K10 hK10
 rw [if_pos (by rfl)]
 go_simp
 rw [HOG.out.out]
 refine Calls.mono HI.out ?_
 rintro e w2 ⟨rfl, h2⟩
 have H2 : Hid _ := h2
 clear h2
 go_simp
 refine hK10 _ _ (fun h => by cases h) ?_
 clear hK10
 try simp only [Act.put, List.getElem_toArray, List.getElem_cons_succ, List.getElem_cons_zero, List.setIfInBounds_toArray, List.set_cons_zero, List.set_cons_succ]
 refine lec_done (by kernel_rfl) ?_
 clear S8
 go_wp2_with fail
 refine leaves_cons (f := 109) (args := #[.pointer (some ⟨pb, 0, none⟩)]) (by simp) (by simp [go_sem]) ?_
 refine (catchR_idle ⟨pb, 0, none⟩ _).mono ?_
 rintro e u' w'' ⟨rfl, rfl, rfl⟩
 have q := H2.out
 simp only [Leaves, settle, results, Tryz.results72]
 exact ⟨.tuple #[], by simp [go_sem], HQQ.out _ q⟩
set_option maxRecDepth 100000 in
set_option maxHeartbeats 4000000 in
theorem mAdv_st {s d w R} (h : Rm s d w R) (j : Nat) (hnx : R.nx = (j : Int)) (hj : j < s.C.length) (hlc : s.C.length <= 1000000000) (hop : 1 <= (s.C[j]).op /\ (s.C[j]).op <= 38) (p : Pre s R.on s.C[j]) (k : Int) (hwy : R.on.why s.C[j] = some k) (Q : Ending -> World -> Prop) (hQ : ∀ w', (∃ d', Rm s d' w' (R.on.stuck k) /\ FooR s d d' w w') -> Q (.returned (.tuple #[])) w') :
 Calls Tryz.prog 72 #[.pointer (some ⟨s.mb, 0, none⟩)] w Q := by
 have HQQ : Hid _ := hQ
 clear hQ
 have hlt := h.lt
 obtain ⟨cb, co, eco, lcb, hqa⟩ := (h.rest.code w h.rest.agr).at (j := j) (by simpa using hj)
 obtain ⟨x, hx⟩ : ∃ x, x = s.C[j] := ⟨_, rfl⟩
 have eg : (s.C.map riv).getD j [] = riv x := by simp [List.getD, hj, hx]
 rw [eg] at hqa
 rw [<- hx] at hop p hwy 
 obtain ⟨o, ho⟩ : ∃ o : Nat, x.op = (o : Int) := ⟨x.op.toNat, by omega⟩
 have ho9 : o < 39 := by omega
 have q0 : w.cell? ⟨cb, co + j * 5, none⟩ = some (.int .i64 x.op) := hqa 0 _ rfl
 have q1 : w.cell? ⟨cb, co + j * 5 + 1, none⟩ = some (.int .i64 x.a) := hqa 1 _ rfl
 have q2 : w.cell? ⟨cb, co + j * 5 + 2, none⟩ = some (.int .i64 x.b) := hqa 2 _ rfl
 have q3 : w.cell? ⟨cb, co + j * 5 + 3, none⟩ = some (.int .i64 x.c) := hqa 3 _ rfl
 have q4 : w.cell? ⟨cb, co + j * 5 + 4, none⟩ = some (.int .i64 x.n) := hqa 4 _ rfl
 have c39 := h.cells.c39
 have c41 := h.cells.c41
 have f41 := h.fz 41
 rw [eco] at c39
 rw [hnx] at c41
 have hji : (j : Int) < (s.C.length : Int) := by omega
 have hlm : (s.C.length : Int) <= 1000000000 := by omega
 have hw : IntKind.i64.wrap ((j : Int) + 1) = (j : Int) + 1 := by rw [IntKind.wrap_i64]; omega
 have hmf : ∀ (fn : Fn) (first cap : Array Value) (w : World), (Instr.makeFunc fn first cap).run Tryz.prog w = .ok (.func fn first cap) w := fun _ _ _ _ => rfl
 obtain ⟨g, hg, hog⟩ := tbl_fn o (by omega) ho9
 have HOG : Hid (OpensR g) := hog
 clear hog
 obtain ⟨W1, hW1⟩ : ∃ W1, W1 = w.alloc (.cells #[.pointer (some ⟨s.mb, 0, none⟩)] 31) := ⟨_, rfl⟩
 obtain ⟨W2, hW2⟩ : ∃ W2, W2 = W1.alloc (.cells #[.int .i64 x.op, .int .i64 x.a, .int .i64 x.b, .int .i64 x.c, .int .i64 x.n] 71) := ⟨_, rfl⟩
 obtain ⟨W4, hW4⟩ : ∃ W4, W4 = W2.setCell ⟨s.mb, 41, none⟩ (.int .i64 ((j : Int) + 1)) := ⟨_, rfl⟩
 have bW1 : Below w.heap.size w W1 := by rw [hW1]; exact below_newR w _
 have z1 : W1.heap.size = w.heap.size + 1 := by rw [hW1]; simp
 have b2 : Below w.heap.size w W2 := by rw [hW2]; exact bW1.alloc (by omega) _
 have h2 := h.below b2
 have q4x := h2.setNx ((j : Int) + 1)
 have eon : R.on = { R with nx := (j : Int) + 1 } := by unfold Rv.on; rw [hnx]
 rw [<- eon, <- hW4] at q4x
 have H4 : Rm s d W4 R.on := q4x.1
 have foo4 : FooR s d d w W4 := (FooR.of_below b2).trans q4x.2
 have c41b := h2.cells.c41
 have f41b := h2.fz 41
 have l41b := h2.lt
 rw [hnx] at c41b
 have nmb : w.heap.size ≠ s.mb /\ w.heap.size + 1 ≠ s.mb := by omega
 have ep2 : W2.heap[w.heap.size]? = some (.cells #[.pointer (some ⟨s.mb, 0, none⟩)] 31 (0, 0)) := by rw [hW2, heap_alloc_old _ _ (by omega), hW1]; exact heap_alloc_new _ _
 have cpb : W2.cell? ⟨w.heap.size, 0, none⟩ = some (.pointer (some ⟨s.mb, 0, none⟩)) := cell_arr ep2 rfl
 have lpb : w.heap.size < W2.heap.size := (gl ep2)
 have ep : W4.heap[w.heap.size]? = some (.cells #[.pointer (some ⟨s.mb, 0, none⟩)] 31 (0, 0)) := by rw [hW4, heap_set_other nmb.1]; exact ep2
 have ex : W4.heap[w.heap.size + 1]? = some (.cells #[.int .i64 x.op, .int .i64 x.a, .int .i64 x.b, .int .i64 x.c, .int .i64 x.n] 71 (0, 0)) := by
  rw [hW4, heap_set_other nmb.2, hW2, <- z1]; exact heap_alloc_new _ _
 have ht : W4.cell? ⟨s.mb, o, none⟩ = some (.func (.func g) #[] #[]) := cell_arr H4.box (by rw [List.getElem?_toArray, rcs_tbl ho9]; exact hg)
 have S4 : W4.cell? ⟨w.heap.size, 0, none⟩ = some (.pointer (some ⟨s.mb, 0, none⟩)) /\ W4.cell? ⟨w.heap.size + 1, 0, none⟩ = some (.int .i64 (o : Int)) /\ W4.cell? ⟨w.heap.size + 1, 1, none⟩ = some (.int .i64 x.a) /\ W4.cell? ⟨w.heap.size + 1, 2, none⟩ = some (.int .i64 x.b) /\ W4.cell? ⟨w.heap.size + 1, 3, none⟩ = some (.int .i64 x.c) /\ W4.cell? ⟨w.heap.size + 1, 4, none⟩ = some (.int .i64 x.n) /\ W4.cell? ⟨s.mb, o, none⟩ = some (.func (.func g) #[] #[]) /\ s.mb < W4.heap.size /\ w.heap.size < W4.heap.size /\ w.heap.size + 1 < W4.heap.size := ⟨cell_arr ep rfl, by rw [<- ho]; exact cell_arr ex rfl, cell_arr ex rfl, cell_arr ex rfl, cell_arr ex rfl, cell_arr ex rfl, ht, H4.lt, (gl ep), (gl ex)⟩
 have HI : Hid (Calls Tryz.prog g #[.pointer (some ⟨s.mb, 0, none⟩), .agg #[.int .i64 (o : Int), .int .i64 x.a, .int .i64 x.b, .int .i64 x.c, .int .i64 x.n]] W4.drew.drew (fun e w2 => e = .panicked [{ v := .iface 137 (.int .i64 k), recovered := false }] /\ CallsD Tryz.prog 109 #[.pointer (some ⟨w.heap.size, 0, none⟩)] (.panicking [{ v := .iface 137 (.int .i64 k), recovered := false }]) w2 fun e u' w' => e = .returned (.tuple #[]) /\ u' = .panicking [{ v := .iface 137 (.int .i64 k), recovered := true }] /\ ∃ d', Rm s d' w' (R.on.stuck k) /\ FooR s d d' w w')) := by
  have q := ins_any (H4.below ((Below.refl _ _).drew).drew) x p g (by rw [ho]; exact hg)
  rw [ho] at q
  refine q.mono ?_
  rintro e w2 ⟨k1, k2⟩
  obtain ⟨rfl, b⟩ := k1 k hwy
  have b2 : Below W4.heap.size W4 w2 := ((Below.refl _ _).drew).drew.trans b
  have e2 : w2.heap[w.heap.size]? = _ := (b2.block _ (gl ep)).trans ep
  refine ⟨rfl, (catchR_stuck (H4.below b2) w.heap.size (cell_arr e2 rfl) (fz_of e2) k).mono ?_⟩
  rintro e u' w'' ⟨r1, r2, d', r3, r4⟩
  exact ⟨r1, r2, d', r3, (foo4.trans (FooR.of_below b2)).trans r4⟩
 obtain ⟨op, hopx⟩ : ∃ op, op = x.op := ⟨_, rfl⟩
 have HOP : Hid (op = (o : Int)) := hopx.trans ho
 rw [<- hopx] at q0 hW2
 clear hqa eg eco H4 p hwy hop ep ex ht hg ho hopx hnx b2 h2 q4x eon foo4 ep2 nmb
 generalize x.a = a at *
 generalize x.b = b at *
 generalize x.c = c at *
 generalize x.n = n at *
 clear hx
 obtain ⟨lC, hlC⟩ : ∃ l, l = s.C.length := ⟨_, rfl⟩
 rw [<- hlC] at c39 hji hlm
 generalize s.cc = ccc at *
 generalize s.mb = mb at *
 clear h hlC hj hlc
 have HO9 : Hid (o < 39) := ho9
 obtain ⟨pb, hpb⟩ : ∃ pb, pb = w.heap.size := ⟨_, rfl⟩
 rw [<- hpb] at S4 cpb lpb HI
 clear ho9
 have HQ2 : Hid _ := hW2
 have HQ4 : Hid _ := hW4
 have HQP : Hid _ := hpb
 have HS4 : Hid _ := S4
 have HQ1 : Hid _ := hW1
 rw [<- hpb] at z1
 have HZ1 : Hid _ := z1
 have ep1 : W1.heap[pb]? = some (.cells #[.pointer (some ⟨mb, 0, none⟩)] 31 (0, 0)) := by rw [hW1, hpb]; exact heap_alloc_new _ _
 have lp1 : pb < W1.heap.size := (gl ep1)
 have s2 : W1.cell? ⟨pb, 0, none⟩ = some (.pointer (some ⟨mb, 0, none⟩)) /\ W1.cell? ⟨mb, 39, none⟩ = some (.slice (some ⟨cb, co, none⟩) lC ccc) /\ W1.cell? ⟨mb, 41, none⟩ = some (.int .i64 (j : Int)) /\ W1.cell? ⟨cb, co + j * 5, none⟩ = some (.int .i64 op) /\ W1.cell? ⟨cb, co + j * 5 + 1, none⟩ = some (.int .i64 a) /\ W1.cell? ⟨cb, co + j * 5 + 2, none⟩ = some (.int .i64 b) /\ W1.cell? ⟨cb, co + j * 5 + 3, none⟩ = some (.int .i64 c) /\ W1.cell? ⟨cb, co + j * 5 + 4, none⟩ = some (.int .i64 n) /\ mb < W1.heap.size /\ pb < W1.heap.size /\ cb < W1.heap.size := ⟨cell_arr ep1 rfl, (bW1.cell (p := ⟨mb, 39, none⟩) hlt).trans c39, (bW1.cell (p := ⟨mb, 41, none⟩) hlt).trans c41, (bW1.cell (p := ⟨cb, co + j * 5, none⟩) lcb).trans q0, (bW1.cell (p := ⟨cb, co + j * 5 + 1, none⟩) lcb).trans q1, (bW1.cell (p := ⟨cb, co + j * 5 + 2, none⟩) lcb).trans q2, (bW1.cell (p := ⟨cb, co + j * 5 + 3, none⟩) lcb).trans q3, (bW1.cell (p := ⟨cb, co + j * 5 + 4, none⟩) lcb).trans q4, Nat.lt_of_lt_of_le hlt bW1.size, lp1, Nat.lt_of_lt_of_le lcb bW1.size⟩
 have HS2 : Hid _ := s2
 have HSA : Hid ((World.alloc W1.drew (.cells #[.int .i64 0, .int .i64 0, .int .i64 0, .int .i64 0, .int .i64 0] 71)).cell? ⟨pb, 0, none⟩ = some (.pointer (some ⟨mb, 0, none⟩)) /\ (World.alloc W1.drew (.cells #[.int .i64 0, .int .i64 0, .int .i64 0, .int .i64 0, .int .i64 0] 71)).cell? ⟨mb, 39, none⟩ = some (.slice (some ⟨cb, co, none⟩) lC ccc) /\ (World.alloc W1.drew (.cells #[.int .i64 0, .int .i64 0, .int .i64 0, .int .i64 0, .int .i64 0] 71)).cell? ⟨mb, 41, none⟩ = some (.int .i64 (j : Int)) /\ (World.alloc W1.drew (.cells #[.int .i64 0, .int .i64 0, .int .i64 0, .int .i64 0, .int .i64 0] 71)).cell? ⟨cb, co + j * 5, none⟩ = some (.int .i64 op) /\ (World.alloc W1.drew (.cells #[.int .i64 0, .int .i64 0, .int .i64 0, .int .i64 0, .int .i64 0] 71)).cell? ⟨cb, co + j * 5 + 1, none⟩ = some (.int .i64 a) /\ (World.alloc W1.drew (.cells #[.int .i64 0, .int .i64 0, .int .i64 0, .int .i64 0, .int .i64 0] 71)).cell? ⟨cb, co + j * 5 + 2, none⟩ = some (.int .i64 b) /\ (World.alloc W1.drew (.cells #[.int .i64 0, .int .i64 0, .int .i64 0, .int .i64 0, .int .i64 0] 71)).cell? ⟨cb, co + j * 5 + 3, none⟩ = some (.int .i64 c) /\ (World.alloc W1.drew (.cells #[.int .i64 0, .int .i64 0, .int .i64 0, .int .i64 0, .int .i64 0] 71)).cell? ⟨cb, co + j * 5 + 4, none⟩ = some (.int .i64 n) /\ mb < (World.alloc W1.drew (.cells #[.int .i64 0, .int .i64 0, .int .i64 0, .int .i64 0, .int .i64 0] 71)).heap.size /\ pb < (World.alloc W1.drew (.cells #[.int .i64 0, .int .i64 0, .int .i64 0, .int .i64 0, .int .i64 0] 71)).heap.size /\ cb < (World.alloc W1.drew (.cells #[.int .i64 0, .int .i64 0, .int .i64 0, .int .i64 0, .int .i64 0] 71)).heap.size) := by
  obtain ⟨u0, u1, u2, u3, u4, u5, u6, u7, u8, u9, u10⟩ := s2
  exact ⟨(cellA (w := W1) u0 : _), (cellA (w := W1) u1 : _), (cellA (w := W1) u2 : _), (cellA (w := W1) u3 : _), (cellA (w := W1) u4 : _), (cellA (w := W1) u5 : _), (cellA (w := W1) u6 : _), (cellA (w := W1) u7 : _), by simp; omega, by simp; omega, by simp; omega⟩
 clear hW2 hW4 hpb S4 hW1 bW1 ep1 lp1 s2 z1
 go_enter_defers Tryz.func72, Tryz.ntmps72
 go_upto_region 2 with fail
 rw [<- HQ1.out, <- HQP.out]
 have S8 : (fun w' : World => w'.cell? ⟨pb, 0, none⟩ = some (.pointer (some ⟨mb, 0, none⟩)) /\ w'.cell? ⟨mb, 39, none⟩ = some (.slice (some ⟨cb, co, none⟩) lC ccc) /\ w'.cell? ⟨mb, 41, none⟩ = some (.int .i64 (j : Int)) /\ w'.cell? ⟨cb, co + j * 5, none⟩ = some (.int .i64 op) /\ w'.cell? ⟨cb, co + j * 5 + 1, none⟩ = some (.int .i64 a) /\ w'.cell? ⟨cb, co + j * 5 + 2, none⟩ = some (.int .i64 b) /\ w'.cell? ⟨cb, co + j * 5 + 3, none⟩ = some (.int .i64 c) /\ w'.cell? ⟨cb, co + j * 5 + 4, none⟩ = some (.int .i64 n) /\ mb < w'.heap.size /\ pb < w'.heap.size /\ cb < w'.heap.size) W1.drew := HS2.out
 refine lec_start (S := fun w' : World => w'.cell? ⟨pb, 0, none⟩ = some (.pointer (some ⟨mb, 0, none⟩)) /\ w'.cell? ⟨mb, 39, none⟩ = some (.slice (some ⟨cb, co, none⟩) lC ccc) /\ w'.cell? ⟨mb, 41, none⟩ = some (.int .i64 (j : Int)) /\ w'.cell? ⟨cb, co + j * 5, none⟩ = some (.int .i64 op) /\ w'.cell? ⟨cb, co + j * 5 + 1, none⟩ = some (.int .i64 a) /\ w'.cell? ⟨cb, co + j * 5 + 2, none⟩ = some (.int .i64 b) /\ w'.cell? ⟨cb, co + j * 5 + 3, none⟩ = some (.int .i64 c) /\ w'.cell? ⟨cb, co + j * 5 + 4, none⟩ = some (.int .i64 n) /\ mb < w'.heap.size /\ pb < w'.heap.size /\ cb < w'.heap.size) (z := 13) (by kernel_rfl) ?_
 show lec _ _ _ _ _ 14 _ _ _
 try simp only [List.size_toArray, List.length_cons, List.length_nil, Array.replicate]
 refine lec_takeT [1, 2, 3, 4, 10, 11, 13] (i := 0) (v := ?v0z) rfl (by kernel_rfl) (by kernel_rfl) (by kernel_rfl) (by kernel_rfl) (fun c a w h => panicR h) (.inl ⟨by rfl, ?hy0z⟩) S8 ?rest0z
 case hy0z =>
  rintro w' ⟨g0, g1, g2, g3, g4, g5, g6, g7, g8, g9, g10⟩
  go_simp
  all_goals with_reducible rfl
 try simp only [Act.put, List.getElem_toArray, List.getElem_cons_succ, List.getElem_cons_zero, List.setIfInBounds_toArray, List.set_cons_zero, List.set_cons_succ]
 refine lec_takeP (i := 1) (v := ?v1z) rfl (by kernel_rfl) (by kernel_rfl) (by kernel_rfl) (by kernel_rfl) (fun c a w h => panicR h) (.inl ⟨by rfl, ?hy1z⟩) S8 ?rest1z
 case hy1z =>
  rintro w' _
  go_simp
  all_goals with_reducible rfl
 try simp only [Act.put, List.getElem_toArray, List.getElem_cons_succ, List.getElem_cons_zero, List.setIfInBounds_toArray, List.set_cons_zero, List.set_cons_succ]
 refine lec_takeP (i := 2) (v := ?v2z) rfl (by kernel_rfl) (by kernel_rfl) (by kernel_rfl) (by kernel_rfl) (fun c a w h => panicR h) (.inl ⟨by rfl, ?hy2z⟩) S8 ?rest2z
 case hy2z =>
  rintro w' _
  go_simp
  all_goals with_reducible rfl
 try simp only [Act.put, List.getElem_toArray, List.getElem_cons_succ, List.getElem_cons_zero, List.setIfInBounds_toArray, List.set_cons_zero, List.set_cons_succ]
 refine lec_takeP (i := 3) (v := ?v3z) rfl (by kernel_rfl) (by kernel_rfl) (by kernel_rfl) (by kernel_rfl) (fun c a w h => panicR h) (.inl ⟨by rfl, ?hy3z⟩) S8 ?rest3z
 case hy3z =>
  rintro w' _
  go_simp
  all_goals with_reducible rfl
 try simp only [Act.put, List.getElem_toArray, List.getElem_cons_succ, List.getElem_cons_zero, List.setIfInBounds_toArray, List.set_cons_zero, List.set_cons_succ]
 refine lec_takeT [10, 11, 13] (i := 4) (v := ?v4z) rfl (by kernel_rfl) (by kernel_rfl) (by kernel_rfl) (by kernel_rfl) (fun c a w h => panicR h) (.inl ⟨by rfl, ?hy4z⟩) S8 ?rest4z
 case hy4z =>
  rintro w' ⟨g0, g1, g2, g3, g4, g5, g6, g7, g8, g9, g10⟩
  go_simp
  all_goals with_reducible rfl
 try simp only [Act.put, List.getElem_toArray, List.getElem_cons_succ, List.getElem_cons_zero, List.setIfInBounds_toArray, List.set_cons_zero, List.set_cons_succ]
 refine lec_takeT [6, 7, 8, 9, 10, 11, 13] (i := 5) (v := ?v5z) rfl (by kernel_rfl) (by kernel_rfl) (by kernel_rfl) (by kernel_rfl) (fun c a w h => panicR h) (.inl ⟨by rfl, ?hy5z⟩) S8 ?rest5z
 case hy5z =>
  rintro w' ⟨g0, g1, g2, g3, g4, g5, g6, g7, g8, g9, g10⟩
  go_simp
  all_goals with_reducible rfl
 try simp only [Act.put, List.getElem_toArray, List.getElem_cons_succ, List.getElem_cons_zero, List.setIfInBounds_toArray, List.set_cons_zero, List.set_cons_succ]
 refine lec_takeP (i := 6) (v := ?v6z) rfl (by kernel_rfl) (by kernel_rfl) (by kernel_rfl) (by kernel_rfl) (fun c a w h => panicR h) (.inl ⟨by rfl, ?hy6z⟩) S8 ?rest6z
 case hy6z =>
  rintro w' _
  go_simp
  all_goals with_reducible rfl
 try simp only [Act.put, List.getElem_toArray, List.getElem_cons_succ, List.getElem_cons_zero, List.setIfInBounds_toArray, List.set_cons_zero, List.set_cons_succ]
 refine lec_takeP (i := 7) (v := ?v7z) rfl (by kernel_rfl) (by kernel_rfl) (by kernel_rfl) (by kernel_rfl) (fun c a w h => panicR h) (.inl ⟨by rfl, ?hy7z⟩) S8 ?rest7z
 case hy7z =>
  rintro w' _
  go_simp
  all_goals with_reducible rfl
 try simp only [Act.put, List.getElem_toArray, List.getElem_cons_succ, List.getElem_cons_zero, List.setIfInBounds_toArray, List.set_cons_zero, List.set_cons_succ]
 refine lec_takeP (i := 8) (v := ?v8z) rfl (by kernel_rfl) (by kernel_rfl) (by kernel_rfl) (by kernel_rfl) (fun c a w h => panicR h) (.inl ⟨by rfl, ?hy8z⟩) S8 ?rest8z
 case hy8z =>
  rintro w' _
  go_simp
  all_goals with_reducible rfl
 try simp only [Act.put, List.getElem_toArray, List.getElem_cons_succ, List.getElem_cons_zero, List.setIfInBounds_toArray, List.set_cons_zero, List.set_cons_succ]
 refine lec_takeT [10, 11, 13] (i := 9) (v := ?v9z) rfl (by kernel_rfl) (by kernel_rfl) (by kernel_rfl) (by kernel_rfl) (fun c a w h => panicR h) (.inl ⟨by rfl, ?hy9z⟩) S8 ?rest9z
 case hy9z =>
  rintro w' ⟨g0, g1, g2, g3, g4, g5, g6, g7, g8, g9, g10⟩
  go_simp
  all_goals with_reducible rfl
 try simp only [Act.put, List.getElem_toArray, List.getElem_cons_succ, List.getElem_cons_zero, List.setIfInBounds_toArray, List.set_cons_zero, List.set_cons_succ]
 refine lec_takeP (i := 10) (v := ?v10z) rfl (by kernel_rfl) (by kernel_rfl) (by kernel_rfl) (by kernel_rfl) (fun c a w h => panicR h) (.inl ⟨by rfl, ?hy10z⟩) S8 ?rest10z
 case hy10z =>
  rintro w' _
  go_simp
  all_goals with_reducible rfl
 try simp only [Act.put, List.getElem_toArray, List.getElem_cons_succ, List.getElem_cons_zero, List.setIfInBounds_toArray, List.set_cons_zero, List.set_cons_succ]
 refine lec_takeT [13] (i := 11) (v := ?v11z) rfl (by kernel_rfl) (by kernel_rfl) (by kernel_rfl) (by kernel_rfl) (fun c a w h => panicR h) (.inl ⟨by rfl, ?hy11z⟩) S8 ?rest11z
 case hy11z =>
  rintro w' ⟨g0, g1, g2, g3, g4, g5, g6, g7, g8, g9, g10⟩
  go_simp
  all_goals with_reducible rfl
 try simp only [Act.put, List.getElem_toArray, List.getElem_cons_succ, List.getElem_cons_zero, List.setIfInBounds_toArray, List.set_cons_zero, List.set_cons_succ]
 refine lec_one (i := 12) rfl (by kernel_rfl) ?_
 intro K12 hK12
 rw [if_pos (by rfl)]
 go_simp
 have HA : (fun w' : World => w'.cell? ⟨pb, 0, none⟩ = some (.pointer (some ⟨mb, 0, none⟩)) /\ w'.cell? ⟨mb, 39, none⟩ = some (.slice (some ⟨cb, co, none⟩) lC ccc) /\ w'.cell? ⟨mb, 41, none⟩ = some (.int .i64 (j : Int)) /\ w'.cell? ⟨cb, co + j * 5, none⟩ = some (.int .i64 op) /\ w'.cell? ⟨cb, co + j * 5 + 1, none⟩ = some (.int .i64 a) /\ w'.cell? ⟨cb, co + j * 5 + 2, none⟩ = some (.int .i64 b) /\ w'.cell? ⟨cb, co + j * 5 + 3, none⟩ = some (.int .i64 c) /\ w'.cell? ⟨cb, co + j * 5 + 4, none⟩ = some (.int .i64 n) /\ mb < w'.heap.size /\ pb < w'.heap.size /\ cb < w'.heap.size) (World.alloc W1.drew (.cells #[.int .i64 0, .int .i64 0, .int .i64 0, .int .i64 0, .int .i64 0] 71)) := HSA.out
 refine hK12 _ _ (fun _ => HA) ?_
 clear S8
 have S8 := HA
 clear HA
 clear hK12
 try simp only [Act.put, List.getElem_toArray, List.getElem_cons_succ, List.getElem_cons_zero, List.setIfInBounds_toArray, List.set_cons_zero, List.set_cons_succ]
 refine lec_one (i := 13) rfl (by kernel_rfl) ?_
 intro K13 hK13
 rw [if_pos (by rfl)]
 go_simp
 refine hK13 _ _ (fun h => by cases h) ?_
 clear hK13
 try simp only [Act.put, List.getElem_toArray, List.getElem_cons_succ, List.getElem_cons_zero, List.setIfInBounds_toArray, List.set_cons_zero, List.set_cons_succ]
 refine lec_done (by kernel_rfl) ?_
 clear S8
 rw [<- HQ2.out, HZ1.out]
 clear HQ2 HZ1 q0 q1 q2 q3 q4 c39 c41 f41 hlt lcb
 go_upto_region 4 with fail
 rw [<- HQ4.out]
 have hop9 := HOP.out
 subst hop9
 have hoi : (o : Int) < 39 := by have := HO9.out; omega
 clear HQ4 HQP HOP HO9 c41b f41b cpb lpb
 have S8 : (fun w' : World => w'.cell? ⟨pb, 0, none⟩ = some (.pointer (some ⟨mb, 0, none⟩)) /\ w'.cell? ⟨pb + 1, 0, none⟩ = some (.int .i64 (o : Int)) /\ w'.cell? ⟨pb + 1, 1, none⟩ = some (.int .i64 a) /\ w'.cell? ⟨pb + 1, 2, none⟩ = some (.int .i64 b) /\ w'.cell? ⟨pb + 1, 3, none⟩ = some (.int .i64 c) /\ w'.cell? ⟨pb + 1, 4, none⟩ = some (.int .i64 n) /\ w'.cell? ⟨mb, o, none⟩ = some (.func (.func g) #[] #[]) /\ mb < w'.heap.size /\ pb < w'.heap.size /\ pb + 1 < w'.heap.size) W4.drew.drew := HS4.out
 refine lec_start (S := fun w' : World => w'.cell? ⟨pb, 0, none⟩ = some (.pointer (some ⟨mb, 0, none⟩)) /\ w'.cell? ⟨pb + 1, 0, none⟩ = some (.int .i64 (o : Int)) /\ w'.cell? ⟨pb + 1, 1, none⟩ = some (.int .i64 a) /\ w'.cell? ⟨pb + 1, 2, none⟩ = some (.int .i64 b) /\ w'.cell? ⟨pb + 1, 3, none⟩ = some (.int .i64 c) /\ w'.cell? ⟨pb + 1, 4, none⟩ = some (.int .i64 n) /\ w'.cell? ⟨mb, o, none⟩ = some (.func (.func g) #[] #[]) /\ mb < w'.heap.size /\ pb < w'.heap.size /\ pb + 1 < w'.heap.size) (z := 10) (by kernel_rfl) ?_
 show lec _ _ _ _ _ 11 _ _ _
 try simp only [List.size_toArray, List.length_cons, List.length_nil, Array.replicate]
 refine lec_takeT [3, 4, 5, 6, 7, 10] (i := 0) (v := ?v0y) rfl (by kernel_rfl) (by kernel_rfl) (by kernel_rfl) (by kernel_rfl) (fun c a w h => panicR h) (.inl ⟨by rfl, ?hy0y⟩) S8 ?rest0y
 case hy0y =>
  rintro w' ⟨g0, g1, g2, g3, g4, g5, g6, g7, g8, g9⟩
  go_simp
  all_goals with_reducible rfl
 try simp only [Act.put, List.getElem_toArray, List.getElem_cons_succ, List.getElem_cons_zero, List.setIfInBounds_toArray, List.set_cons_zero, List.set_cons_succ]
 refine lec_takeP (i := 1) (v := ?v1y) rfl (by kernel_rfl) (by kernel_rfl) (by kernel_rfl) (by kernel_rfl) (fun c a w h => panicR h) (.inl ⟨by rfl, ?hy1y⟩) S8 ?rest1y
 case hy1y =>
  rintro w' _
  go_simp
  all_goals with_reducible rfl
 try simp only [Act.put, List.getElem_toArray, List.getElem_cons_succ, List.getElem_cons_zero, List.setIfInBounds_toArray, List.set_cons_zero, List.set_cons_succ]
 refine lec_takeT [6, 7, 10] (i := 2) (v := ?v2y) rfl (by kernel_rfl) (by kernel_rfl) (by kernel_rfl) (by kernel_rfl) (fun c a w h => panicR h) (.inl ⟨by rfl, ?hy2y⟩) S8 ?rest2y
 case hy2y =>
  rintro w' ⟨g0, g1, g2, g3, g4, g5, g6, g7, g8, g9⟩
  go_simp
  all_goals with_reducible rfl
 try simp only [Act.put, List.getElem_toArray, List.getElem_cons_succ, List.getElem_cons_zero, List.setIfInBounds_toArray, List.set_cons_zero, List.set_cons_succ]
 refine lec_takeP (i := 3) (v := ?v3y) rfl (by kernel_rfl) (by kernel_rfl) (by kernel_rfl) (by kernel_rfl) (fun c a w h => panicR h) (.inl ⟨by rfl, ?hy3y⟩) S8 ?rest3y
 case hy3y =>
  rintro w' _
  go_simp
  all_goals with_reducible rfl
 try simp only [Act.put, List.getElem_toArray, List.getElem_cons_succ, List.getElem_cons_zero, List.setIfInBounds_toArray, List.set_cons_zero, List.set_cons_succ]
 refine lec_takeP (i := 4) (v := ?v4y) rfl (by kernel_rfl) (by kernel_rfl) (by kernel_rfl) (by kernel_rfl) (fun c a w h => panicR h) (.inl ⟨by rfl, ?hy4y⟩) S8 ?rest4y
 case hy4y =>
  rintro w' _
  go_simp
  all_goals with_reducible rfl
 try simp only [Act.put, List.getElem_toArray, List.getElem_cons_succ, List.getElem_cons_zero, List.setIfInBounds_toArray, List.set_cons_zero, List.set_cons_succ]
 refine lec_takeP (i := 5) (v := ?v5y) rfl (by kernel_rfl) (by kernel_rfl) (by kernel_rfl) (by kernel_rfl) (fun c a w h => panicR h) (.inl ⟨by rfl, ?hy5y⟩) S8 ?rest5y
 case hy5y =>
  rintro w' _
  go_simp
  all_goals with_reducible rfl
 try simp only [Act.put, List.getElem_toArray, List.getElem_cons_succ, List.getElem_cons_zero, List.setIfInBounds_toArray, List.set_cons_zero, List.set_cons_succ]
 refine lec_takeP (i := 6) (v := ?v6y) rfl (by kernel_rfl) (by kernel_rfl) (by kernel_rfl) (by kernel_rfl) (fun c a w h => panicR h) (.inl ⟨by rfl, ?hy6y⟩) S8 ?rest6y
 case hy6y =>
  rintro w' _
  go_simp
  all_goals with_reducible rfl
 try simp only [Act.put, List.getElem_toArray, List.getElem_cons_succ, List.getElem_cons_zero, List.setIfInBounds_toArray, List.set_cons_zero, List.set_cons_succ]
 refine lec_takeT [10] (i := 7) (v := ?v7y) rfl (by kernel_rfl) (by kernel_rfl) (by kernel_rfl) (by kernel_rfl) (fun c a w h => panicR h) (.inl ⟨by rfl, ?hy7y⟩) S8 ?rest7y
 case hy7y =>
  rintro w' ⟨g0, g1, g2, g3, g4, g5, g6, g7, g8, g9⟩
  go_simp
  all_goals with_reducible rfl
 try simp only [Act.put, List.getElem_toArray, List.getElem_cons_succ, List.getElem_cons_zero, List.setIfInBounds_toArray, List.set_cons_zero, List.set_cons_succ]
 refine lec_takeT [10] (i := 8) (v := ?v8y) rfl (by kernel_rfl) (by kernel_rfl) (by kernel_rfl) (by kernel_rfl) (fun c a w h => panicR h) (.inl ⟨by rfl, ?hy8y⟩) S8 ?rest8y
 case hy8y =>
  rintro w' ⟨g0, g1, g2, g3, g4, g5, g6, g7, g8, g9⟩
  go_simp
  all_goals with_reducible rfl
 try simp only [Act.put, List.getElem_toArray, List.getElem_cons_succ, List.getElem_cons_zero, List.setIfInBounds_toArray, List.set_cons_zero, List.set_cons_succ]
 refine lec_takeT [10] (i := 9) (v := ?v9y) rfl (by kernel_rfl) (by kernel_rfl) (by kernel_rfl) (by kernel_rfl) (fun c a w h => panicR h) (.inl ⟨by rfl, ?hy9y⟩) S8 ?rest9y
 case hy9y =>
  rintro w' ⟨g0, g1, g2, g3, g4, g5, g6, g7, g8, g9⟩
  go_simp
  all_goals with_reducible rfl
 try simp only [Act.put, List.getElem_toArray, List.getElem_cons_succ, List.getElem_cons_zero, List.setIfInBounds_toArray, List.set_cons_zero, List.set_cons_succ]
 refine lec_one (i := 10) rfl (by kernel_rfl) ?_
 intro K10 hK10
 rw [if_pos (by rfl)]
 go_simp
 rw [HOG.out.out]
 refine Calls.mono HI.out ?_
 rintro e w2 ⟨rfl, h2⟩
 have H2 : Hid _ := h2
 clear h2
 go_simp
 show Leaves _ _ _ _ _ _ _
 refine leaves_cons (f := 109) (args := #[.pointer (some ⟨pb, 0, none⟩)]) (by simp) (by simp [go_sem]) ?_
 refine CallsD.mono (R := fun e u' w' => e = .returned (.tuple #[]) /\ u' = .panicking [{ v := .iface 137 (.int .i64 k), recovered := true }] /\ ∃ d', Rm s d' w' (R.on.stuck k) /\ FooR s d d' w w') H2.out ?_
 rintro e u' w'' ⟨rfl, rfl, q⟩
 show Leaves _ _ _ _ [] .returning _
 simp only [Leaves, results, Tryz.results72]
 exact ⟨.tuple #[], by simp [go_sem], HQQ.out _ q⟩
end Go.Proofs.YtfofmmkihhnfmaaGreatDoor
