import Derived.Test.YtjiaedckecfjbaaDoorVfW
import Derived.Tactics
import Derived.Tactics2
import Derived.Defers
import Derived.Recover
set_option linter.unusedVariables false
set_option linter.unusedSimpArgs false
namespace Go.Proofs.YtjiaedckecfjbaaDoor
open Go.ChangeShapes Go.WideShapes Go.ChangeAt Go.RowKit Go.Maps Go.WideMaps

set_option maxRecDepth 100000 in
/-- The deferred closure, where nothing was thrown. -/
theorem catchC_idle (p q : Addr) (w : World) :
    CallsD Tryd.prog 19 #[.pointer (some p), .pointer (some q)] .returning w fun e u' w' => e = .returned (.tuple #[]) ∧ u' = .returning ∧ w' = w := by
  refine callsD_of_wpS Tryd.func19 rfl fun c₀ cs hu => ?_
  have hn : ∀ W : World, (binOp BinOp.neq 20 .nilIface .nilIface).run Tryd.prog W = .ok (.bool false) W := fun _ => by kernel_rfl
  apply wpS_seq
  apply wpS_region
  simp [wpOpsS, go_sem, recoverD, hu, Tryd.ntmps19, Exit.thenS]
  apply wpS_seq
  apply wpS_region
  simp [wpOpsS, go_sem, hn, Exit.thenS]
  refine wpS_cond (t := false) (by simp [Act.eval, Array.replicate]) ?_
  simp only [Bool.false_eq_true, if_false]
  refine wpS_of_wp (wp_skip ?_)
  cases c₀
  simp_all [bodyPostS, results, Tryd.results19]
set_option maxRecDepth 100000 in
set_option maxHeartbeats 1000000 in
/-- It tells the place. -/
theorem catchC_thr (w : World) (ab eb : Nat) (x y : Int) (ha : w.heap[ab]? = some (.cells #[.int .i64 x] 3 (0, 0))) (he : w.heap[eb]? = some (.cells #[.int .i64 y] 29 (0, 0))) (hne : ab ≠ eb) (k : Int) :
    CallsD Tryd.prog 19 #[.pointer (some ⟨ab, 0, none⟩), .pointer (some ⟨eb, 0, none⟩)] (.panicking [{ v := .iface 52 (.int .i64 k), recovered := false }]) w fun e u' w' => e = .returned (.tuple #[]) ∧ u' = .panicking [{ v := .iface 52 (.int .i64 k), recovered := true }] ∧ w' = (w.setCell ⟨ab, 0, none⟩ (.int .i64 k)).setCell ⟨eb, 0, none⟩ (.int .i64 220) := by
  have a0 : w.cell? ⟨ab, 0, none⟩ = some (.int .i64 x) := cell_arr ha rfl
  have a1 : w.frozen? ⟨ab, 0, none⟩ = false := fz_of ha
  have la := (Array.getElem?_eq_some_iff.1 ha).1
  have he2 : (w.setCell ⟨ab, 0, none⟩ (.int .i64 k)).heap[eb]? = some (.cells #[.int .i64 y] 29 (0, 0)) := (heap_set_other (Ne.symm hne)).trans he
  have e0 : (w.setCell ⟨ab, 0, none⟩ (.int .i64 k)).cell? ⟨eb, 0, none⟩ = some (.int .i64 y) := cell_arr he2 rfl
  have e1 : (w.setCell ⟨ab, 0, none⟩ (.int .i64 k)).frozen? ⟨eb, 0, none⟩ = false := fz_of he2
  have le := (Array.getElem?_eq_some_iff.1 he2).1
  clear ha he he2
  refine callsD_of_wpS Tryd.func19 rfl fun c₀ cs hu => ?_
  have hn : ∀ W : World, (binOp BinOp.neq 20 (.iface 52 (.int .i64 k)) .nilIface).run Tryd.prog W = .ok (.bool true) W := fun _ => by kernel_rfl
  have hta : ∀ W : World, (Instr.typeAssert (.iface 52 (.int .i64 k)) 20 52 false).run Tryd.prog W = .ok (.int .i64 k) W := fun _ => by kernel_rfl
  apply wpS_seq
  apply wpS_region
  simp [wpOpsS, go_sem, recoverD, hu, Tryd.ntmps19, Exit.thenS]
  apply wpS_seq
  apply wpS_region
  simp [wpOpsS, go_sem, hn, Exit.thenS]
  refine wpS_cond (t := true) (by simp [Act.eval, Array.replicate]) ?_
  simp only [if_true]
  refine wpS_of_wp ?_
  simp only [Array.replicate_succ, Array.replicate_zero, List.push_toArray, List.nil_append, List.cons_append, List.setIfInBounds_toArray, List.set_cons_succ, List.set_cons_zero, List.append_toArray]
  go_wp2_with fail
  cases c₀
  exact ⟨rfl, _, rfl, .tuple #[], by simp [results, Tryd.results19, go_sem], rfl, rfl, rfl⟩
/-- What Read answers. -/
structure ReadP (w w' : World) (n : Nat) (B : List Int) (e : Ending) : Prop where
  long : 268435456 < n → e = .returned (.tuple #[.agg #[.slice none 0 0, .slice none 0 0, .int .i64 0], .int .i64 0, .int .i64 2])
  ok : n ≤ 268435456 → ∀ main FS L, rdCode B = .ok (main, FS, L) → ∃ gi gf fc, e = .returned (.tuple #[.agg #[.slice (some ⟨gi, 0, none⟩) L.length L.length, .slice (some ⟨gf, 0, none⟩) FS.length fc, .int .i64 main], .int .i64 0, .int .i64 0]) ∧ w'.ownsRow w.heap.size 55 5 (.slice (some ⟨gi, 0, none⟩) L.length L.length) L.length (L.map riv).flatten ∧ Row w' w.heap.size 40 5 (.slice (some ⟨gf, 0, none⟩) FS.length fc) (FS.map rfv) ∧ gf < gi
  bad : n ≤ 268435456 → ∀ p, rdCode B = .error p → e = .returned (.tuple #[.agg #[.slice none 0 0, .slice none 0 0, .int .i64 0], .int .i64 (p : Int), .int .i64 220])
  low : Below w.heap.size w w'
theorem three_new (w : World) (o1 o2 o3 : Obj) : Below w.heap.size w (((w.alloc o1).alloc o2).alloc o3) ∧ (((w.alloc o1).alloc o2).alloc o3).heap[w.heap.size]? = some o1 ∧ (((w.alloc o1).alloc o2).alloc o3).heap[w.heap.size + 1]? = some o2 ∧ (((w.alloc o1).alloc o2).alloc o3).heap[w.heap.size + 2]? = some o3 ∧ (((w.alloc o1).alloc o2).alloc o3).heap.size = w.heap.size + 3 := by
  obtain ⟨q1, q2, q3, q4⟩ := two_new (W0 := w) w (o1 := o1) (o2 := o2) (Below.refl _ _) rfl
  have b := below_newX ((w.alloc o1).alloc o2) o3
  have s3 : (((w.alloc o1).alloc o2).alloc o3).heap.size = ((w.alloc o1).alloc o2).heap.size + 1 := Array.size_push _
  refine ⟨q1.trans (b.mono q1.size), (b.block _ (by omega)).trans q2, (b.block _ (by omega)).trans q3, ?_, by omega⟩
  have q := heap_alloc_new ((w.alloc o1).alloc o2) o3
  rw [q4] at q
  exact q
theorem loadVar_intC (W : World) (g : Nat) (v : Value) (hc : W.cell? ⟨g, 0, none⟩ = some v) : (loadVar 3 ⟨g, 0, none⟩).run Tryd.prog W = .ok v W := by
  simp [loadVar, go_sem, hc]
theorem loadVar_errC (W : World) (g : Nat) (v : Value) (hc : W.cell? ⟨g, 0, none⟩ = some v) : (loadVar 29 ⟨g, 0, none⟩).run Tryd.prog W = .ok v W := by
  simp [loadVar, go_sem, hc]
/-- The three results in their boxes. -/
structure RsS (W : World) (cb : Nat) (cs : Array Value) (x y : Value) : Prop where
  c : W.heap[cb]? = some (.cells cs 25 (0, 0))
  a : W.heap[cb + 1]? = some (.cells #[x] 3 (0, 0))
  e : W.heap[cb + 1 + 1]? = some (.cells #[y] 29 (0, 0))
  n : cs.size = 3
theorem RsS.below {W W' cb cs x y K} (h : RsS W cb cs x y) (b : Below K W W') (hk : cb + 3 ≤ K) : RsS W' cb cs x y := ⟨(b.block _ (by omega)).trans h.c, (b.block _ (by omega)).trans h.a, (b.block _ (by omega)).trans h.e, h.n⟩
theorem RsS.res {W cb cs x y} (h : RsS W cb cs x y) (tmps : Array Value) (hp : tmps.getD 2 undef = .pointer (some ⟨cb, 0, none⟩)) (hq : tmps.getD 3 undef = .pointer (some ⟨cb + 1, 0, none⟩)) (hr : tmps.getD 4 undef = .pointer (some ⟨cb + 1 + 1, 0, none⟩)) :
    (results Tryd.f13 tmps).run Tryd.prog W = .ok (.tuple #[.agg cs, x, y]) W := by
  have hp' : tmps[2]?.getD undef = .pointer (some ⟨cb, 0, none⟩) := by simpa using hp
  have hq' : tmps[3]?.getD undef = .pointer (some ⟨cb + 1, 0, none⟩) := by simpa using hq
  have hr' : tmps[4]?.getD undef = .pointer (some ⟨cb + 1 + 1, 0, none⟩) := by simpa using hr
  have e1 := loadVar_intC W (cb + 1) x (cell_arr h.a rfl)
  have e2 := loadVar_errC W (cb + 1 + 1) y (cell_arr h.e rfl)
  have e0 := run_loadVar_row (P := Tryd.prog) W cb 25 25 cs (0, 0) _ h.c Tryd.underlying25 rfl (by rw [h.n]; kernel_rfl)
  simp [results, Tryd.results13, hp', hq', hr', asAddr, e0, e1, e2]
/-- All three are stored. -/
theorem RsS.set {W cb cs x y} (h : RsS W cb cs x y) (u0 u1 u2 x' y' : Value) : RsS (((((W.setCell ⟨cb, 0, none⟩ u0).setCell ⟨cb, 1, none⟩ u1).setCell ⟨cb, 2, none⟩ u2).setCell ⟨cb + 1, 0, none⟩ x').setCell ⟨cb + 1 + 1, 0, none⟩ y') cb #[u0, u1, u2] x' y' := by
  obtain ⟨l, hl⟩ : ∃ l, cs.toList = l := ⟨_, rfl⟩
  have hc : cs = l.toArray := by rw [← hl]
  have hn := h.n
  subst hc
  match l, hn with
  | [a, b, c], _ =>
    have a0 := heap_set_at (i := 0) (v := u0) h.c
    have a1 := heap_set_at (i := 1) (v := u1) a0
    have a2 := heap_set_at (i := 2) (v := u2) a1
    have qa : ∀ V : World, V.heap[cb + 1]? = some (.cells #[x] 3 (0, 0)) → (V.setCell ⟨cb + 1, 0, none⟩ x').heap[cb + 1]? = some (.cells #[x'] 3 (0, 0)) := fun V hV => heap_set_at (i := 0) (v := x') hV
    have qe : ∀ V : World, V.heap[cb + 1 + 1]? = some (.cells #[y] 29 (0, 0)) → (V.setCell ⟨cb + 1 + 1, 0, none⟩ y').heap[cb + 1 + 1]? = some (.cells #[y'] 29 (0, 0)) := fun V hV => heap_set_at (i := 0) (v := y') hV
    refine ⟨?_, ?_, ?_, rfl⟩
    · rw [heap_set_other (by omega), heap_set_other (by omega)]
      exact a2
    · rw [heap_set_other (by omega)]
      refine qa _ ?_
      rw [heap_set_other (by omega), heap_set_other (by omega), heap_set_other (by omega)]
      exact h.a
    · refine qe _ ?_
      rw [heap_set_other (by omega), heap_set_other (by omega), heap_set_other (by omega), heap_set_other (by omega)]
      exact h.e
theorem RsS.told {W cb cs x y} (h : RsS W cb cs x y) (x' y' : Value) : RsS ((W.setCell ⟨cb + 1, 0, none⟩ x').setCell ⟨cb + 1 + 1, 0, none⟩ y') cb cs x' y' := by
  have qa : ∀ V : World, V.heap[cb + 1]? = some (.cells #[x] 3 (0, 0)) → (V.setCell ⟨cb + 1, 0, none⟩ x').heap[cb + 1]? = some (.cells #[x'] 3 (0, 0)) := fun V hV => heap_set_at (i := 0) (v := x') hV
  have qe : ∀ V : World, V.heap[cb + 1 + 1]? = some (.cells #[y] 29 (0, 0)) → (V.setCell ⟨cb + 1 + 1, 0, none⟩ y').heap[cb + 1 + 1]? = some (.cells #[y'] 29 (0, 0)) := fun V hV => heap_set_at (i := 0) (v := y') hV
  refine ⟨?_, ?_, ?_, h.n⟩
  · rw [heap_set_other (by omega), heap_set_other (by omega)]
    exact h.c
  · rw [heap_set_other (by omega)]
    exact qa _ h.a
  · refine qe _ ?_
    rw [heap_set_other (by omega)]
    exact h.e
theorem IBy.below {w w' ao n B} (h : IBy w ao n B) (b : Below w.heap.size w w') : IBy w' ao n B :=
  ⟨h.len, h.by_, fun hn => by
    obtain ⟨g, o, e, hl, hc⟩ := h.out hn
    exact ⟨g, o, e, Nat.lt_of_lt_of_le hl b.size, fun i hi => (b.cell (p := ⟨g, o + i, none⟩) hl).trans (hc i hi)⟩⟩
theorem below_sets {w W : World} {cb : Nat} (h : Below cb w W) (u0 u1 u2 x' y' : Value) : Below cb w (((((W.setCell ⟨cb, 0, none⟩ u0).setCell ⟨cb, 1, none⟩ u1).setCell ⟨cb, 2, none⟩ u2).setCell ⟨cb + 1, 0, none⟩ x').setCell ⟨cb + 1 + 1, 0, none⟩ y') :=
  ((((h.setCell (p := ⟨cb, 0, none⟩) (Nat.le_refl _) _).setCell (p := ⟨cb, 1, none⟩) (Nat.le_refl _) _).setCell (p := ⟨cb, 2, none⟩) (Nat.le_refl _) _).setCell (p := ⟨cb + 1, 0, none⟩) (by simp) _).setCell (p := ⟨cb + 1 + 1, 0, none⟩) (by simp; omega) _
theorem rows_sets {W : World} {cb : Nat} {B : Nat} {e : TypeId} {z n : Nat} {v : Value} {xs : List Value} (h : W.ownsRow B e z v n xs) (hB : cb + 3 ≤ B) (u0 u1 u2 x' y' : Value) : (((((W.setCell ⟨cb, 0, none⟩ u0).setCell ⟨cb, 1, none⟩ u1).setCell ⟨cb, 2, none⟩ u2).setCell ⟨cb + 1, 0, none⟩ x').setCell ⟨cb + 1 + 1, 0, none⟩ y').ownsRow B e z v n xs :=
  own_move h fun g hg => by
    have := (own_block h hg).1
    rw [heap_set_other (by omega), heap_set_other (by omega), heap_set_other (by omega), heap_set_other (by omega), heap_set_other (by omega)]
set_option maxRecDepth 100000 in
set_option maxHeartbeats 4000000 in
theorem rRead_any {w : World} {ao : Option Addr} {n cap : Nat} {B : List Int} (hB : IBy w ao n B) (hT : Tab w) (hcap : n ≤ cap ∧ cap ≤ 9223372036854775807 ∧ n ≤ 1000000000000000000) :
    Calls Tryd.prog 13 #[.slice ao n cap] w fun e w' => ReadP w w' n B e := by
  have HB : Hid (IBy w ao n B ∧ Tab w ∧ n ≤ cap ∧ cap ≤ 9223372036854775807 ∧ n ≤ 1000000000000000000) := ⟨hB, hT, hcap⟩
  obtain ⟨cb, hcb⟩ : ∃ cb, cb = w.heap.size := ⟨_, rfl⟩
  obtain ⟨W3, hW3⟩ : ∃ W3, W3 = ((w.alloc (.cells #[.slice none 0 0, .slice none 0 0, .int .i64 0] 25)).alloc (.cells #[.int .i64 0] 3)).alloc (.cells #[.int .i64 0] 29) := ⟨_, rfl⟩
  have H3 : Hid (Below cb w W3 ∧ W3.heap[cb]? = some (.cells #[.slice none 0 0, .slice none 0 0, .int .i64 0] 25 (0, 0)) ∧ W3.heap[cb + 1]? = some (.cells #[.int .i64 0] 3 (0, 0)) ∧ W3.heap[cb + 2]? = some (.cells #[.int .i64 0] 29 (0, 0)) ∧ W3.heap.size = cb + 3) := by rw [hW3, hcb]; exact three_new w _ _ _
  have HCB : Hid (cb = w.heap.size) := hcb
  have hcm : n ≤ 9223372036854775807 := by omega
  clear hB hT hcap
  have HR3 : Hid (RsS W3 cb #[.slice none 0 0, .slice none 0 0, .int .i64 0] (.int .i64 0) (.int .i64 0)) := ⟨H3.out.2.1, H3.out.2.2.1, H3.out.2.2.2.1, rfl⟩
  have hmf : ∀ (fn : Fn) (first cap : Array Value) (w : World), (Instr.makeFunc fn first cap).run Tryd.prog w = .ok (.func fn first cap) w := fun _ _ _ _ => rfl
  go_enter_defers Tryd.func13, Tryd.ntmps13
  go_upto_region 1 with fail
  rw [← hW3, ← hcb]
  clear hW3 hcb
  by_cases hn : 268435456 < n
  · have hni : decide ((268435456 : Int) < (n : Int)) = true := by simp; omega
    have c0 : W3.cell? ⟨cb, 0, none⟩ = some (.slice none 0 0) := cell_arr HR3.out.c rfl
    have z0 : W3.frozen? ⟨cb, 0, none⟩ = false := fz_of HR3.out.c
    have c1 : W3.cell? ⟨cb, 1, none⟩ = some (.slice none 0 0) := cell_arr HR3.out.c rfl
    have z1 : W3.frozen? ⟨cb, 1, none⟩ = false := fz_of HR3.out.c
    have c2 : W3.cell? ⟨cb, 2, none⟩ = some (.int .i64 0) := cell_arr HR3.out.c rfl
    have z2 : W3.frozen? ⟨cb, 2, none⟩ = false := fz_of HR3.out.c
    have c3 : W3.cell? ⟨cb + 1, 0, none⟩ = some (.int .i64 0) := cell_arr HR3.out.a rfl
    have z3 : W3.frozen? ⟨cb + 1, 0, none⟩ = false := fz_of HR3.out.a
    have c4 : W3.cell? ⟨cb + 1 + 1, 0, none⟩ = some (.int .i64 0) := cell_arr HR3.out.e rfl
    have z4 : W3.frozen? ⟨cb + 1 + 1, 0, none⟩ = false := fz_of HR3.out.e
    have lc := (Array.getElem?_eq_some_iff.1 HR3.out.c).1
    have la := (Array.getElem?_eq_some_iff.1 HR3.out.a).1
    have le := (Array.getElem?_eq_some_iff.1 HR3.out.e).1
    have q1 : ¬ (cb + 1 = cb) := by omega
    have q2 : ¬ (cb + 1 + 1 = cb) := by omega
    have q3 : ¬ (cb + 1 + 1 = cb + 1) := by omega
    have HN : Hid (268435456 < n) := hn
    clear hn
    go_wp2_with fail
    simp only [bodyPostD, Leaves]
    refine ⟨_, (HR3.out.set _ _ _ _ _).res _ rfl rfl rfl, fun _ => rfl, fun h => absurd h (by have := HN.out; omega), fun h => absurd h (by have := HN.out; omega), ?_⟩
    rw [← HCB.out]
    exact below_sets H3.out.1 _ _ _ _ _
  · have hni : decide ((268435456 : Int) < (n : Int)) = false := by simp; omega
    have HN : Hid (n ≤ 268435456) := by show _ ≤ _; omega
    clear hn
    obtain ⟨W4, hW4⟩ : ∃ W4, W4 = W3.alloc (.cells #[.slice ao n cap, .int .i64 0] 53) := ⟨_, rfl⟩
    obtain ⟨rb, hrb⟩ : ∃ rb, rb = W3.heap.size := ⟨_, rfl⟩
    have b4 : Below W3.heap.size W3 W4 := by rw [hW4]; exact below_newX _ _
    have HRD : Hid (Rd W3 W4 rb ao n cap B 0) := by
      have b3 : Below w.heap.size w W3 := by rw [← HCB.out]; exact H3.out.1
      exact ⟨by rw [hW4, hrb]; exact heap_alloc_new _ _, HB.out.1.below b3, b4, by rw [hrb]; exact Nat.le_refl _, HB.out.2.2, Nat.zero_le _⟩
    have HC : Hid (Calls Tryd.prog 20 #[.pointer (some ⟨rb, 0, none⟩)] W4 fun e w' => CodP W3 W4 w' B e) := by
      have b3 : Below w.heap.size w W3 := by rw [← HCB.out]; exact H3.out.1
      exact rCode_any HRD.out (HB.out.2.1.below b3 HB.out.2.1.1) HN.out
    have HZ4 : Hid (W3.heap.size ≤ W4.heap.size) := b4.size
    go_upto_region 5 with fail
    rw [← hW4, ← hrb]
    clear hW4 hrb b4
    cases hr : rdCode B with
    | error p =>
      have HR : Hid (rdCode B = .error p) := hr
      clear hr
      go_wp2_with fail
      refine Calls.mono HC.out ?_
      intro e w5 q
      have HR5 : Hid (RsS w5 cb #[.slice none 0 0, .slice none 0 0, .int .i64 0] (.int .i64 0) (.int .i64 0)) := HR3.out.below q.low (by rw [H3.out.2.2.2.2]; exact Nat.le_refl _)
      have HL5 : Hid (Below cb w w5) := H3.out.1.trans (q.low.mono (by rw [H3.out.2.2.2.2]; omega))
      have hq := q.bad p HR.out
      subst hq
      clear q HC
      unfold thrC
      go_wp2_with fail
      show Leaves _ _ _ _ _ _ _
      refine leaves_cons (f := 19) (args := #[.pointer (some ⟨cb + 1, 0, none⟩), .pointer (some ⟨cb + 1 + 1, 0, none⟩)]) (by simp) (by simp [go_sem]) ?_
      refine (catchC_thr w5 (cb + 1) (cb + 1 + 1) 0 0 HR5.out.a HR5.out.e (by omega) p).mono ?_
      rintro e u' w'' ⟨rfl, rfl, rfl⟩
      show Leaves _ _ _ _ [] .returning _
      refine ⟨_, (HR5.out.told _ _).res _ rfl rfl rfl, fun h => absurd h (by have := HN.out; omega), fun _ _ _ _ hv => (by rw [HR.out] at hv; cases hv), fun _ p' hp => (by rw [HR.out] at hp; cases hp; rfl), ?_⟩
      rw [← HCB.out]
      exact (HL5.out.setCell (p := ⟨cb + 1, 0, none⟩) (by simp) _).setCell (p := ⟨cb + 1 + 1, 0, none⟩) (by simp; omega) _
    | ok X =>
      obtain ⟨main, FS, L⟩ := X
      have HR : Hid (rdCode B = .ok (main, FS, L)) := hr
      clear hr
      go_wp2_with fail
      refine Calls.mono HC.out ?_
      intro e w5 q
      have HR5 : Hid (RsS w5 cb #[.slice none 0 0, .slice none 0 0, .int .i64 0] (.int .i64 0) (.int .i64 0)) := HR3.out.below q.low (by rw [H3.out.2.2.2.2]; exact Nat.le_refl _)
      have HL5 : Hid (Below cb w w5) := H3.out.1.trans (q.low.mono (by rw [H3.out.2.2.2.2]; omega))
      obtain ⟨gi, fa, fc, he, hro, hrf, gf, hfa, hlt⟩ := q.ok main FS L HR.out
      subst hfa
      have HRO : Hid (w5.ownsRow W4.heap.size 55 5 (.slice (some ⟨gi, 0, none⟩) L.length L.length) L.length (L.map riv).flatten ∧ Row w5 W4.heap.size 40 5 (.slice (some ⟨gf, 0, none⟩) FS.length fc) (FS.map rfv) ∧ gf < gi) := ⟨hro, hrf, hlt⟩
      subst he
      clear q HC hro hrf hlt
      have c0 : w5.cell? ⟨cb, 0, none⟩ = some (.slice none 0 0) := cell_arr HR5.out.c rfl
      have z0 : w5.frozen? ⟨cb, 0, none⟩ = false := fz_of HR5.out.c
      have c1 : w5.cell? ⟨cb, 1, none⟩ = some (.slice none 0 0) := cell_arr HR5.out.c rfl
      have z1 : w5.frozen? ⟨cb, 1, none⟩ = false := fz_of HR5.out.c
      have c2 : w5.cell? ⟨cb, 2, none⟩ = some (.int .i64 0) := cell_arr HR5.out.c rfl
      have z2 : w5.frozen? ⟨cb, 2, none⟩ = false := fz_of HR5.out.c
      have c3 : w5.cell? ⟨cb + 1, 0, none⟩ = some (.int .i64 0) := cell_arr HR5.out.a rfl
      have z3 : w5.frozen? ⟨cb + 1, 0, none⟩ = false := fz_of HR5.out.a
      have c4 : w5.cell? ⟨cb + 1 + 1, 0, none⟩ = some (.int .i64 0) := cell_arr HR5.out.e rfl
      have z4 : w5.frozen? ⟨cb + 1 + 1, 0, none⟩ = false := fz_of HR5.out.e
      have lc := (Array.getElem?_eq_some_iff.1 HR5.out.c).1
      have la := (Array.getElem?_eq_some_iff.1 HR5.out.a).1
      have le := (Array.getElem?_eq_some_iff.1 HR5.out.e).1
      have q1 : ¬ (cb + 1 = cb) := by omega
      have q2 : ¬ (cb + 1 + 1 = cb) := by omega
      have q3 : ¬ (cb + 1 + 1 = cb + 1) := by omega
      obtain ⟨nl, hnl⟩ : ∃ nl, nl = L.length := ⟨_, rfl⟩
      obtain ⟨nf, hnf⟩ : ∃ nf, nf = FS.length := ⟨_, rfl⟩
      have HNL : Hid (nl = L.length) := hnl
      have HNF : Hid (nf = FS.length) := hnf
      rw [← hnl, ← hnf] at HRO
      rw [← hnl, ← hnf]
      clear hnl hnf
      go_wp2_with fail
      refine leaves_cons (f := 19) (args := #[.pointer (some ⟨cb + 1, 0, none⟩), .pointer (some ⟨cb + 1 + 1, 0, none⟩)]) (by simp) (by simp [go_sem]) ?_
      refine (catchC_idle ⟨cb + 1, 0, none⟩ ⟨cb + 1 + 1, 0, none⟩ _).mono ?_
      rintro e u' w'' ⟨rfl, rfl, rfl⟩
      show Leaves _ _ _ _ [] .returning _
      refine ⟨_, (HR5.out.set _ _ _ _ _).res _ rfl rfl rfl, fun h => absurd h (by have := HN.out; omega), fun _ main' FS' L' hv => ?_, fun _ p' hp => (by rw [HR.out] at hp; cases hp), ?_⟩
      · rw [HR.out] at hv
        cases hv
        have k3 := H3.out.2.2.2.2
        have k4 := HZ4.out
        have kc := HCB.out
        rw [← HNL.out, ← HNF.out]
        exact ⟨gi, gf, fc, rfl, own_baseF (rows_sets HRO.out.1 (by omega) _ _ _ _ _) (by omega), ⟨own_baseF (rows_sets HRO.out.2.1.out (by omega) _ _ _ _ _) (by omega), HRO.out.2.1.len⟩, HRO.out.2.2⟩
      · rw [← HCB.out]
        exact below_sets HL5.out _ _ _ _ _
end Go.Proofs.YtjiaedckecfjbaaDoor
