import Derived.Test.YtjiaedckecfjbaaDoorVfU
import Derived.OwnWalkIn
set_option linter.unusedVariables false
set_option linter.unusedSimpArgs false
namespace Go.Proofs.YtjiaedckecfjbaaDoor
open Go.ChangeShapes Go.WideShapes Go.ChangeAt Go.RowKit Go.Maps Go.WideMaps
attribute [local go_sem] Oper.semAt_some

/-- What AppendSeq holds between two rounds: its box, the row in it. -/
structure ApS (W : World) (sx sb N : Nat) (base : Nat) (pre : List Ri) : Prop where
  box : W.heap[sx]? = some (.cells #[.slice (some ⟨sb, 0, none⟩) pre.length N] 22 (0, 0))
  row : W.ownsRow base 55 5 (.slice (some ⟨sb, 0, none⟩) pre.length N) pre.length (pre.map riv).flatten
theorem ApS.move {W W' sx sb N base pre} {F : Nat → Prop} (h : ApS W sx sb N base pre) (o : Only F W W') (h1 : ¬ F sx) (h2 : ¬ F sb) : ApS W' sx sb N base pre := by
  refine ⟨(o.block _ (Array.getElem?_eq_some_iff.1 h.box).1 h1).trans h.box, own_move h.row fun g hg => ?_⟩
  have e : g = sb := by
    simp [Value.ownBlock] at hg
    exact hg.symm
  have := own_block h.row hg
  exact o.block g this.2 (by rw [e]; exact h2)
set_option maxRecDepth 100000 in
set_option maxHeartbeats 4000000 in
theorem appendSeq_any {w0 w : World} {rb : Nat} {ao : Option Addr} {n cap next gb hb sb N base : Nat} {B : List Int} {fa : Option Addr} {fc : Nat} {FS : List Rf} {L0 : List Ri} {q0 : Nat}
    (h : SqS w0 w w rb ao n cap B gb hb fa fc FS (fun q => q = sb) next) (hn : n ≤ 900000000) (hfl : FS.length ≤ 900000000) (hg : ∀ f ∈ FS, GoodF f) (hfa : ∀ b o, fa = some ⟨b, o, none⟩ → b < w.heap.size)
    (hr : rdIns B FS.length FS next = .ok (L0, q0)) (hN : L0.length = N) (hrow : w.ownsRow base 55 5 (.slice (some ⟨sb, 0, none⟩) 0 N) 0 []) :
    Calls Tryd.prog 34 #[.slice (some ⟨sb, 0, none⟩) 0 N, .func (.func 45) #[] #[.pointer (some ⟨gb, 0, none⟩), .pointer (some ⟨hb, 0, none⟩)]] w fun e w' => e = .returned (.slice (some ⟨sb, 0, none⟩) N N) ∧ w'.ownsRow base 55 5 (.slice (some ⟨sb, 0, none⟩) N N) N (L0.map riv).flatten ∧ Rd w0 w' rb ao n cap B q0 ∧ Only (fun q => q = rb ∨ q = sb) w w' := by
  have HS : Hid (SqS w0 w w rb ao n cap B gb hb fa fc FS (fun q => q = sb) next) := h
  have HG : Hid (n ≤ 900000000 ∧ FS.length ≤ 900000000 ∧ (∀ f ∈ FS, GoodF f) ∧ ∀ b o, fa = some ⟨b, o, none⟩ → b < w.heap.size) := ⟨hn, hfl, hg, hfa⟩
  have HR : Hid (rdIns B FS.length FS next = .ok (L0, q0) ∧ L0.length = N) := ⟨hr, hN⟩
  have HO : Hid (w.ownsRow base 55 5 (.slice (some ⟨sb, 0, none⟩) 0 N) 0 []) := hrow
  clear h hn hfl hg hfa hr hN hrow
  refine callsIn_wide.1 (callsIn_of_wp_marks (n := 5) Tryd.func34 rfl trivial ?_ rfl)
  refine wpIn_wide.2 ?_
  simp only [Tryd.ntmps34, List.size_toArray, List.length_cons, List.length_nil, Nat.reduceAdd, Nat.reduceSub, Array.replicate_succ, Array.replicate_zero, List.push_toArray, List.append_toArray, List.nil_append, List.cons_append]
  go_wp2_with fail
  obtain ⟨W0, hW0⟩ : ∃ W0, W0 = w.alloc (.cells #[.slice (some ⟨sb, 0, none⟩) 0 N] 22) := ⟨_, rfl⟩
  obtain ⟨sx, hsx⟩ : ∃ sx, sx = w.heap.size := ⟨_, rfl⟩
  have b0 : Below w.heap.size w W0 := by rw [hW0]; exact below_newX _ _
  have z0 : W0.heap.size = sx + 1 := by rw [hW0, hsx]; exact Array.size_push _
  have hx0 : W0.heap[sx]? = some (.cells #[.slice (some ⟨sb, 0, none⟩) 0 N] 22 (0, 0)) := by rw [hW0, hsx]; exact heap_alloc_new _ _
  rw [← hW0, ← hsx]
  have lrb : rb < w.heap.size := (Array.getElem?_eq_some_iff.1 HS.out.rd.box).1
  have lgb : gb < w.heap.size := (Array.getElem?_eq_some_iff.1 HS.out.gbx).1
  have lhb : hb < w.heap.size := (Array.getElem?_eq_some_iff.1 HS.out.hbx).1
  have lsb : sb < w.heap.size := (own_block HO.out rfl).2
  have nsb : rb ≠ sb := HS.out.nf.1
  have l0 : w0.heap.size ≤ w.heap.size := HS.out.rd.low.size
  have hS0 : SqS w0 W0 W0 rb ao n cap B gb hb fa fc FS (fun q => q = sb ∨ q = sx) next := by
    have q := HS.out.keep b0
    refine ⟨q.rd, q.gbx, q.hbx, q.fs, q.pl, ⟨?_, ?_, ?_, fun b o e1 => ?_⟩, fun k e => ?_, Only.refl _ _⟩
    · rintro (e | e)
      · exact nsb e
      · omega
    · rintro (e | e)
      · exact HS.out.nf.2.1 e
      · omega
    · rintro (e | e)
      · exact HS.out.nf.2.2.1 e
      · omega
    · rintro (e | e)
      · exact HS.out.nf.2.2.2 b o e1 e
      · have := HG.out.2.2.2 b o e1
        omega
    · rcases e with e | e
      · have := (HS.out.fl k e).1
        omega
      · omega
  have hI0 : ApS W0 sx sb N base [] := ⟨hx0, own_move HO.out fun g hg => b0.block g (own_block HO.out hg).2⟩
  refine wp_rangeIns (Fb := fun q => q = sb ∨ q = sx) hS0 HG.out.1 HG.out.2.1 HG.out.2.2.1 (fun b o e => by have := HG.out.2.2.2 b o e; omega) rfl rfl
    (fun pre W => ApS W sx sb N base pre) ?hI hI0
    (fun x a' W => ∃ vb, sx + 3 ≤ vb ∧ W.heap[vb]? = some (.cells #[.int .i64 x.op, .int .i64 x.a, .int .i64 x.b, .int .i64 x.c, .int .i64 x.n] 55 (0, 0)) ∧ a' = { tmps := #[.slice (some ⟨sb, 0, none⟩) 0 N, .func (.func 45) #[] #[.pointer (some ⟨gb, 0, none⟩), .pointer (some ⟨hb, 0, none⟩)], .pointer (some ⟨sx, 0, none⟩), undef, .slice none 0 0, .pointer (some ⟨vb, 0, none⟩), .func (.func 45) #[] #[.pointer (some ⟨gb, 0, none⟩), .pointer (some ⟨hb, 0, none⟩)], insV x, undef, undef, undef, undef, undef], defers := [] }) ?hAx ?assign ?body ?ok ?bad
  case hI =>
    intro pre A A' hi o
    exact hi.move o (by omega) (by omega)
  case hAx =>
    rintro x a' A A' ⟨vb, h1, h2, h3⟩ o
    exact ⟨vb, h1, (o.block _ (Array.getElem?_eq_some_iff.1 h2).1 (by omega)).trans h2, h3⟩
  case assign =>
    intro l pre x W K hi hlt hK
    unfold insV
    clear hS0 hI0 hx0 hW0 hsx
    gi_wp2_with fail
    exact hK _ _ ⟨W.heap.size, by omega, heap_alloc_new _ _, rfl⟩ (hi.move (Only.of_below (below_newX W _) (fun _ => False)) id id) (below_newX _ _)
  case body =>
    rintro l pre x a' W ⟨vb, h1, h2, rfl⟩ hi hlen hpre
    clear hS0 hI0 hx0 hW0
    have hsz : pre.length + 1 ≤ N := by
      obtain ⟨R, e⟩ := hpre L0 q0 HR.out.1
      have e2 := HR.out.2
      rw [e] at e2
      simp at e2
      omega
    have nsx : sx ≠ sb := by omega
    have b0 : W.cell? ⟨sx, 0, none⟩ = some (.slice (some ⟨sb, 0, none⟩) pre.length N) := cell_arr hi.box rfl
    have lx := (Array.getElem?_eq_some_iff.1 hi.box).1
    have lv := (Array.getElem?_eq_some_iff.1 h2).1
    have v0 : W.cell? ⟨vb, 0, none⟩ = some (.int .i64 x.op) := cell_arr h2 rfl
    have v1 : W.cell? ⟨vb, 1, none⟩ = some (.int .i64 x.a) := cell_arr h2 rfl
    have v2 : W.cell? ⟨vb, 2, none⟩ = some (.int .i64 x.b) := cell_arr h2 rfl
    have v3 : W.cell? ⟨vb, 3, none⟩ = some (.int .i64 x.c) := cell_arr h2 rfl
    have v4 : W.cell? ⟨vb, 4, none⟩ = some (.int .i64 x.n) := cell_arr h2 rfl
    have HI : Hid (ApS W sx sb N base pre) := hi
    have HB : Hid (Below W.heap.size W (W.alloc (.cells #[.int .i64 x.op, .int .i64 x.a, .int .i64 x.b, .int .i64 x.c, .int .i64 x.n] 55))) := below_newX _ _
    have HRW : Hid ((W.alloc (.cells #[.int .i64 x.op, .int .i64 x.a, .int .i64 x.b, .int .i64 x.c, .int .i64 x.n] 55)).ownsRow base 55 5 (.slice (some ⟨sb, 0, none⟩) pre.length N) pre.length (pre.map riv).flatten) := own_move hi.row fun g hg => HB.out.block g (own_block hi.row hg).2
    have HZ : Hid (pre.length + 1 ≤ N ∧ sx ≠ sb) := ⟨hsz, nsx⟩
    obtain ⟨i0, hif, hz0, hz1, hz2⟩ := info_parts (show (Tryd.prog.info? 55).map (fun i => (i.zero, i.size, i.bytes)) = some (some (.agg #[.int .i64 0, .int .i64 0, .int .i64 0, .int .i64 0, .int .i64 0]), 5, 40) by kernel_rfl)
    have HIF : Hid (Tryd.prog.info? 55 = some i0 ∧ i0.size = 5) := ⟨hif, hz1⟩
    clear hi hsz nsx hif hz0 hz1 hz2 hpre hlen h2 hsx lrb lgb lhb lsb nsb l0 z0
    gi_wp2_with (gi_at_builtin; refine wpListIn_append_fits _ rfl _ _ 22 rfl base 55 i0 5 Tryd.underlying22 HIF.out.1 HIF.out.2 sb pre.length N (pre.map riv).flatten rfl HRW.out ⟨W.heap.size, 0, none⟩ 1 1 [.int .i64 x.op, .int .i64 x.a, .int .i64 x.b, .int .i64 x.c, .int .i64 x.n] rfl rfl (cell_list_new _ _ _) (fun u hu => by simp at hu; rcases hu with rfl | rfl | rfl | rfl | rfl <;> rfl) HZ.out.1 ?_; intro w4 h4 g4; have HH4 : Hid _ := h4; have HG4 : Hid _ := g4; have x4 : w4.heap[sx]? = some (.cells #[.slice (some ⟨sb, 0, none⟩) pre.length N] 22 (0, 0)) := (g4.block sx (Nat.lt_of_lt_of_le (Array.getElem?_eq_some_iff.1 HI.out.box).1 HB.out.size) (fun e => HZ.out.2 (by injection e with e))).trans ((HB.out.block _ (Array.getElem?_eq_some_iff.1 HI.out.box).1).trans HI.out.box); have HX4 : Hid _ := x4; have c4 : w4.cell? ⟨sx, 0, none⟩ = some (.slice (some ⟨sb, 0, none⟩) pre.length N) := cell_arr x4 rfl; have f4 : w4.frozen? ⟨sx, 0, none⟩ = false := fz_of x4; have l4 := (Array.getElem?_eq_some_iff.1 x4).1; clear h4 g4 x4)
    refine ⟨⟨?_, ?_⟩, ?_⟩
    · have q := heap_set_at (i := 0) (v := .slice (some ⟨sb, 0, none⟩) (pre.length + 1) N) HX4.out
      rw [List.length_append]
      exact q
    · rw [List.length_append, List.map_append, List.flatten_append]
      refine own_move HH4.out fun g hg => heap_set_other ?_
      have e : g = sb := by
        simp [Value.ownBlock] at hg
        exact hg.symm
      rw [e]
      exact fun e => HZ.out.2 e.symm
    · exact ((Only.of_below HB.out _).on ((Only.of_grown HG4.out).mono fun i _ e => .inl (by injection e with e; exact e.symm))).on ((Only.of_set w4 ⟨sx, 0, none⟩ _).mono fun i _ e => .inr e)
  case ok =>
    intro L q W hr hi hrd ho hD
    rw [HR.out.1] at hr
    cases hr
    have HD : Hid _ := hD
    have HZ0 : Hid (w.heap.size ≤ W0.heap.size) := b0.size
    have HI : Hid _ := hi
    have HRD : Hid (Rd w0 W rb ao n cap B q0) := hrd
    have HOO : Hid (Only (fun q => q = rb ∨ q = sb) w W) := (Only.of_below b0 (fun q => q = rb ∨ q = sb)).trans ho fun i hi e => by
      rcases e with e | e | e
      · exact .inl e
      · exact .inr e
      · omega
    have c0 : W.cell? ⟨sx, 0, none⟩ = some (.slice (some ⟨sb, 0, none⟩) L0.length N) := cell_arr hi.box rfl
    have lx := (Array.getElem?_eq_some_iff.1 hi.box).1
    clear hS0 hI0 hx0 hW0 hi hrd ho hD hsx lrb lgb lhb lsb nsb l0 z0 b0
    go_wp2_with fail
    have o9 : Only (fun q => q = W0.heap.size) W (W.putObj W0.heap.size (.deferred none)) := only_put _ _ _
    have lD : w.heap.size ≤ W0.heap.size := HZ0.out
    refine ⟨by simp, .inl ⟨_, _, rfl, run_takeDeferred HD.out, ?_⟩⟩
    refine ⟨_, results_tmp rfl _ _ _, ?_, ?_, ?_, ?_⟩
    · show _ = _
      rw [HR.out.2]
      rfl
    · have q := HI.out.row
      rw [HR.out.2] at q
      refine own_move q fun g hg => o9.block g (own_block q hg).2 ?_
      have e : g = sb := by
        simp [Value.ownBlock] at hg
        exact hg.symm
      rw [e]
      have q2 : sb < w.heap.size := (own_block HO.out rfl).2
      omega
    · exact HRD.out.only o9 (by have := (Array.getElem?_eq_some_iff.1 HS.out.rd.box).1; omega) (fun k hk => by have hk : k = W0.heap.size := hk; have := HS.out.rd.low.size; omega)
    · refine HOO.out.trans o9 fun i hi e => ?_
      have e : i = W0.heap.size := e
      omega
  case bad =>
    intro p W hr
    rw [HR.out.1] at hr
    cases hr
end Go.Proofs.YtjiaedckecfjbaaDoor
