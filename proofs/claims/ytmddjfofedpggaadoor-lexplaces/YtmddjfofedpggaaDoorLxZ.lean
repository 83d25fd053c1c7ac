import Derived.Test.YtmddjfofedpggaaDoorLxY
set_option linter.unusedVariables false
namespace Go.Proofs.YtmddjfofedpggaaDoor
open Go.ChangeShapes Go.WideShapes Go.ChangeAt Go.RowKit

theorem lexPlaces_long (a : Option Addr) (len cap : Nat) (h : 1048576 < len) (hl : len ≤ 9223372036854775807) (w : World) : Calls Tryd.prog 7 #[.slice a len cap] w fun e w' => e = .returned (.bool true) ∧ Below w.heap.size w w' := by
  go_enter Tryd.func7, Tryd.ntmps7
  go_wp2
  go_ret
  exact ⟨rfl, Below.refl _ _⟩

structure EP (ts : List T) (i E : Nat) : Prop where
  out : ∀ hi : i < ts.length, E ≤ ts[i].pos

theorem box_cell (w : World) (a b c d : Value) (t : TypeId) {u : World} (hb : Below (w.alloc (.cells #[a, b, c, d] t)).heap.size (w.alloc (.cells #[a, b, c, d] t)) u) :
    u.cell? ⟨w.heap.size, 0, none⟩ = some a ∧ u.cell? ⟨w.heap.size, 1, none⟩ = some b ∧ u.cell? ⟨w.heap.size, 2, none⟩ = some c ∧ u.cell? ⟨w.heap.size, 3, none⟩ = some d ∧ u.heap[w.heap.size]? = some (.cells #[a, b, c, d] t (0, 0)) := by
  have h : u.heap[w.heap.size]? = some (.cells #[a, b, c, d] t (0, 0)) := (hb.block w.heap.size (by simp)).trans (heap_alloc_last _ _)
  exact ⟨cell_arr h rfl, cell_arr h rfl, cell_arr h rfl, cell_arr h rfl, h⟩
theorem box_set {w : World} {g : Nat} {a b c d x : Value} {t : TypeId} (h : w.heap[g]? = some (.cells #[a, b, c, d] t (0, 0))) :
    (w.setCell ⟨g, 1, none⟩ x).cell? ⟨g, 0, none⟩ = some a ∧ (w.setCell ⟨g, 1, none⟩ x).cell? ⟨g, 1, none⟩ = some x ∧ (w.setCell ⟨g, 1, none⟩ x).cell? ⟨g, 2, none⟩ = some c ∧ (w.setCell ⟨g, 1, none⟩ x).cell? ⟨g, 3, none⟩ = some d := by
  have h2 := Joins.block_setCell (i := 1) h x
  exact ⟨cell_arr h2 rfl, cell_arr h2 rfl, cell_arr h2 rfl, cell_arr h2 rfl⟩
theorem TokV.set {w ao ts} (h : TokV w ao ts) {p : Addr} (hp : ∀ g, ao = some ⟨g, 0, none⟩ → g ≠ p.block) (u : Value) : TokV (w.setCell p u) ao ts := ⟨fun hn => by
  obtain ⟨g, e, hg, hc⟩ := h.out hn
  refine ⟨g, e, by simpa using hg, fun i hi => ?_⟩
  have hb := Below.heap_setCell w p u g (hp g e)
  obtain ⟨a, b, c, d⟩ := hc i hi
  exact ⟨(World.cell?_of_block (w := w) hb).trans a, (World.cell?_of_block (w := w) hb).trans b, (World.cell?_of_block (w := w) hb).trans c, (World.cell?_of_block (w := w) hb).trans d⟩⟩
theorem num_quiet (z : Int) (w : World) : Calls Tryd.prog 16 #[.int .i64 z] w fun e w' => e = .returned (.int .i64 z) ∧ w' = w := (num_any z w).mono fun _ _ h => ⟨h.1, h.2.symm⟩

set_option maxRecDepth 10000 in
set_option maxHeartbeats 4000000 in
theorem lexPlaces_any (w : World) (hTab : Tab w) (ao : Option Addr) (cap n : Nat) (L : List UInt8) (hn : n = L.length) (hT : Txt w ao cap L) (hl : n ≤ 1048576) :
    Calls Tryd.prog 7 #[.slice ao n cap] w fun e w' => e = .returned (.bool true) ∧ Below w.heap.size w w' := by
  have HN : Hid (n = L.length) := hn
  clear hn
  have hc1 : n ≤ cap := by have := hT.1; have := HN.out; omega
  have hc2 := hT.2.1
  go_enter Tryd.func7, Tryd.ntmps7
  go_wp2_with fail
  refine (tokens_at _ hTab ao cap n L HN.out hT (by omega)).mono ?_
  rintro r w1 ⟨ts, p, e, v, hL, rfl, hown, hb1⟩
  have hs1 := hb1.size
  obtain ⟨a1, c1, rfl, q1, q2, hv⟩ := hown.view
  go_wp2_with fail
  refine (alive_any _ (hTab.below hb1 hTab.1)).mono ?_
  rintro r w2 ⟨rfl, hb2⟩
  have hs2 := hb2.size
  have hb2w : Below w.heap.size w w2 := hb1.trans (hb2.mono hs1)
  have hv2 := hv.below hb2 (Nat.le_refl _)
  have hE : (e = 0 ∧ p = 0) ∨ ((e = 20 ∨ e = 21 ∨ e = 22) ∧ p < n) := by
    rcases hL.range with h | ⟨h, _, h2⟩
    · exact .inl h
    · exact .inr ⟨h, by have := HN.out; omega⟩
  have hSP := hL.span
  obtain ⟨tl, htl⟩ : ∃ tl, tl = ts.length := ⟨_, rfl⟩
  have HTL : Hid (tl = ts.length) := htl
  rw [← htl] at q1
  have hLP : ∀ a b c, Value.slice a ts.length b = c → Value.slice a tl b = c := by rw [htl]; exact fun _ _ _ h => h
  rw [← htl]
  clear hLP htl
  have HSP : Hid (∀ i (hi : i < ts.length), ∃ m, Shp ts[i].kind ts[i].val ts[i].name m ∧ 0 < m ∧ 0 ≤ ts[i].pos ∧ ts[i].pos - 0 + m ≤ L.length ∧ (e ≠ 0 → ts[i].pos + m ≤ p) ∧ Lexes 0 ((L.drop (ts[i].pos - 0)).take m) [⟨ts[i].kind, 0, ts[i].val, ts[i].name⟩] 0 0 ∧ (∀ hi' : i + 1 < ts.length, ts[i].pos + m ≤ ts[i + 1].pos)) := hSP
  clear hSP hL hown hv
  have HP : Hid (e ≠ 0 → p < n) := by
    intro h; rcases hE with ⟨h0, _⟩ | ⟨_, h2⟩
    · exact absurd h0 h
    · exact h2
  rcases hE with ⟨rfl, rfl⟩ | ⟨hE, hp⟩
  rotate_left
  have he1 : ((e : Int) != 0) = true := by simp; omega
  have he0 : ((e : Int) == 0) = false := by simp; omega
  have he2 : decide ((e : Int) < 20) = false := by simp; omega
  have he3 : decide ((22 : Int) < (e : Int)) = false := by simp; omega
  have he4 : decide ((p : Int) < 0) = false := by simp
  have he5 : decide (n ≤ p) = false := by simp; omega
  rotate_left
  all_goals
    go_wp2_with (first | (go_at_call 16; refine (num_any _ _).mono ?_; rintro r w' ⟨rfl, rfl⟩) | fail)
    go_loopw [6, 7] (fun E c wr => ∃ (i F : Nat), i ≤ tl ∧ c = .int .i64 i ∧ E = .int .i64 F ∧ EP ts i F ∧ Below w.heap.size w wr ∧ TokV wr a1 ts) (fun _ c _ => tl - (intOf c).toNat)
    case atStart => exact ⟨0, 0, by omega, rfl, rfl, ⟨fun _ => Nat.zero_le _⟩, hb2w, hv2⟩
    case round =>
      obtain ⟨i, F, hi, rfl, rfl, HEP, hbr, hvr⟩ := hrel
      by_cases hlt : i < tl
      · have hilt : i < ts.length := by have := HTL.out; omega
        obtain ⟨m, hshp, hm0, _, hml, hme, hone, hnext⟩ := HSP.out i hilt
        obtain ⟨t, ht⟩ : ∃ t, t = ts[i] := ⟨_, rfl⟩
        have hF : F ≤ t.pos := by rw [ht]; exact HEP.out hilt
        obtain ⟨g1, rfl, hg1, k1⟩ := hvr.out (by intro e; rw [e] at hilt; simp at hilt)
        have k1i := k1 i hilt
        rw [← ht] at hshp hml hme hone k1i hnext
        simp only [Nat.sub_zero] at hml hone
        obtain ⟨s, hs⟩ : ∃ s, s = bs t.name := ⟨_, rfl⟩
        rw [← hs] at k1i
        have HS : Hid (s = bs t.name) := hs
        have HT : Hid (t = ts[i]) := ht
        have HNX : Hid (∀ hi' : i + 1 < ts.length, t.pos + m ≤ ts[i + 1].pos) := hnext
        have HME : Hid _ := hme
        obtain ⟨p0, p1, p2, p3⟩ := k1i
        have hpm : t.pos + m ≤ n := by have := HN.out; omega
        clear k1 hs ht hnext hml hme
        obtain ⟨b, o, rfl, hA⟩ := hT.at (j := t.pos) (by have := HN.out; omega)
        go_wp2_with fail
        refine (length_any _ t.kind t.pos t.val t.name s HS.out m hshp).mono ?_
        rintro r w3 ⟨rfl, hb3⟩
        have hs3 := hb3.size
        rw [← hb3.cell (p := ⟨g1, i * 4, none⟩) hg1] at p0
        rw [← hb3.cell (p := ⟨g1, i * 4 + 1, none⟩) hg1] at p1
        rw [← hb3.cell (p := ⟨g1, i * 4 + 2, none⟩) hg1] at p2
        rw [← hb3.cell (p := ⟨g1, i * 4 + 3, none⟩) hg1] at p3
        have hb3w : Below w.heap.size w w3 := hbr.trans (hb3.mono hbr.size)
        have hv3 := hvr.below hb3 (Nat.le_refl _)
        have hg3 : g1 < w3.heap.size := by omega
        have hsw := hbr.size
        have hmB : ((m : Int) == 0) = false := by simp; omega
        have hFI : decide ((t.pos : Int) < (F : Int)) = false := by simp; omega
        have hpI : decide ((n : Int) < (t.pos : Int) + (m : Int)) = false := by simp; omega
        first | (have hpe' := HME.out (by omega); have hpe : decide ((p : Int) < (t.pos : Int) + (m : Int)) = false := by (simp; omega)) | skip
        go_wp2_with (first | (go_at_call 16; refine (num_any _ _).mono ?_; rintro r w' ⟨rfl, rfl⟩) | fail)
        refine (tokens_at _ ((hTab.below hb3w hTab.1).alloc _) _ (cap - t.pos) m ((L.drop t.pos).take m) (by have := HN.out; simp; omega) (Txt.of_at ((((hA.below hb3w hA.1).drop t.pos).take m).alloc _) (by simp; omega) (by omega)) (by omega)).mono ?_
        rintro r w4 ⟨ts4, p4, e4, v4, hL4, rfl, hown4, hb4⟩
        obtain ⟨rfl, rfl, rfl⟩ := hone.one hL4
        have hs4 := hb4.size
        obtain ⟨a4, c4, rfl, r1, r2, hv4⟩ := hown4.view
        obtain ⟨g4, rfl, hg4, k4⟩ := hv4.out (by simp)
        have k40 := k4 0 (by simp)
        simp only [List.getElem_cons_zero, Nat.zero_mul, Nat.zero_add] at k40
        rw [← HS.out] at k40
        obtain ⟨_, _, _, _, hbx⟩ := box_cell _ _ _ _ _ _ hb4
        have hfr := Joins.unfrozen_of_block hbx 1
        have hbc1 := cell_arr (i := 1) hbx rfl
        have hge : g4 ≠ w3.heap.size := by
          obtain ⟨cc, hcc⟩ : ∃ cc, Value.ownBlock (.slice (some ⟨g4, 0, none⟩) ([(⟨t.kind, 0, t.val, t.name⟩ : T)]).length c4) = some cc := ⟨_, rfl⟩
          have := (own_block hown4.out (g := g4) rfl).1
          simp at this; omega
        have B := box_set (x := .int .i64 0) hbx
        have C := hv4.set (p := ⟨w3.heap.size, 1, none⟩) (fun g e => by cases e; exact hge) (.int .i64 0)
        have hv4' := (hv3.below ((Below.refl _ _).alloc (Nat.le_refl _) (.cells #[.int .i64 t.kind, .int .i64 t.pos, .int .i64 t.val, .string s] 33)) (Nat.le_refl _)).below hb4 (by simp)
        have D := hv4'.set (p := ⟨w3.heap.size, 1, none⟩) (fun g e => by cases e; show g1 ≠ w3.heap.size; omega) (.int .i64 0)
        have hb5 : Below w.heap.size w (w4.setCell ⟨w3.heap.size, 1, none⟩ (.int .i64 0)) := ((((hb3w).alloc (by have := hb3w.size; omega) _).trans (hb4.mono (by have := hb3w.size; simp; omega)))).setCell (p := ⟨w3.heap.size, 1, none⟩) (by show w.heap.size ≤ w3.heap.size; exact hb3w.size) _
        simp only [List.length_cons, List.length_nil, Nat.zero_add] at r1 ⊢
        clear k4 hv4 hv4' hown4 hL4 hone
        go_wp2_with fail
        obtain ⟨W5, hW5⟩ : ∃ W5, W5 = w4.setCell ⟨w3.heap.size, 1, none⟩ (.int .i64 0) := ⟨_, rfl⟩
        rw [← hW5] at B C D hb5 ⊢
        obtain ⟨b0, b1, b2, b3⟩ := B
        obtain ⟨g5, e5, hg5, k5⟩ := C.out (by simp)
        cases e5
        obtain ⟨c0, c1', c2', c3'⟩ := k5 0 (by simp)
        simp only [List.getElem_cons_zero, Nat.zero_mul, Nat.zero_add] at c0 c1' c2' c3'
        rw [← HS.out] at c3'
        obtain ⟨g6, e6, hg6, k6⟩ := D.out (by intro e; rw [e] at hilt; simp at hilt)
        cases e6
        have d1 := (k6 i hilt).2.1
        rw [← HT.out] at d1
        have hlen1 : ([(⟨t.kind, 0, t.val, t.name⟩ : T)]).length = 1 := rfl
        clear k5 k6 hW5 k40 hbx hbc1 hfr p0 p1 p2 p3 hg5 hg6
        go_quiet (first | (go_at_call 16; exact Calls.quiet_of_same (num_quiet _ _)))
        go_wp2_with fail
        go_roundw
        case rel => exact ⟨i + 1, t.pos + m, by omega, by go_num, by go_num, ⟨fun hi' => HNX.out hi'⟩, below_drewN hb5 _, D.below (below_drewN (Below.refl _ _) _) (Nat.le_refl _)⟩
        case measure => simp [intOf]; omega
      · go_wp2_with fail
        go_ret
        exact ⟨rfl, hbr⟩
end Go.Proofs.YtmddjfofedpggaaDoor
