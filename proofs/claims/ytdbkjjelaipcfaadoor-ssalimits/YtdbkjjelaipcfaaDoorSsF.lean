import Derived.Test.YtdbkjjelaipcfaaDoorSsE
import Derived.Deep.RegionWith
set_option linter.unusedVariables false
set_option linter.unusedSimpArgs false
namespace Go.Proofs.YtdbkjjelaipcfaaDoor
open Go.ChangeShapes Go.WideShapes Go.ChangeAt Go.RowKit Go.Maps

def immP (n : Nat) (op imm : Int) : Bool :=
  if op = 1 ∨ op = 33 then true else if op = 25 then wi n imm else if op = 28 ∨ op = 29 ∨ op = 30 then decide (1 ≤ imm ∧ imm ≤ 5) else decide (imm = 0)
def countP (FS : List Fu) (op imm : Int) (k : Nat) : Bool :=
  if op = 32 then true else if op = 25 then decide (k = (FS.getD imm.toNat noF).params.length) else decide ((k : Int) = (shp op).count)
def valueP (f : Fu) (FS : List Fu) (v : Vl) : Bool := isOpn v.op && (immP FS.length v.op v.imm && (countP FS v.op v.imm v.args.length && (v.args.all (wi f.vals.length) && isTn v.ty)))

theorem withinF_R (w : World) (ao : Option Addr) (n c : Nat) (i : Int) : Calls Tryd.prog 23 #[.slice ao n c, .int .i64 i] w fun e w' => e = .returned (.bool (wi n i)) ∧ w' = w := withinF_any w ao n c i
theorem immFits_any (w : World) {s : ByteArray} {pa : Option Addr} {pn pc : Nat} {r : Int} {va : Option Addr} {vn vc : Nat} {ba : Option Addr} {bn bc : Nat} {fa : Option Addr} {fn fc : Nat} (op ty imm : Int) (ka : Option Addr) (kl kc : Nat) :
    Calls Tryd.prog 60 #[.agg #[.string s, .slice pa pn pc, .int .i64 r, .slice va vn vc, .slice ba bn bc, .slice fa fn fc], .agg #[.int .i64 op, .int .i64 ty, .int .i64 imm, .slice ka kl kc]] w fun e w' => e = .returned (.bool (immP fn op imm)) ∧ Below w.heap.size w w' := by
  have hnew : Below w.heap.size w ((w.alloc (.cells #[.string s, .slice pa pn pc, .int .i64 r, .slice va vn vc, .slice ba bn bc, .slice fa fn fc] 47)).alloc (.cells #[.int .i64 op, .int .i64 ty, .int .i64 imm, .slice ka kl kc] 25)) := ((Below.refl _ _).alloc (Nat.le_refl _) _).alloc (by simp) _
  unfold immP
  by_cases h1 : op = 1
  · subst h1
    rw [if_pos (.inl rfl)]
    go_enter Tryd.func60, Tryd.ntmps60
    go_wp2_with fail
    go_ret
    exact ⟨rfl, hnew⟩
  by_cases h33 : op = 33
  · subst h33
    rw [if_pos (.inr rfl)]
    go_enter Tryd.func60, Tryd.ntmps60
    go_wp2_with fail
    go_ret
    exact ⟨rfl, hnew⟩
  rw [if_neg (by omega)]
  by_cases h25 : op = 25
  · subst h25
    rw [if_pos rfl]
    generalize hR : wi fn imm = R
    go_enter Tryd.func60, Tryd.ntmps60
    go_wp2_with (go_at_call 23; refine (withinF_at _ _ _ _ _ _ hR).mono ?_; rintro e w' ⟨rfl, rfl⟩)
    go_ret
    exact ⟨rfl, hnew⟩
  rw [if_neg h25]
  by_cases h3 : op = 28 ∨ op = 29 ∨ op = 30
  · rw [if_pos h3]
    by_cases i1 : 1 ≤ imm
    · rcases h3 with rfl | rfl | rfl
      all_goals
        go_enter Tryd.func60, Tryd.ntmps60
        go_wp2_with fail
        go_ret
        exact ⟨by simp [i1], hnew⟩
    · rcases h3 with rfl | rfl | rfl
      all_goals
        go_enter Tryd.func60, Tryd.ntmps60
        go_wp2_with fail
        go_ret
        exact ⟨by simp; omega, hnew⟩
  · rw [if_neg h3]
    have h28 : ¬ op = 28 := by omega
    have h29 : ¬ op = 29 := by omega
    have h30 : ¬ op = 30 := by omega
    go_enter Tryd.func60, Tryd.ntmps60
    go_wp2_with fail
    go_ret
    exact ⟨by first | rfl | (simp; done) | (simp; omega), hnew⟩
theorem fld_count (a b c d e : Int) (w : World) : (Instr.field 96 (.agg #[.int .i64 a, .int .i64 b, .int .i64 c, .int .i64 d, .int .i64 e]) 0).run Tryd.prog w = .ok (.int .i64 a) w := by kernel_rfl
/-- Where a function lies. -/
theorem Fus.at {w ao cap} {FS : List Fu} (h : Fus w ao cap FS) {j : Nat} (hj : j < FS.length) : ∃ (b o : Nat) (ka : Option Addr) (kc : Nat) (la : Option Addr) (lc : Nat) (ma : Option Addr) (mc : Nat), ao = some ⟨b, o, none⟩ ∧ b < w.heap.size ∧ w.cell? ⟨b, o + j * 5, none⟩ = some (.string FS[j].name) ∧ w.cell? ⟨b, o + j * 5 + 1, none⟩ = some (.slice ka FS[j].params.length kc) ∧ w.cell? ⟨b, o + j * 5 + 2, none⟩ = some (.int .i64 FS[j].result)
    ∧ w.cell? ⟨b, o + j * 5 + 3, none⟩ = some (.slice la FS[j].vals.length lc) ∧ w.cell? ⟨b, o + j * 5 + 4, none⟩ = some (.slice ma FS[j].blks.length mc) ∧ Ints w ka kc FS[j].params ∧ Vls w la lc FS[j].vals ∧ Bks w ma mc FS[j].blks := by
  obtain ⟨b, o, e, hlt, hA⟩ := h.out (by intro e; rw [e] at hj; simp at hj)
  obtain ⟨ka, kc, la, lc, ma, mc, c0, c1, c2, c3, c4, h1, h2, h3⟩ := (hA j hj).out
  exact ⟨b, o, ka, kc, la, lc, ma, mc, e, hlt, c0, c1, c2, c3, c4, h1, h2, h3⟩
set_option maxRecDepth 100000 in
set_option maxHeartbeats 4000000 in
theorem countFits_any (w : World) {s : ByteArray} {pa : Option Addr} {pn pc : Nat} {r : Int} {va : Option Addr} {vn vc : Nat} {ba : Option Addr} {bn bc : Nat} {fa : Option Addr} {fn fc : Nat} {f : Fu} {FS : List Fu} (C : Ctx w s pa pn pc r va vn vc ba bn bc fa fn fc f FS) (op ty imm : Int) (ka : Option Addr) (kl kc : Nat) (hi : op = 25 → wi fn imm = true) :
    Calls Tryd.prog 61 #[.agg #[.string s, .slice pa pn pc, .int .i64 r, .slice va vn vc, .slice ba bn bc, .slice fa fn fc], .agg #[.int .i64 op, .int .i64 ty, .int .i64 imm, .slice ka kl kc]] w fun e w' => e = .returned (.bool (countP FS op imm kl)) ∧ Below w.heap.size w w' := by
  have hnew : Below w.heap.size w ((w.alloc (.cells #[.string s, .slice pa pn pc, .int .i64 r, .slice va vn vc, .slice ba bn bc, .slice fa fn fc] 47)).alloc (.cells #[.int .i64 op, .int .i64 ty, .int .i64 imm, .slice ka kl kc] 25)) := ((Below.refl _ _).alloc (Nat.le_refl _) _).alloc (by simp) _
  have C2 := C.below hnew (Nat.le_refl _)
  unfold countP
  by_cases h32 : op = 32
  · subst h32
    rw [if_pos rfl]
    clear C C2 hi
    go_enter Tryd.func61, Tryd.ntmps61
    go_wp2_with fail
    go_ret
    exact ⟨rfl, hnew⟩
  rw [if_neg h32]
  by_cases h25 : op = 25
  · subst h25
    rw [if_pos rfl]
    have hw := hi rfl
    simp only [wi, decide_eq_true_eq] at hw
    obtain ⟨j, rfl⟩ : ∃ j : Nat, imm = j := ⟨imm.toNat, by omega⟩
    have hj : j < FS.length := by have := C.ef; omega
    have hjn : j < fn := by omega
    have hfn : fn ≤ 9223372036854775807 := by have := C.hf.le; have := C.hf.mx; have := C.ef; omega
    obtain ⟨b, o, xa, xc, la, lc, ma, mc, rfl, hlt, c0, c1, c2, c3, c4, g1, g2, g3⟩ := C2.hf.at hj
    have hx : (FS.getD (j : Int).toNat noF).params.length = FS[j].params.length := by simp [hj]
    rw [hx]
    generalize FS[j].params.length = n at c1
    clear C C2 hi c0 c2 c3 c4 g1 g2 g3 hx hw hj
    go_enter Tryd.func61, Tryd.ntmps61
    go_wp2_with fail
    go_quiet (fail)
    go_wp2_with fail
    go_ret
    refine ⟨?_, below_drawn hnew _⟩
    · by_cases e : kl = n
      · subst e; simp
      · have : ¬ (kl : Int) = n := by omega
        simp [e, this]
  · rw [if_neg h25]
    generalize hH : shp op = H
    clear C C2 hi
    have hsh : ∀ w, Calls Tryd.prog 72 #[.int .i64 op] w fun e w' => e = .returned (.agg #[.int .i64 H.count, .int .i64 H.a0, .int .i64 H.a1, .int .i64 H.a2, .int .i64 H.gives]) ∧ Below w.heap.size w w' := fun w => by
      have := shapeOf_any w op
      rw [hH] at this
      exact this
    have HS : Hid _ := hsh
    clear hsh
    have hfl := fld_count H.count H.a0 H.a1 H.a2 H.gives
    go_enter Tryd.func61, Tryd.ntmps61
    go_wp2_with fail
    go_region_with (go_at_call 72; refine (HS.out _).mono ?_; rintro e w' ⟨rfl, hb'⟩; have d3 : w'.cell? ⟨w.heap.size + 1, 3, none⟩ = some (.slice ka kl kc) := by (rw [hb'.cell (p := ⟨w.heap.size + 1, 3, none⟩) (by simp)]; simp))
    all_goals go_wp2_with fail
    all_goals go_ret
    all_goals first
      | exact ⟨rfl, hnew.trans (hb'.mono (by simp; omega))⟩
      | exact ⟨rfl, below_drawn (hnew.trans (hb'.mono (by simp; omega))) _⟩
      | exact ⟨rfl, (hnew.drew.trans (hb'.mono (by simp; omega)))⟩
      | exact ⟨rfl, (below_drawn hnew _).trans (hb'.mono (by simp; omega))⟩
end Go.Proofs.YtdbkjjelaipcfaaDoor
