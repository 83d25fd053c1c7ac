import Derived.Test.YtfbkopjncmkbiabGreatDoorKaz
import Derived.Test.YtfbkopjncmkbiabGreatDoorKbe
set_option linter.unusedVariables false
set_option linter.unusedSimpArgs false
namespace Go.Proofs.YtfbkopjncmkbiabGreatDoor
open Go.ChangeShapes Go.WideShapes Go.ChangeAt Go.RowKit Go.Maps
def lec (P : Program) (ops : Array Oper) (Q : Exit -> Act -> World -> Prop) (S : World -> Prop) (z : Nat) : Nat -> Array Bool -> Act -> World -> Prop
 | 0, l, a, w => Region.ready .any ops l = [] /\ Q .normal a w
 | k + 1, l, a, w => (Region.ready .any ops l = [] -> Q .normal a w) /\ ∀ i ∈ Region.ready .any ops l, wpOp P ops Q i (fun a' w' => ((l.setIfInBounds i true).getD z true = false -> S w') /\ lec P ops Q S z k (l.setIfInBounds i true) a' w') a w
theorem lec_any {P : Program} {ops : Array Oper} {Q : Exit -> Act -> World -> Prop} {S : World -> Prop} {z : Nat} : ∀ (k : Nat) (l : Array Bool) (a : Act) (w : World), lec P ops Q S z k l a w -> wpAny P .any ops Q k l a w
 | 0, _, _, _, h => h
 | k + 1, _, _, _, h => ⟨h.1, fun i hi => wpOp_mono (fun a' w' h' => lec_any k _ a' w' h'.2) (h.2 i hi)⟩
theorem getD_set_le {l : Array Bool} {i z : Nat} (h : (l.setIfInBounds i true).getD z true = false) : l.getD z true = false := by
 by_cases e : i = z
 ·subst e
  rcases Nat.lt_or_ge i l.size with h' | h'
  ·simp [Array.getD, h'] at h
  ·simp [Array.getD, h'] at h
 ·rw [getD_set_ne true e] at h; exact h
theorem lec_firstP {P : Program} {ops : Array Oper} {Q : Exit -> Act -> World -> Prop} {S : World -> Prop} {z i : Nat} {oi : Oper} {v : Value} (hi : ops[i]? = some oi) (hsel : ∀ (j : Nat) (o : Oper) cs b, ops[j]? = some o -> o.op ≠ .select cs b) (hQ : ∀ c a w, Q (.panic c) (a.put oi.dst v) w -> Q (.panic c) a w) (hzi : i ≠ z) :
 ∀ (k : Nat) (l : Array Bool) (a : Act) (w : World), (∀ j oj, ops[j]? = some oj -> j ≠ i -> l.getD j true = false -> (∀ e ∈ oj.after, Region.binds .any e = true -> e.on ≠ i) -> oi.apart ops oj = true) -> i ∈ Region.ready .any ops l -> YieldsIf P ops (fun _ => True) oi v a -> (l.getD z true = false -> S w) -> lec P ops Q S z k (l.setIfInBounds i true) (a.put oi.dst v) w -> lec P ops Q S z (k + 1) l a w := by
 intro k
 induction k with
 | zero =>
   intro l a w _ hr hy hS H
   refine ⟨fun h => absurd hr (by rw [h]; simp), fun j hj => ?_⟩
   by_cases e : j = i
   ·subst e
    exact hy.wpOp hi trivial ⟨fun h => hS (getD_set_le h), H⟩
   ·have h1 := ready_mono hj e
    rw [H.1] at h1
    simp at h1
 | succ k ih =>
   intro l a w hfree hr hy hS H
   refine ⟨fun h => absurd hr (by rw [h]; simp), fun j hj => ?_⟩
   by_cases e : j = i
   ·subst e
    exact hy.wpOp hi trivial ⟨fun h => hS (getD_set_le h), H⟩
   ·obtain ⟨hun, oj, hoj, hall⟩ := mem_ready.1 hj
    have hno : ∀ e ∈ oj.after, Region.binds .any e = true -> e.on ≠ i := fun x hx hb heq => by
     have h1 := hall x hx hb
     have h0 := (mem_ready.1 hr).1
     rw [heq] at h1
     rcases Nat.lt_or_ge i l.size with h' | h'
     ·simp [h'] at h0 h1; rw [h0] at h1; cases h1
     ·simp [Array.getElem?_eq_none h'] at h1
    have h2 := wpOp_putIf hoj (hfree j oj hoj e hun hno) (fun cs b => hsel i oi cs b hi) (fun cs b => hsel j oj cs b hoj) hQ hy (H.2 j (ready_mono hj e))
    refine wpOp_mono (fun a' w' h3 => ?_) h2
    have h4 : (l.setIfInBounds j true).getD z true = false -> S w' := fun hz => by
     exact h3.2.1 (by rw [Array.setIfInBounds_comm _ _ (Ne.symm e), getD_set_ne true hzi]; exact hz)
    refine ⟨h4, ih (l.setIfInBounds j true) a' w' ?_ (ready_mono hr (Ne.symm e)) h3.1 h4 ?_⟩
    ·intro m om hm hmi hmun hmno
     refine hfree m om hm hmi ?_ hmno
     by_cases ejm : j = m
     ·subst ejm; exact hun
     ·rw [getD_set_ne true ejm] at hmun; exact hmun
    ·rw [Array.setIfInBounds_comm _ _ e]
     exact h3.2.2
theorem lec_firstS {P : Program} {ops : Array Oper} {Q : Exit -> Act -> World -> Prop} {S : World -> Prop} {z i : Nat} {oi : Oper} {v : Value} (hi : ops[i]? = some oi) (hsel : ∀ (j : Nat) (o : Oper) cs b, ops[j]? = some o -> o.op ≠ .select cs b) (hQ : ∀ c a w, Q (.panic c) (a.put oi.dst v) w -> Q (.panic c) a w) (hz : waitsFor ops z i = true) (hzi : i ≠ z) :
 ∀ (k : Nat) (l : Array Bool) (a : Act) (w : World), (∀ j oj, ops[j]? = some oj -> j ≠ i -> l.getD j true = false -> (∀ e ∈ oj.after, Region.binds .any e = true -> e.on ≠ i) -> oi.apart ops oj = true) -> i ∈ Region.ready .any ops l -> YieldsIf P ops S oi v a -> S w -> l.getD z true = false -> lec P ops Q S z k (l.setIfInBounds i true) (a.put oi.dst v) w -> lec P ops Q S z (k + 1) l a w := by
 intro k
 induction k with
 | zero =>
   intro l a w _ hr hy hS hzl H
   refine ⟨fun h => absurd hr (by rw [h]; simp), fun j hj => ?_⟩
   by_cases e : j = i
   ·subst e
    exact hy.wpOp hi hS ⟨fun _ => hS, H⟩
   ·have h1 := ready_mono hj e
    rw [H.1] at h1
    simp at h1
 | succ k ih =>
   intro l a w hfree hr hy hS hzl H
   refine ⟨fun h => absurd hr (by rw [h]; simp), fun j hj => ?_⟩
   by_cases e : j = i
   ·subst e
    exact hy.wpOp hi hS ⟨fun _ => hS, H⟩
   ·have hjz : j ≠ z := fun e2 => not_yet hz hr (e2 ▸ hj)
    obtain ⟨hun, oj, hoj, hall⟩ := mem_ready.1 hj
    have hno : ∀ e ∈ oj.after, Region.binds .any e = true -> e.on ≠ i := fun x hx hb heq => by
     have h1 := hall x hx hb
     have h0 := (mem_ready.1 hr).1
     rw [heq] at h1
     rcases Nat.lt_or_ge i l.size with h' | h'
     ·simp [h'] at h0 h1; rw [h0] at h1; cases h1
     ·simp [Array.getElem?_eq_none h'] at h1
    have h2 := wpOp_putIf hoj (hfree j oj hoj e hun hno) (fun cs b => hsel i oi cs b hi) (fun cs b => hsel j oj cs b hoj) hQ hy (H.2 j (ready_mono hj e))
    refine wpOp_mono (fun a' w' h3 => ?_) h2
    have h4 : S w' := h3.2.1 (by rw [getD_set_ne true hjz, getD_set_ne true hzi]; exact hzl)
    refine ⟨fun _ => h4, ih (l.setIfInBounds j true) a' w' ?_ (ready_mono hr (Ne.symm e)) h3.1 h4 (by rw [getD_set_ne true hjz]; exact hzl) ?_⟩
    ·intro m om hm hmi hmun hmno
     refine hfree m om hm hmi ?_ hmno
     by_cases ejm : j = m
     ·subst ejm; exact hun
     ·rw [getD_set_ne true ejm] at hmun; exact hmun
    ·rw [Array.setIfInBounds_comm _ _ e]
     exact h3.2.2
theorem lec_takeP {P : Program} {ops : Array Oper} {Q : Exit -> Act -> World -> Prop} {S : World -> Prop} {z i : Nat} {oi : Oper} {v : Value} {k : Nat} {l : Array Bool} {a : Act} {w : World} (hi : ops[i]? = some oi) (hs : Region.noSelect ops = true) (hf : Region.free .any ops l i = true) (hr : (Region.ready .any ops l).contains i = true) (hz : (i != z) = true)
 (hQ : ∀ c a w, Q (.panic c) (a.put oi.dst v) w -> Q (.panic c) a w) (hy : YieldsIf P ops (fun _ => True) oi v a) (hS : S w) (h : lec P ops Q S z k (l.setIfInBounds i true) (a.put oi.dst v) w) : lec P ops Q S z (k + 1) l a w := by
 simp only [bne_iff_ne, ne_eq] at hz
 exact lec_firstP hi (Region.noSelect_spec hs) hQ hz k l a w (Region.free_spec hi hf) (by simpa using hr) hy (fun _ => hS) h
theorem lec_takeS {P : Program} {ops : Array Oper} {Q : Exit -> Act -> World -> Prop} {S : World -> Prop} {z i : Nat} {oi : Oper} {v : Value} {k : Nat} {l : Array Bool} {a : Act} {w : World} (hi : ops[i]? = some oi) (hs : Region.noSelect ops = true) (hf : Region.free .any ops l i = true) (hr : (Region.ready .any ops l).contains i = true) (hz : (waitsFor ops z i && i != z) = true) (hzl : l.getD z true = false)
 (hQ : ∀ c a w, Q (.panic c) (a.put oi.dst v) w -> Q (.panic c) a w) (hy : YieldsIf P ops S oi v a) (hS : S w) (h : lec P ops Q S z k (l.setIfInBounds i true) (a.put oi.dst v) w) : lec P ops Q S z (k + 1) l a w := by
 simp only [Bool.and_eq_true, bne_iff_ne, ne_eq] at hz
 exact lec_firstS hi (Region.noSelect_spec hs) hQ hz.1 hz.2 k l a w (Region.free_spec hi hf) (by simpa using hr) hy hS hzl h
theorem lec_one {P : Program} {ops : Array Oper} {Q : Exit -> Act -> World -> Prop} {S : World -> Prop} {z i : Nat} {oi : Oper} {k : Nat} {l : Array Bool} {a : Act} {w : World} (hi : ops[i]? = some oi) (hr : Region.ready .any ops l = [i])
 (h : ∀ K' : Act -> World -> Prop, (∀ a' w', ((l.setIfInBounds i true).getD z true = false -> S w') -> lec P ops Q S z k (l.setIfInBounds i true) a' w' -> K' a' w') -> if Region.wanted oi (yielded ops a.tmps) = true then Oper.wp P oi a w K' Q else K' (a.put oi.dst undef) w) : lec P ops Q S z (k + 1) l a w := by
 refine ⟨fun h0 => absurd h0 (by rw [hr]; simp), fun j hj => ?_⟩
 rw [hr] at hj
 simp at hj
 subst hj
 exact wpOp_step hi fun K' hK => h K' fun a' w' h1 h2 => hK a' w' ⟨h1, h2⟩
theorem lec_done {P : Program} {ops : Array Oper} {Q : Exit -> Act -> World -> Prop} {S : World -> Prop} {z : Nat} {l : Array Bool} {a : Act} {w : World} (hr : Region.ready .any ops l = []) (h : Q .normal a w) : lec P ops Q S z 0 l a w := ⟨hr, h⟩
theorem lec_start {P : Program} {id : Nat} {ops : Array Oper} {Q : Exit -> Act -> World -> Prop} {S : World -> Prop} {z : Nat} {a : Act} {w : World} (hm : P.follows .mixedOrders = true) (h : lec P ops Q S z ops.size (Array.replicate ops.size false) a w.drew) : (Code.region id ops true).wp P Q a w :=
 wp_region_any hm (lec_any _ _ _ _ h)
set_option maxRecDepth 100000 in
set_option maxHeartbeats 1000000 in
theorem mLast_any {FS s d w M} (h : Mach FS s d w M) (f : Fu) (hf : FS[M.here.fi]? = some f) (b : Bk) (hb : f.blks[M.here.bk]? = some b) (hbh : 1 + b.phis.length <= M.here.bh) (c : Int) (hc : b.body[M.here.bh - 1 - b.phis.length]? = some c) (hl : M.here.bh <= 1000000000000) :
 Calls Tryz.prog 116 #[.pointer (some ⟨s.mb, 0, none⟩)] w fun e w' => e = .returned (.int .i64 c) /\ Below w.heap.size w w' := by
 have hn : M.here.fi < FS.length := (List.getElem?_eq_some_iff.1 hf).1
 have hfe : FS[M.here.fi] = f := (List.getElem?_eq_some_iff.1 hf).2
 have htn : M.here.bk < f.blks.length := (List.getElem?_eq_some_iff.1 hb).1
 have hbe : f.blks[M.here.bk] = b := (List.getElem?_eq_some_iff.1 hb).2
 obtain ⟨_, _, la, lc, ma, mc, hst, u1, hvs, hbs⟩ := st_fu h.rest.agr h.rest.fus hn
 clear u1
 rw [hfe] at hst hvs hbs
 obtain ⟨bb, bo, ka, kc, xa, xc, ya, yc, na, nc, rfl, hbc, hbi⟩ := st_bk h.rest.agr hbs htn
 rw [hbe] at hbc hbi
 obtain ⟨p, hp⟩ : ∃ p, p = M.here.bh - 1 - b.phis.length := ⟨_, rfl⟩
 rw [<- hp] at hc
 have hpn : p < b.body.length := (List.getElem?_eq_some_iff.1 hc).1
 have hpe : b.body[p] = c := (List.getElem?_eq_some_iff.1 hc).2
 obtain ⟨xb, xo, rfl, hxc⟩ := st_int h.rest.agr (fun W hW => (hbi W hW).2.1) hpn
 rw [hpe] at hxc
 obtain ⟨c31, c32, c34, c35, c36, c37, c38, c39, c40, hlt⟩ := h.cells
 have HIN : Hid (Calls Tryz.prog 44 #[.agg #[.pointer (some ⟨s.fb, s.fo + M.here.fi * 5, none⟩), .int .i64 (M.here.bk : Int), .int .i64 (M.here.bh : Int), .int .i64 (M.here.fst : Int)]] w fun e w' => e = .returned (.pointer (some ⟨bb, bo + M.here.bk * 6, none⟩)) /\ Below w.heap.size w w') := mIn_any w (hst w h.rest.agr).2.2 htn (by have := (hbs w h.rest.agr).le; have := (hbs w h.rest.agr).mx; omega)
 obtain ⟨kl, hkl⟩ : ∃ kl, kl = b.phis.length := ⟨_, rfl⟩
 obtain ⟨xl, hxl⟩ : ∃ xl, xl = b.body.length := ⟨_, rfl⟩
 have HBK : Hid (∀ W, Below w.heap.size w W -> W.cell? ⟨bb, bo + M.here.bk * 6, none⟩ = some (.slice ka kl kc) /\ W.cell? ⟨bb, bo + M.here.bk * 6 + 1, none⟩ = some (.slice (some ⟨xb, xo, none⟩) xl xc) /\ W.cell? ⟨xb, xo + p, none⟩ = some (.int .i64 c) /\ W.cell? ⟨s.mb, 36, none⟩ = some (.int .i64 (M.here.bh : Int)) /\ bb < W.heap.size /\ s.mb < W.heap.size /\ xb < W.heap.size) := fun W hW => by
  have q := hbc W (h.below hW).rest.agr
  rw [hkl, hxl]
  exact ⟨q.1, q.2.1, hxc W (h.below hW).rest.agr, (h.below hW).cells.c36, block_lt_of_cell q.1, (h.below hW).cells.lt, block_lt_of_cell (hxc W (h.below hW).rest.agr)⟩
 have hxm : xl <= 9223372036854775807 := by have := (hbi w h.rest.agr).2.1.le; have := (hbi w h.rest.agr).2.1.mx; omega
 obtain ⟨bh, hbhe⟩ : ∃ bh, bh = M.here.bh := ⟨_, rfl⟩
 rw [<- hbhe] at HIN HBK c36 hbh hp hl
 have e1 : (bh : Int) - 1 - (kl : Int) = (p : Int) := by omega
 have e2 : IntKind.i64.wrap ((bh : Int) - 1) = (bh : Int) - 1 := by rw [IntKind.wrap_i64]; omega
 have e3 : IntKind.i64.wrap (p : Int) = (p : Int) := by rw [IntKind.wrap_i64]; omega
 have hpI : (p : Int) < (xl : Int) := by omega
 clear h hf hb hfe hbe hst hvs hbs hbc hbi hxc hpe hp hc hkl hxl hbhe hn htn c31 c32 c38 c39 c40
 generalize s.mb = mb at *
 generalize s.fb = fb at *
 generalize s.fo + M.here.fi * 5 = q at *
 generalize (M.here.fst : Int) = fst at *
 generalize (M.here.bk : Int) = bkv at *
 generalize bo + M.here.bk * 6 = bq at *
 go_enter Tryz.func116, Tryz.ntmps116
 go_wp2_with (go_at_call 44; refine Calls.mono HIN.out ?_; rintro e w2 ⟨rfl, b2⟩; obtain ⟨y0, y1, y2, y3, y4, y5, y6⟩ := HBK.out w2 b2)
 go_quiet (fail)
 go_wp2_with fail
 go_ret
 exact ⟨rfl, below_drawn b2 _⟩
set_option maxRecDepth 100000 in
theorem mBack_end {FS s d w M} (h : Mach FS s d w M) (hw : M.wait = []) (v : Int) :
 Calls Tryz.prog 74 #[.pointer (some ⟨s.mb, 0, none⟩), .int .i64 v] w fun e w' => e = .returned (.tuple #[]) /\ ∃ d', Mach FS s d' w' { M with fin := 1 } /\ Foo s d d' w w' := by
 have c38 := h.cells.c38
 have hlt := h.cells.lt
 obtain ⟨va, vc, ev, _⟩ := own_slice h.rest.wait.out
 rw [List.length_map, hw, List.length_nil] at ev
 rw [ev] at c38
 have HE : Hid _ := told_exit w (o := 41) h.told.c42 (h.told.fz 42)
 have HR : Hid _ := h.exit
 generalize s.mb = mb at *
 clear h hw ev
 go_enter Tryz.func74, Tryz.ntmps74
 go_wp2_with (go_at_call 115; refine Calls.mono HE.out ?_; rintro e w1 ⟨rfl, hw1⟩; have HW : Hid _ := hw1; clear hw1)
 refine bodyPost_ret (v := .tuple #[]) (by simp [results, Tryz.results74, go_sem]) rfl ⟨rfl, d, ?_⟩
 rw [HW.out]
 exact HR.out
theorem row_cut {w : World} {B e z b n c xs} {x : List Value} (hn : n = xs.length) (h : Row w B e z (.slice (some ⟨b, 0, none⟩) (n + 1) c) (xs ++ [x])) : Row w B e z (.slice (some ⟨b, 0, none⟩) n c) xs := by
 subst hn
 have hl : ∀ y ∈ xs, y.length = z := fun y hy => h.len y (by simp [hy])
 refine ⟨?_, hl⟩
 have e0 : (xs ++ [x]).length = xs.length + 1 := by simp
 have ho := h.out
 rw [e0] at ho
 rcases ho.2 with ⟨q, _⟩ | ⟨g, cap, cur, q, e2, e3, e4, e5, e6, e7⟩
 ·cases q
 ·cases q
  refine ⟨flat_len xs hl, .inr ⟨b, c, cur, rfl, e2, e3, by omega, e5, e6, ?_⟩⟩
  have := congrArg (List.take (xs.length * z)) e7
  rw [List.take_take, Nat.min_eq_left (Nat.mul_le_mul_right _ (by omega))] at this
  rw [this, List.flatten_append, <- flat_len xs hl]
  exact List.take_left
theorem OwnI.upto {w : World} {B g n c : Nat} {L : List Int} (h : OwnI w B (.slice (some ⟨g, 0, none⟩) n c) n L) {m : Nat} (hm : m <= n) : OwnI w B (.slice (some ⟨g, 0, none⟩) m c) m (L.take m) := by
 have hl := h.len
 rcases h.out.2 with ⟨q, _⟩ | ⟨g', cap, cur, q, e2, e3, e4, e5, e6, e7⟩
 ·cases q
 ·cases q
  refine ⟨by simp; omega, ⟨by simp [ivs]; omega, .inr ⟨g, c, cur, rfl, e2, e3, by omega, e5, e6, ?_⟩⟩⟩
  have := congrArg (List.take (m * 1)) e7
  rw [List.take_take, Nat.min_eq_left (by omega)] at this
  rw [this]
  simp [ivs, List.map_take]
theorem back_spec {FS : List Fu} {M M' : Ms} {v : Nat} {W0 : List Ac} {a : Ac} (hw : M.wait = W0 ++ [a]) (h : M.back FS (v : Int) = some M') : ∃ (x : Int) (f : Fu) (b : Bk) (c : Nat), M.here.fst + v < M.nums.length /\ M.nums[M.here.fst + v]? = some x /\ FS[a.fi]? = some f /\ f.blks[a.bk]? = some b /\ 1 + b.phis.length <= a.bh /\ b.body[a.bh - 1 - b.phis.length]? = some (c : Int) /\ M' = Ms.put { M with nums := M.nums.take M.here.fst, here := a, wait := W0 } c x := by
 unfold Ms.back at h
 rw [hw] at h
 simp only [List.getLast?_append, List.getLast?_singleton, Option.some_or, List.dropLast_concat] at h
 split at h
 ·cases h
 ·next h1 =>
  rw [if_neg (by omega)] at h
  split at h
  ·next x f hx hf =>
   split at h
   ·next b hb =>
    split at h
    ·cases h
    ·next hbh =>
     split at h
     ·next c hc =>
      split at h
      ·cases h
      ·next hc0 =>
       cases h
       rw [Int.toNat_natCast, List.getElem?_drop] at hx
       refine ⟨x, f, b, c.toNat, (List.getElem?_eq_some_iff.1 hx).1, hx, hf, hb, by omega, by rw [Int.toNat_of_nonneg (by omega)]; exact hc, rfl⟩
     ·cases h
   ·cases h
  ·cases h
set_option maxRecDepth 100000 in
set_option maxHeartbeats 4000000 in
theorem mBack_yes {FS s d w M} (h : Mach FS s d w M) (W0 : List Ac) (a : Ac) (hw : M.wait = W0 ++ [a]) (v : Nat) (M' : Ms) (hM : M.back FS (v : Int) = some M') (hl : M.nums.length <= 900000000) (hwl : M.wait.length <= 1000000000) (habh : a.bh <= 1000000000000) (hac : ∀ f ∈ FS, f.vals.length <= 262144) (hbv : ∀ f ∈ FS, ∀ b ∈ f.blks, ∀ c ∈ b.body, c < f.vals.length) (hfa : a.fst <= 900000000) :
 Calls Tryz.prog 74 #[.pointer (some ⟨s.mb, 0, none⟩), .int .i64 (v : Int)] w fun e w' => e = .returned (.tuple #[]) /\ ∃ d', Mach FS s d' w' M' /\ Foo s d d' w w' := by
 obtain ⟨x, f, b, c, hlt2, hx, hf, hb, hbh, hc, rfl⟩ := back_spec hw hM
 obtain ⟨g, nc, en, hn1, hn2, hgB, hg⟩ := own_some h.rest.nums.out (by omega)
 have O := h.rest.nums
 rw [en] at O
 have hxe : M.nums[M.here.fst + v] = x := (List.getElem?_eq_some_iff.1 hx).2
 obtain ⟨wl, hwl2⟩ : ∃ wl, wl = W0.length := ⟨_, rfl⟩
 have hwlen : M.wait.length = wl + 1 := by rw [hw, hwl2]; simp
 have hRw := h.rest.wait
 obtain ⟨vb, vc, vcs, ew, hv1, hv2, hvB, hvh⟩ := hRw.some (by rw [List.length_map]; omega)
 rw [List.length_map, hwlen] at ew hv1
 rw [ew, hw, List.map_append, List.map_singleton] at hRw
 have hcv : c < 262144 := by
  have h1 := hbv f (List.mem_of_getElem? hf) b (List.mem_of_getElem? hb) c (List.mem_of_getElem? hc)
  have h2 := hac f (List.mem_of_getElem? hf)
  omega
 obtain ⟨c31, c32, c34, c35, c36, c37, c38, c39, c40, hlt⟩ := h.cells
 rw [en] at c39
 rw [ew] at c38
 obtain ⟨fst, hfst⟩ : ∃ fst, fst = M.here.fst := ⟨_, rfl⟩
 obtain ⟨nl, hnl⟩ : ∃ nl, nl = M.nums.length := ⟨_, rfl⟩
 have hd4 : ∀ W, Mach FS s d W M -> Mach FS s { d with vn := .slice (some ⟨g, 0, none⟩) fst nc } (W.setCell ⟨s.mb, 39, none⟩ (.slice (some ⟨g, 0, none⟩) fst nc)) { M with nums := M.nums.take M.here.fst } /\ Foo s d { d with vn := .slice (some ⟨g, 0, none⟩) fst nc } W (W.setCell ⟨s.mb, 39, none⟩ (.slice (some ⟨g, 0, none⟩) fst nc)) := fun W q => by
  have OW := q.rest.nums
  rw [en] at OW
  have OU := OW.upto (m := fst) (by omega)
  have R := q.rest.setNums (w' := W) (v' := .slice (some ⟨g, 0, none⟩) fst nc) (nums' := M.nums.take M.here.fst) ⟨Below.refl _ _, fun _ _ _ => rfl, fun k hk => .inl (by rw [en]; simpa [Value.ownBlock] using hk)⟩ (by rw [List.length_take, show min M.here.fst M.nums.length = fst by omega, <- hfst]; exact OU)
  exact ⟨⟨box_at q.box rfl, R.1.set 39 _⟩, R.2.2.trans (Foo.set s _ W 39 _)⟩
 have hcx : ∀ W, Mach FS s d W M -> W.cell? ⟨g, fst + v, none⟩ = some (.int .i64 x) := fun W q => by
  have OW := q.rest.nums.out
  rw [en] at OW
  rw [own_cell OW (fst + v) (by omega)]
  simp [ivs, hfst, hlt2, hxe]
 have hgm : g ≠ s.mb := fun e => own_not h.rest.nums.out h.box (by decide) (by rw [en, e]; rfl)
 have HN4 : Hid (∀ W, Below w.heap.size w W -> W.cell? ⟨s.mb, 39, none⟩ = some (.slice (some ⟨g, 0, none⟩) nl nc) /\ W.cell? ⟨s.mb, 37, none⟩ = some (.int .i64 (fst : Int)) /\ W.frozen? ⟨s.mb, 39, none⟩ = false /\ s.mb < W.heap.size) := fun W hW => by
  have q := h.below hW
  refine ⟨?_, by rw [hfst]; exact q.cells.c37, fz_of q.box, q.cells.lt⟩
  rw [hnl, <- en]; exact q.cells.c39
 have HN5 : Hid (∀ W w5, Below w.heap.size w W -> w5 = (W.setCell ⟨s.mb, 39, none⟩ (.slice (some ⟨g, 0, none⟩) fst nc)).drew -> ∃ d5, Mach FS s d5 w5 { M with nums := M.nums.take M.here.fst } /\ Foo s d d5 w w5 /\ d5.vw = d.vw /\ w5.cell? ⟨g, fst + v, none⟩ = some (.int .i64 x)) := fun W w5 hW e5 => by
  have q := hd4 W (h.below hW)
  have bd : Below (W.setCell ⟨s.mb, 39, none⟩ (.slice (some ⟨g, 0, none⟩) fst nc)).heap.size (W.setCell ⟨s.mb, 39, none⟩ (.slice (some ⟨g, 0, none⟩) fst nc)) w5 := by rw [e5]; exact (Below.refl _ _).drew
  refine ⟨_, q.1.below bd, (Foo.of_below hW).trans (q.2.trans (Foo.of_below bd)), rfl, ?_⟩
  rw [e5]
  show (W.setCell ⟨s.mb, 39, none⟩ (.slice (some ⟨g, 0, none⟩) fst nc)).cell? ⟨g, fst + v, none⟩ = _
  rw [World.cell?_of_block (w := W) (heap_set_other hgm)]
  exact hcx W (h.below hW)
 have HN6 : Hid (∀ d5 w5, Mach FS s d5 w5 { M with nums := M.nums.take M.here.fst } -> d5.vw = d.vw -> w5.cell? ⟨g, fst + v, none⟩ = some (.int .i64 x) -> (w5.cell? ⟨s.mb, 38, none⟩ = some (.slice (some ⟨vb, 0, none⟩) (wl + 1) vc) /\ (w5.cell? ⟨vb, wl * 4, none⟩ = some (.pointer (some ⟨s.fb, s.fo + a.fi * 5, none⟩)) /\ w5.cell? ⟨vb, wl * 4 + 1, none⟩ = some (.int .i64 (a.bk : Int)) /\ w5.cell? ⟨vb, wl * 4 + 2, none⟩ = some (.int .i64 (a.bh : Int)) /\ w5.cell? ⟨vb, wl * 4 + 3, none⟩ = some (.int .i64 (a.fst : Int))) /\ s.mb < w5.heap.size /\ vb < w5.heap.size /\ (∃ y4 y5 y6 y7, w5.cell? ⟨s.mb, 34, none⟩ = some y4 /\ w5.cell? ⟨s.mb, 35, none⟩ = some y5 /\ w5.cell? ⟨s.mb, 36, none⟩ = some y6 /\ w5.cell? ⟨s.mb, 37, none⟩ = some y7) /\ ∀ i, w5.frozen? ⟨s.mb, i, none⟩ = false)
  /\ ∀ w6, w6 = ((((w5.setCell ⟨s.mb, 34, none⟩ (.pointer (some ⟨s.fb, s.fo + a.fi * 5, none⟩))).setCell ⟨s.mb, 35, none⟩ (.int .i64 (a.bk : Int))).setCell ⟨s.mb, 36, none⟩ (.int .i64 (a.bh : Int))).setCell ⟨s.mb, 37, none⟩ (.int .i64 (a.fst : Int))) -> w6.cell? ⟨s.mb, 38, none⟩ = some (.slice (some ⟨vb, 0, none⟩) (wl + 1) vc) /\ w6.frozen? ⟨s.mb, 38, none⟩ = false /\ s.mb < w6.heap.size /\ ∀ w7, w7 = w6.setCell ⟨s.mb, 38, none⟩ (.slice (some ⟨vb, 0, none⟩) wl vc) -> ∃ d7, Mach FS s d7 w7 { M with nums := M.nums.take M.here.fst, here := a, wait := W0 } /\ Foo s d5 d7 w5 w7 /\ w7.cell? ⟨g, fst + v, none⟩ = some (.int .i64 x)) := by
  intro d5 w5 q hvw hcell
  have hR := q.rest.wait
  have hR2 : Row w5 s.hi 64 4 (.slice (some ⟨vb, 0, none⟩) (wl + 1) vc) (W0.map (acv s) ++ [acv s a]) := by
   rw [hvw, ew] at hR
   have : (({ M with nums := M.nums.take M.here.fst } : Ms).wait.map (acv s)) = W0.map (acv s) ++ [acv s a] := by show M.wait.map (acv s) = _; rw [hw]; simp
   rw [this] at hR
   exact hR
  have hlast : ∀ r (hr : r < 4) u, (acv s a)[r]? = some u -> w5.cell? ⟨vb, wl * 4 + r, none⟩ = some u := fun r hr u hu => by
   refine hR2.cell (by simp [hwl2]) (i := wl) (by simp [hwl2]) hr ?_
   rw [List.getElem_append_right (by simp [hwl2])]
   simpa [hwl2] using hu
  have k38 : w5.cell? ⟨s.mb, 38, none⟩ = some (.slice (some ⟨vb, 0, none⟩) (wl + 1) vc) := by rw [<- ew, <- hvw]; exact q.cells.c38
  refine ⟨⟨k38, ⟨by simpa using hlast 0 (by omega) _ rfl, hlast 1 (by omega) _ rfl, hlast 2 (by omega) _ rfl, hlast 3 (by omega) _ rfl⟩, q.cells.lt, block_lt_of_cell (hlast 1 (by omega) _ rfl), ⟨_, _, _, _, q.cells.c34, q.cells.c35, q.cells.c36, q.cells.c37⟩, fun i => fz_of q.box⟩, ?_⟩
  intro w6 hw6
  have q6 := q.go a
  rw [<- hw6] at q6
  refine ⟨by rw [<- ew, <- hvw]; exact q6.1.cells.c38, fz_of q6.1.box, q6.1.cells.lt, ?_⟩
  intro w7 hw7
  have hR6 := q6.1.rest.wait
  have hR7 : Row w6 s.hi 64 4 (.slice (some ⟨vb, 0, none⟩) (wl + 1) vc) (W0.map (acv s) ++ [acv s a]) := by
   rw [hvw, ew] at hR6
   have : (({ M with nums := M.nums.take M.here.fst, here := a } : Ms).wait.map (acv s)) = W0.map (acv s) ++ [acv s a] := by show M.wait.map (acv s) = _; rw [hw]; simp
   rw [this] at hR6
   exact hR6
  have hR8 := row_cut (by simp [hwl2]) hR7
  have R := q6.1.rest.setWait (w' := w6) (v' := .slice (some ⟨vb, 0, none⟩) wl vc) (wait' := W0) ⟨Below.refl _ _, fun _ _ _ => rfl, fun k hk => .inl (by rw [hvw, ew]; simpa [Value.ownBlock] using hk)⟩ hR8
  refine ⟨{ d5 with vw := .slice (some ⟨vb, 0, none⟩) wl vc }, ?_, ?_, ?_⟩
  ·rw [hw7]; exact ⟨box_at q6.1.box rfl, R.1.set 38 _⟩
  ·rw [hw7]; exact q6.2.trans (R.2.2.trans (Foo.set s _ w6 38 _))
  ·rw [hw7, World.cell?_of_block (w := w6) (heap_set_other hgm), hw6, World.cell?_of_block (w := w5) (by rw [heap_set_other hgm, heap_set_other hgm, heap_set_other hgm, heap_set_other hgm])]
   exact hcell
 have HN7 : Hid (∀ d7 w7 d5 w5, Foo s d d5 w w5 -> Mach FS s d7 w7 { M with nums := M.nums.take M.here.fst, here := a, wait := W0 } -> Foo s d5 d7 w5 w7 -> w7.cell? ⟨g, fst + v, none⟩ = some (.int .i64 x) -> w7.drew.cell? ⟨g, fst + v, none⟩ = some (.int .i64 x) /\ s.mb < w7.heap.size /\ Hid (Calls Tryz.prog 116 #[.pointer (some ⟨s.mb, 0, none⟩)] w7.drew fun e w' => e = .returned (.int .i64 (c : Int)) /\ Below w7.heap.size w7 w' /\ w'.cell? ⟨g, fst + v, none⟩ = some (.int .i64 x))
  /\ Hid (∀ w8, Below w7.heap.size w7 w8 -> Calls Tryz.prog 41 #[.pointer (some ⟨s.mb, 0, none⟩), .int .i64 (c : Int), .int .i64 x] w8 fun e w' => e = .returned (.tuple #[]) /\ ∃ d', Mach FS s d' w' (Ms.put { M with nums := M.nums.take M.here.fst, here := a, wait := W0 } c x) /\ Foo s d d' w w')) := by
  intro d7 w7 d5 w5 f5 q f7 hcell
  have bd : Below w7.heap.size w7 w7.drew := (Below.refl _ _).drew
  have hgl : g < w7.heap.size := block_lt_of_cell hcell
  refine ⟨hcell, q.cells.lt, ?_, ?_⟩
  ·refine (mLast_any (q.below bd) f hf b hb hbh (c : Int) hc habh).mono fun e w' r => ⟨r.1, bd.trans (r.2.mono bd.size), ?_⟩
   rw [r.2.cell (p := ⟨g, fst + v, none⟩) hgl]
   exact hcell
  ·intro w8 b8
   refine (mSet_any (q.below b8) c x (by show a.fst + c <= _; omega) (by show (M.nums.take M.here.fst).length <= _; simp; omega)).mono ?_
   rintro e w' ⟨rfl, d', r1, r2⟩
   exact ⟨rfl, d', r1, f5.trans (f7.trans ((Foo.of_below b8).trans r2))⟩
 have hfI : (fst : Int) <= (nl : Int) := by omega
 have hfc : fst <= nl /\ nl <= nc := by omega
 have hflt : fst < nc := by omega
 have hfle : fst <= nc := by omega
 have hvI : (v : Int) < ((nl - fst : Nat) : Int) := by omega
 have hv2 : v < nl - fst := by omega
 have hwx : (wl : Int) < ((wl + 1 : Nat) : Int) := by omega
 have hwlb : wl <= 1000000000 := by omega
 have hwz : decide ((wl : Int) < 0) = false := by simp
 have hvz : decide (0 <= (v : Int)) = true := by simp
 have hww : IntKind.i64.wrap (((wl + 1 : Nat) : Int) - 1) = (wl : Int) := by rw [IntKind.wrap_i64]; omega
 have hcap : vc <= 9223372036854775807 /\ nc <= 9223372036854775807 := ⟨by assumption, hn2⟩
 rw [hwlen] at *
 rw [<- hfst] at c37
 rw [<- hnl] at c39
 clear hd4 hcx hgm hvh hRw O hx hxe hf hb hbh hc hM hw hwlen hwl2 hac hbv habh hfa hl hwl h en ew hfst hnl hlt2 c31 c32 c34 c35 c36 c40
 generalize s.mb = mb at *
 generalize s.fb = fb at *
 go_enter Tryz.func74, Tryz.ntmps74
 go_upto_region 3 with fail
 clear hwz
 go_quiet (fail)
 go_upto_region 4 with fail
 generalize hwa : w.drewN _ = wa
 have ba : Below w.heap.size w wa := by rw [<- hwa]; exact below_drawn (Below.refl _ _) _
 clear hwa c37 c38 c39 hlt
 obtain ⟨y1, y2, y3, y4⟩ := HN4.out wa ba
 have ba2 : Below w.heap.size w wa.drew := ba.drew
 obtain ⟨x1, x2, x3, x4⟩ := HN4.out wa.drew ba2
 have S0 : (fun w' : World => w'.cell? ⟨mb, 39, none⟩ = some (.slice (some ⟨g, 0, none⟩) nl nc) /\ w'.cell? ⟨mb, 37, none⟩ = some (.int .i64 (fst : Int))) wa.drew := ⟨x1, x2⟩
 obtain ⟨w5, hw5⟩ : ∃ w5, w5 = (wa.setCell ⟨mb, 39, none⟩ (.slice (some ⟨g, 0, none⟩) fst nc)).drew := ⟨_, rfl⟩
 obtain ⟨d5, q5, f5, hvw5, hcx5⟩ := HN5.out wa w5 ba hw5
 obtain ⟨⟨k38, ⟨k0, k1, k2, k3⟩, m5, v5, ⟨y4', y5', y6', y7', u4, u5, u6, u7⟩, z5⟩, hnx⟩ := HN6.out d5 w5 q5 hvw5 hcx5
 have HNX : Hid _ := hnx
 have HF5 : Hid _ := f5
 clear hnx f5 q5 hvw5 hcx5 HN4 HN5 HN6 ba ba2
 refine led_start (S := fun w' : World => w'.cell? ⟨mb, 39, none⟩ = some (.slice (some ⟨g, 0, none⟩) nl nc) /\ w'.cell? ⟨mb, 37, none⟩ = some (.int .i64 (fst : Int))) (z := 16) (by kernel_rfl) ?_
 refine led_t (i := 0) (v := ?v0) rfl (by kernel_rfl) (.inl ⟨by rfl, ?hy0⟩) S0 ?rest0
 case hy0 =>
  rintro w' ⟨h1, h2⟩
  go_simp
  all_goals with_reducible rfl
 try simp only [Act.put, List.getElem_toArray, List.getElem_cons_succ, List.getElem_cons_zero, List.setIfInBounds_toArray, List.set_cons_zero, List.set_cons_succ]
 refine led_t (i := 1) (v := ?v1) rfl (by kernel_rfl) (.inl ⟨by rfl, ?hy1⟩) S0 ?rest1
 case hy1 =>
  rintro w' ⟨h1, h2⟩
  go_simp
  all_goals with_reducible rfl
 try simp only [Act.put, List.getElem_toArray, List.getElem_cons_succ, List.getElem_cons_zero, List.setIfInBounds_toArray, List.set_cons_zero, List.set_cons_succ]
 refine led_t (i := 2) (v := ?v2) rfl (by kernel_rfl) (.inl ⟨by rfl, ?hy2⟩) S0 ?rest2
 case hy2 =>
  rintro w' ⟨h1, h2⟩
  go_simp
  all_goals with_reducible rfl
 try simp only [Act.put, List.getElem_toArray, List.getElem_cons_succ, List.getElem_cons_zero, List.setIfInBounds_toArray, List.set_cons_zero, List.set_cons_succ]
 refine led_t (i := 3) (v := ?v3) rfl (by kernel_rfl) (.inl ⟨by rfl, ?hy3⟩) S0 ?rest3
 case hy3 =>
  rintro w' ⟨h1, h2⟩
  go_simp
  all_goals with_reducible rfl
 try simp only [Act.put, List.getElem_toArray, List.getElem_cons_succ, List.getElem_cons_zero, List.setIfInBounds_toArray, List.set_cons_zero, List.set_cons_succ]
 refine led_t (i := 4) (v := ?v4) rfl (by kernel_rfl) (.inl ⟨by rfl, ?hy4⟩) S0 ?rest4
 case hy4 =>
  rintro w' ⟨h1, h2⟩
  go_simp
  all_goals with_reducible rfl
 try simp only [Act.put, List.getElem_toArray, List.getElem_cons_succ, List.getElem_cons_zero, List.setIfInBounds_toArray, List.set_cons_zero, List.set_cons_succ]
 refine led_t (i := 5) (v := ?v5) rfl (by kernel_rfl) (.inl ⟨by rfl, ?hy5⟩) S0 ?rest5
 case hy5 =>
  rintro w' ⟨h1, h2⟩
  go_simp
  all_goals with_reducible rfl
 try simp only [Act.put, List.getElem_toArray, List.getElem_cons_succ, List.getElem_cons_zero, List.setIfInBounds_toArray, List.set_cons_zero, List.set_cons_succ]
 refine led_t (i := 6) (v := ?v6) rfl (by kernel_rfl) (.inl ⟨by rfl, ?hy6⟩) S0 ?rest6
 case hy6 =>
  rintro w' ⟨h1, h2⟩
  go_simp
  all_goals with_reducible rfl
 try simp only [Act.put, List.getElem_toArray, List.getElem_cons_succ, List.getElem_cons_zero, List.setIfInBounds_toArray, List.set_cons_zero, List.set_cons_succ]
 refine led_t (i := 7) (v := ?v7) rfl (by kernel_rfl) (.inl ⟨by rfl, ?hy7⟩) S0 ?rest7
 case hy7 =>
  rintro w' ⟨h1, h2⟩
  go_simp
  all_goals with_reducible rfl
 try simp only [Act.put, List.getElem_toArray, List.getElem_cons_succ, List.getElem_cons_zero, List.setIfInBounds_toArray, List.set_cons_zero, List.set_cons_succ]
 refine led_t (i := 8) (v := ?v8) rfl (by kernel_rfl) (.inl ⟨by rfl, ?hy8⟩) S0 ?rest8
 case hy8 =>
  rintro w' ⟨h1, h2⟩
  go_simp
  all_goals with_reducible rfl
 try simp only [Act.put, List.getElem_toArray, List.getElem_cons_succ, List.getElem_cons_zero, List.setIfInBounds_toArray, List.set_cons_zero, List.set_cons_succ]
 refine led_t (i := 9) (v := ?v9) rfl (by kernel_rfl) (.inl ⟨by rfl, ?hy9⟩) S0 ?rest9
 case hy9 =>
  rintro w' ⟨h1, h2⟩
  go_simp
  all_goals with_reducible rfl
 try simp only [Act.put, List.getElem_toArray, List.getElem_cons_succ, List.getElem_cons_zero, List.setIfInBounds_toArray, List.set_cons_zero, List.set_cons_succ]
 refine led_t (i := 10) (v := ?v10) rfl (by kernel_rfl) (.inl ⟨by rfl, ?hy10⟩) S0 ?rest10
 case hy10 =>
  rintro w' ⟨h1, h2⟩
  go_simp
  all_goals with_reducible rfl
 try simp only [Act.put, List.getElem_toArray, List.getElem_cons_succ, List.getElem_cons_zero, List.setIfInBounds_toArray, List.set_cons_zero, List.set_cons_succ]
 refine led_t (i := 11) (v := ?v11) rfl (by kernel_rfl) (.inl ⟨by rfl, ?hy11⟩) S0 ?rest11
 case hy11 =>
  rintro w' ⟨h1, h2⟩
  go_simp
  all_goals with_reducible rfl
 try simp only [Act.put, List.getElem_toArray, List.getElem_cons_succ, List.getElem_cons_zero, List.setIfInBounds_toArray, List.set_cons_zero, List.set_cons_succ]
 refine led_t (i := 12) (v := ?v12) rfl (by kernel_rfl) (.inl ⟨by rfl, ?hy12⟩) S0 ?rest12
 case hy12 =>
  rintro w' ⟨h1, h2⟩
  go_simp
  all_goals with_reducible rfl
 try simp only [Act.put, List.getElem_toArray, List.getElem_cons_succ, List.getElem_cons_zero, List.setIfInBounds_toArray, List.set_cons_zero, List.set_cons_succ]
 refine led_one (i := 13) rfl (by kernel_rfl) ?_
 intro K1 hK1
 rw [if_pos (by rfl)]
 go_simp
 refine hK1 _ _ (fun _ => S0) ?_
 clear hK1
 try simp only [Act.put, List.getElem_toArray, List.getElem_cons_succ, List.getElem_cons_zero, List.setIfInBounds_toArray, List.set_cons_zero, List.set_cons_succ]
 refine led_one (i := 14) rfl (by kernel_rfl) ?_
 intro K2 hK2
 rw [if_pos (by rfl)]
 go_simp
 refine hK2 _ _ (fun _ => S0) ?_
 clear hK2
 try simp only [Act.put, List.getElem_toArray, List.getElem_cons_succ, List.getElem_cons_zero, List.setIfInBounds_toArray, List.set_cons_zero, List.set_cons_succ]
 refine led_one (i := 15) rfl (by kernel_rfl) ?_
 intro K3 hK3
 rw [if_pos (by rfl)]
 go_simp
 refine hK3 _ _ (fun _ => S0) ?_
 clear hK3
 try simp only [Act.put, List.getElem_toArray, List.getElem_cons_succ, List.getElem_cons_zero, List.setIfInBounds_toArray, List.set_cons_zero, List.set_cons_succ]
 refine led_one (i := 16) rfl (by kernel_rfl) ?_
 intro K4 hK4
 rw [if_pos (by rfl)]
 go_simp
 refine hK4 _ _ (fun h => absurd rfl h) ?_
 clear hK4
 refine led_done (by kernel_rfl) ?_
 rw [<- hw5]
 clear hw5 S0 x1 x2 x3 x4 y1 y2 y3 y4
 have z34 := z5 34
 have z35 := z5 35
 have z36 := z5 36
 have z37 := z5 37
 obtain ⟨w6, hw6⟩ : ∃ w6, w6 = ((((w5.setCell ⟨mb, 34, none⟩ (.pointer (some ⟨fb, s.fo + a.fi * 5, none⟩))).setCell ⟨mb, 35, none⟩ (.int .i64 (a.bk : Int))).setCell ⟨mb, 36, none⟩ (.int .i64 (a.bh : Int))).setCell ⟨mb, 37, none⟩ (.int .i64 (a.fst : Int))) := ⟨_, rfl⟩
 obtain ⟨r38, rz38, rm, hnx⟩ := HNX.out w6 hw6
 have HN8 : Hid _ := hnx
 clear hnx HNX z5
 go_upto_region 6 with fail
 rw [<- hw6]
 clear hw6 z34 z35 z36 z37 u4 u5 u6 u7 k38 k0 k1 k2 k3 m5 v5
 obtain ⟨w7, hw7⟩ : ∃ w7, w7 = w6.setCell ⟨mb, 38, none⟩ (.slice (some ⟨vb, 0, none⟩) wl vc) := ⟨_, rfl⟩
 obtain ⟨d7, q7, f7, hcx7⟩ := HN8.out w7 hw7
 obtain ⟨S8, m7, HLC, HSET⟩ := HN7.out d7 w7 d5 w5 HF5.out q7 f7 hcx7
 clear HN8 HN7 q7 f7 hcx7 HF5
 have hwlc : wl <= vc := by omega
 go_upto_region 7 with fail
 rw [<- hw7]
 clear hw7 r38 rz38 rm
 go_upto_region 8 with fail
 refine lec_start (S := fun w' : World => w'.cell? ⟨g, fst + v, none⟩ = some (.int .i64 x)) (z := 7) (by kernel_rfl) ?_
 refine lec_takeP (i := 0) (v := ?v0z) rfl (by kernel_rfl) (by kernel_rfl) (by kernel_rfl) (by kernel_rfl) (fun _ _ _ h => h) (.inl ⟨by rfl, ?hy0z⟩) S8 ?rest0z
 case hy0z =>
  rintro w' _
  go_simp
  all_goals with_reducible rfl
 try simp only [Act.put, List.getElem_toArray, List.getElem_cons_succ, List.getElem_cons_zero, List.setIfInBounds_toArray, List.set_cons_zero, List.set_cons_succ]
 refine lec_takeP (i := 1) (v := ?v1z) rfl (by kernel_rfl) (by kernel_rfl) (by kernel_rfl) (by kernel_rfl) (fun _ _ _ h => h) (.inl ⟨by rfl, ?hy1z⟩) S8 ?rest1z
 case hy1z =>
  rintro w' _
  go_simp
  all_goals with_reducible rfl
 try simp only [Act.put, List.getElem_toArray, List.getElem_cons_succ, List.getElem_cons_zero, List.setIfInBounds_toArray, List.set_cons_zero, List.set_cons_succ]
 refine lec_takeP (i := 3) (v := ?v3z) rfl (by kernel_rfl) (by kernel_rfl) (by kernel_rfl) (by kernel_rfl) (fun _ _ _ h => h) (.inl ⟨by rfl, ?hy3z⟩) S8 ?rest3z
 case hy3z =>
  rintro w' _
  go_simp
  all_goals with_reducible rfl
 try simp only [Act.put, List.getElem_toArray, List.getElem_cons_succ, List.getElem_cons_zero, List.setIfInBounds_toArray, List.set_cons_zero, List.set_cons_succ]
 refine lec_takeP (i := 4) (v := ?v4z) rfl (by kernel_rfl) (by kernel_rfl) (by kernel_rfl) (by kernel_rfl) (fun _ _ _ h => h) (.inl ⟨by rfl, ?hy4z⟩) S8 ?rest4z
 case hy4z =>
  rintro w' _
  go_simp
  all_goals with_reducible rfl
 try simp only [Act.put, List.getElem_toArray, List.getElem_cons_succ, List.getElem_cons_zero, List.setIfInBounds_toArray, List.set_cons_zero, List.set_cons_succ]
 refine lec_takeP (i := 5) (v := ?v5z) rfl (by kernel_rfl) (by kernel_rfl) (by kernel_rfl) (by kernel_rfl) (fun _ _ _ h => h) (.inl ⟨by rfl, ?hy5z⟩) S8 ?rest5z
 case hy5z =>
  rintro w' _
  go_simp
  all_goals with_reducible rfl
 try simp only [Act.put, List.getElem_toArray, List.getElem_cons_succ, List.getElem_cons_zero, List.setIfInBounds_toArray, List.set_cons_zero, List.set_cons_succ]
 refine lec_takeS (i := 6) (v := ?v6z) rfl (by kernel_rfl) (by kernel_rfl) (by kernel_rfl) (by kernel_rfl) (by kernel_rfl) (fun _ _ _ h => h) (.inl ⟨by rfl, ?hy6z⟩) S8 ?rest6z
 case hy6z =>
  rintro w' h1
  go_simp
  all_goals with_reducible rfl
 try simp only [Act.put, List.getElem_toArray, List.getElem_cons_succ, List.getElem_cons_zero, List.setIfInBounds_toArray, List.set_cons_zero, List.set_cons_succ]
 refine lec_one (i := 2) rfl (by kernel_rfl) ?_
 intro K1 hK1
 rw [if_pos (by rfl)]
 go_simp
 refine Calls.mono HLC.out ?_
 rintro e w8 ⟨rfl, hb8, S9⟩
 have HST : Hid _ := HSET.out w8 hb8
 refine hK1 _ _ (fun _ => S9) ?_
 clear hK1 hb8
 try simp only [Act.put, List.getElem_toArray, List.getElem_cons_succ, List.getElem_cons_zero, List.setIfInBounds_toArray, List.set_cons_zero, List.set_cons_succ]
 refine lec_one (i := 7) rfl (by kernel_rfl) ?_
 intro K2 hK2
 rw [if_pos (by rfl)]
 go_simp
 refine Calls.mono HST.out ?_
 rintro e w9 ⟨rfl, h9⟩
 have H9 : Hid _ := h9
 clear h9
 refine hK2 _ _ (fun h => by simp at h) ?_
 clear hK2
 refine lec_done (by kernel_rfl) ?_
 go_wp2_with fail
 exact bodyPost_end (v := .tuple #[]) (by simp [results, Tryz.results74, go_sem]) rfl ⟨rfl, H9.out⟩
end Go.Proofs.YtfbkopjncmkbiabGreatDoor
