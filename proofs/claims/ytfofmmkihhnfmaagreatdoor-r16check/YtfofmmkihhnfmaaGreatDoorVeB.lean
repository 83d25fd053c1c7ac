import Derived.Test.YtfofmmkihhnfmaaGreatDoorVeA
set_option linter.unusedVariables false
set_option linter.unusedSimpArgs false
namespace Go.Proofs.YtfofmmkihhnfmaaGreatDoor
open Go.ChangeShapes Go.WideShapes Go.ChangeAt Go.RowKit Go.Maps

/-- The fields of the operations, by their letters. -/
def FLS : List (List UInt8) := [[], [97, 110], [97, 98], [97, 98, 99], [97, 98, 99], [97, 98, 99], [97, 98, 99], [97, 98, 99], [97, 98, 99], [97, 98, 99], [97, 98, 99], [97, 98, 99], [97, 98, 99], [97, 98, 99], [97, 98, 99], [97, 98, 99], [97, 98, 99], [97, 98, 99], [97, 98], [97, 98], [97, 98], [110], [97, 110], [97, 110], [97, 110], [97, 110], [110], [], [97, 98], [97, 98], [97, 98, 99], [97, 98, 99], [97, 110], [97, 110], [97, 98, 110], [97, 110], [97], [97], [97]]
def flsV : Array Value := #[.string ⟨#[]⟩, .string ⟨#[97, 110]⟩, .string ⟨#[97, 98]⟩, .string ⟨#[97, 98, 99]⟩, .string ⟨#[97, 98, 99]⟩, .string ⟨#[97, 98, 99]⟩, .string ⟨#[97, 98, 99]⟩, .string ⟨#[97, 98, 99]⟩, .string ⟨#[97, 98, 99]⟩, .string ⟨#[97, 98, 99]⟩, .string ⟨#[97, 98, 99]⟩, .string ⟨#[97, 98, 99]⟩, .string ⟨#[97, 98, 99]⟩, .string ⟨#[97, 98, 99]⟩, .string ⟨#[97, 98, 99]⟩, .string ⟨#[97, 98, 99]⟩, .string ⟨#[97, 98, 99]⟩, .string ⟨#[97, 98, 99]⟩, .string ⟨#[97, 98]⟩, .string ⟨#[97, 98]⟩, .string ⟨#[97, 98]⟩, .string ⟨#[110]⟩, .string ⟨#[97, 110]⟩, .string ⟨#[97, 110]⟩, .string ⟨#[97, 110]⟩, .string ⟨#[97, 110]⟩, .string ⟨#[110]⟩, .string ⟨#[]⟩, .string ⟨#[97, 98]⟩, .string ⟨#[97, 98]⟩, .string ⟨#[97, 98, 99]⟩, .string ⟨#[97, 98, 99]⟩, .string ⟨#[97, 110]⟩, .string ⟨#[97, 110]⟩, .string ⟨#[97, 98, 110]⟩, .string ⟨#[97, 110]⟩, .string ⟨#[97]⟩, .string ⟨#[97]⟩, .string ⟨#[97]⟩]
theorem flsV_eq : flsV = (FLS.map fun x => Value.string (bs x)).toArray := by kernel_rfl
theorem flsV_at (i : Nat) (hi : i < 39) : flsV[i]? = some (.string (bs (FLS.getD i []))) := by
  have hl : i < FLS.length := hi
  rw [flsV_eq]
  simp [List.getD, List.getElem?_eq_getElem hl]
/-- What stands in a row of letters so far. -/
def flG (L : List UInt8) (i : Nat) : Bool × Bool × Bool × Bool := ((L.take i).contains 97, (L.take i).contains 98, (L.take i).contains 99, (L.take i).contains 110)
theorem fl_all : ∀ k : Nat, k < 39 → (FLS.getD k []).length ≤ 3 ∧ ((FLS.getD k []).all fun c => decide (c = 97 ∨ c = 98 ∨ c = 99 ∨ c = 110)) = true ∧ (1 ≤ k → flG (FLS.getD k []) (FLS.getD k []).length = (decide (1 ≤ rcnt k), decide (2 ≤ rcnt k), decide (3 ≤ rcnt k), hasN k)) := by
  decide +kernel
theorem setRow_allocE (w : World) (Z A : Array Value) (t : TypeId) : (w.alloc (.cells Z t)).setRow w.heap.size A = w.alloc (.cells A t) := World.setRow_alloc_new w Z A t
/-- The memory of Fields. -/
structure FlS (w wr : World) (p q : Nat) (a b c n : Bool) : Prop where
  box : wr.heap[q + 1]? = some (.cells #[.bool a, .bool b, .bool c, .bool n] 110 (0, 0))
  tab : wr.heap[q]? = some (.cells flsV 140 (0, 0))
  res : wr.heap[p]? = some (.cells #[.bool false, .bool false, .bool false, .bool false] 110 (0, 0))
  low : Below w.heap.size w wr
  lt : p < q ∧ w.heap.size ≤ p
theorem FlS.set {w wr : World} {p q : Nat} {a b c n : Bool} (h : FlS w wr p q a b c n) (j : Nat) (v : Bool) {a' b' c' n' : Bool} (he : (#[.bool a, .bool b, .bool c, .bool n] : Array Value).setIfInBounds j (.bool v) = #[.bool a', .bool b', .bool c', .bool n']) : FlS w (wr.setCell ⟨q + 1, j, none⟩ (.bool v)) p q a' b' c' n' := by
  have := h.lt
  refine ⟨?_, (heap_set_other (by omega)).trans h.tab, (heap_set_other (by omega)).trans h.res, h.low.setCell (by show w.heap.size ≤ q + 1; omega) _, h.lt⟩
  rw [heap_set_at h.box, he]
theorem bs_getE (S : List UInt8) (k : Nat) (h : k < (bs S).size) : (bs S)[k] = S[k]'(by rw [bs_size] at h; exact h) := by
  simp [bs]
  rfl
theorem box_four {w : World} {g : Nat} {t : TypeId} {x0 x1 x2 x3 : Value} (h : w.heap[g]? = some (.cells #[x0, x1, x2, x3] t (0, 0))) (a b c d : Value) : ((((w.setCell ⟨g, 0, none⟩ a).setCell ⟨g, 1, none⟩ b).setCell ⟨g, 2, none⟩ c).setCell ⟨g, 3, none⟩ d).heap[g]? = some (.cells #[a, b, c, d] t (0, 0)) := by
  have h0 := heap_set_at (i := 0) (v := a) h
  have h1 := heap_set_at (i := 1) (v := b) h0
  have h2 := heap_set_at (i := 2) (v := c) h1
  have h3 := heap_set_at (i := 3) (v := d) h2
  exact h3
/-- What Fields answers, in its box. -/
structure FlR (w W : World) (p : Nat) (a b c n : Bool) : Prop where
  box : W.heap[p]? = some (.cells #[.bool a, .bool b, .bool c, .bool n] 110 (0, 0))
  low : Below w.heap.size w W
theorem FlS.fin {w wr : World} {p q : Nat} {a b c n : Bool} (h : FlS w wr p q a b c n) : FlR w ((((wr.setCell ⟨p, 0, none⟩ (.bool a)).setCell ⟨p, 1, none⟩ (.bool b)).setCell ⟨p, 2, none⟩ (.bool c)).setCell ⟨p, 3, none⟩ (.bool n)) p a b c n := by
  have := h.lt.2
  exact ⟨box_four h.res _ _ _ _, (((h.low.setCell this _).setCell this _).setCell this _).setCell this _⟩
/-- Letters gone through. -/
structure FlI (L : List UInt8) (i : Nat) (a b c n : Bool) : Prop where
  out : flG L i = (a, b, c, n)
theorem FlI.next {L : List UInt8} {i : Nat} {a b c n : Bool} (h : FlI L i a b c n) (hi : i < L.length) {x : UInt8} (hx : L[i] = x) : FlI L (i + 1) (a || (x == 97)) (b || (x == 98)) (c || (x == 99)) (n || (x == 110)) := by
  have e := h.out
  unfold flG at e
  simp only [Prod.mk.injEq] at e
  obtain ⟨rfl, rfl, rfl, rfl⟩ := e
  refine ⟨?_⟩
  unfold flG
  rw [List.take_succ_eq_append_getElem hi, hx]
  have q : ∀ k : UInt8, (L.take i ++ [x]).contains k = ((L.take i).contains k || (x == k)) := fun k => by
    rw [List.contains_append]
    congr 1
    simp only [List.contains_cons, List.contains_nil, Bool.or_false]
    exact BEq.comm
  rw [q, q, q, q]
set_option maxRecDepth 100000 in
set_option maxHeartbeats 4000000 in
theorem rFields_no (w : World) (op : Int) (h : op < 1 ∨ 38 < op) : Calls Tryz.prog 77 #[.int .i64 op] w fun e w' => e = .returned (.tuple #[.agg #[.bool false, .bool false, .bool false, .bool false], .bool false]) ∧ Below w.heap.size w w' := by
  obtain ⟨wa, hwa⟩ : ∃ W, W = w.alloc (.cells #[.bool false, .bool false, .bool false, .bool false] 110) := ⟨_, rfl⟩
  obtain ⟨W3, hW3⟩ : ∃ W, W = (wa.alloc (.cells flsV 140)).alloc (.cells #[.bool false, .bool false, .bool false, .bool false] 110) := ⟨_, rfl⟩
  obtain ⟨p, hp⟩ : ∃ p, p = w.heap.size := ⟨_, rfl⟩
  obtain ⟨q, hq⟩ : ∃ q, q = wa.heap.size := ⟨_, rfl⟩
  have HW3 : Hid (FlS w W3 p q false false false false) := by
    have ba : Below w.heap.size w wa := by rw [hwa]; exact below_newR w _
    have ka : wa.heap[p]? = some (.cells #[.bool false, .bool false, .bool false, .bool false] 110 (0, 0)) := by rw [hwa, hp]; exact heap_alloc_new _ _
    have e : W3 = al wa [.cells flsV 140, .cells #[.bool false, .bool false, .bool false, .bool false] 110] := hW3
    have b3 : Below wa.heap.size wa W3 := by rw [e]; exact al_below _ wa
    have lp := (Array.getElem?_eq_some_iff.1 ka).1
    refine ⟨?_, ?_, (b3.block _ lp).trans ka, ba.trans (b3.mono ba.size), ?_⟩
    · rw [e, hq]; exact al_at _ wa 1 (by simp)
    · rw [e, hq]; exact al_at _ wa 0 (by simp)
    · omega
  go_enter Tryz.func77, Tryz.ntmps77
  go_upto_region 1 with fail
  rw [← hwa, ← hp]
  clear hwa hp
  go_upto_region 2 with (refine wpList_store_row rfl 140 _ _ rfl _ flsV rfl rfl 140 _ (heap_alloc_new _ _) (by kernel_rfl) rfl (by kernel_rfl) ?_; rw [setRow_allocE])
  go_upto_region 3 with fail
  rw [← hW3, ← hq]
  clear hW3 hq
  have k2 := HW3.out.box
  have k0 := HW3.out.res
  have x0 : W3.cell? ⟨q + 1, 0, none⟩ = some (.bool false) := cell_arr k2 rfl
  have x1 : W3.cell? ⟨q + 1, 1, none⟩ = some (.bool false) := cell_arr k2 rfl
  have x2 : W3.cell? ⟨q + 1, 2, none⟩ = some (.bool false) := cell_arr k2 rfl
  have x3 : W3.cell? ⟨q + 1, 3, none⟩ = some (.bool false) := cell_arr k2 rfl
  have HFR : Hid _ := HW3.out.fin
  by_cases h1 : op < 1
  · have t1 : decide (op < 1) = true := decide_eq_true h1
    clear h h1 k2
    have t5 : W3.cell? ⟨p, 0, none⟩ = some (.bool false) := cell_arr k0 rfl
    have t6 : W3.cell? ⟨p, 1, none⟩ = some (.bool false) := cell_arr k0 rfl
    have t7 : W3.cell? ⟨p, 2, none⟩ = some (.bool false) := cell_arr k0 rfl
    have t8 : W3.cell? ⟨p, 3, none⟩ = some (.bool false) := cell_arr k0 rfl
    have u5 : W3.frozen? ⟨p, 0, none⟩ = false := fz_of k0
    have u6 : W3.frozen? ⟨p, 1, none⟩ = false := fz_of k0
    have u7 : W3.frozen? ⟨p, 2, none⟩ = false := fz_of k0
    have u8 : W3.frozen? ⟨p, 3, none⟩ = false := fz_of k0
    clear k0
    go_wp2_with fail
    refine bodyPost_ret (v := .tuple #[.agg #[.bool false, .bool false, .bool false, .bool false], .bool false]) ?_ rfl ⟨rfl, HFR.out.low⟩
    exact results_row_tmp Tryz.results77 _ _ p 110 _ (0, 0) _ rfl HFR.out.box Tryz.underlying110 rfl (by kernel_rfl)
  · have t1 : decide (op < 1) = false := decide_eq_false h1
    have t2 : decide (38 < op) = true := decide_eq_true (by omega)
    have t3 : decide (op > 38) = true := t2
    clear h h1 k2
    have t5 : W3.cell? ⟨p, 0, none⟩ = some (.bool false) := cell_arr k0 rfl
    have t6 : W3.cell? ⟨p, 1, none⟩ = some (.bool false) := cell_arr k0 rfl
    have t7 : W3.cell? ⟨p, 2, none⟩ = some (.bool false) := cell_arr k0 rfl
    have t8 : W3.cell? ⟨p, 3, none⟩ = some (.bool false) := cell_arr k0 rfl
    have u5 : W3.frozen? ⟨p, 0, none⟩ = false := fz_of k0
    have u6 : W3.frozen? ⟨p, 1, none⟩ = false := fz_of k0
    have u7 : W3.frozen? ⟨p, 2, none⟩ = false := fz_of k0
    have u8 : W3.frozen? ⟨p, 3, none⟩ = false := fz_of k0
    clear k0
    go_wp2_with fail
    refine bodyPost_ret (v := .tuple #[.agg #[.bool false, .bool false, .bool false, .bool false], .bool false]) ?_ rfl ⟨rfl, HFR.out.low⟩
    exact results_row_tmp Tryz.results77 _ _ p 110 _ (0, 0) _ rfl HFR.out.box Tryz.underlying110 rfl (by kernel_rfl)
set_option maxRecDepth 100000 in
set_option maxHeartbeats 4000000 in
theorem rFields_yes (w : World) (k : Nat) (hk1 : 1 ≤ k) (hk2 : k < 39) : Calls Tryz.prog 77 #[.int .i64 k] w fun e w' => e = .returned (.tuple #[.agg #[.bool (decide (1 ≤ rcnt k)), .bool (decide (2 ≤ rcnt k)), .bool (decide (3 ≤ rcnt k)), .bool (hasN k)], .bool true]) ∧ Below w.heap.size w w' := by
  obtain ⟨op, hop⟩ : ∃ op : Int, op = (k : Int) := ⟨_, rfl⟩
  obtain ⟨fa, hfa⟩ : ∃ b, b = decide (1 ≤ rcnt k) := ⟨_, rfl⟩
  obtain ⟨fb, hfb⟩ : ∃ b, b = decide (2 ≤ rcnt k) := ⟨_, rfl⟩
  obtain ⟨fc, hfc⟩ : ∃ b, b = decide (3 ≤ rcnt k) := ⟨_, rfl⟩
  obtain ⟨fn, hfn⟩ : ∃ b, b = hasN k := ⟨_, rfl⟩
  obtain ⟨L, hL⟩ : ∃ L, L = FLS.getD k [] := ⟨_, rfl⟩
  obtain ⟨m, hm⟩ : ∃ m, m = L.length := ⟨_, rfl⟩
  obtain ⟨f1, f2, f3⟩ := fl_all k hk2
  have f4 := f3 hk1
  rw [← hL, ← hm] at f1
  rw [← hL] at f2 f4
  rw [← hfa, ← hfb, ← hfc, ← hfn] at f4 ⊢
  have HFL : Hid (m = L.length ∧ m ≤ 3 ∧ (L.all fun c => decide (c = 97 ∨ c = 98 ∨ c = 99 ∨ c = 110)) = true ∧ flG L L.length = (fa, fb, fc, fn)) := ⟨hm, f1, f2, f4⟩
  obtain ⟨sv, hsv⟩ : ∃ s, s = bs L := ⟨_, rfl⟩
  have hssz : sv.size = m := by rw [hsv, bs_size, hm]
  have HSV : Hid (sv = bs L) := hsv
  have t0 : decide ((k : Int) < 1) = false := decide_eq_false (by omega)
  have t1 : decide (38 < (k : Int)) = false := decide_eq_false (by omega)
  have t2 : decide ((k : Int) > 38) = false := t1
  clear f1 f2 f3 f4 hfa hfb hfc hfn hm hsv hop
  obtain ⟨wa, hwa⟩ : ∃ W, W = w.alloc (.cells #[.bool false, .bool false, .bool false, .bool false] 110) := ⟨_, rfl⟩
  obtain ⟨W3, hW3⟩ : ∃ W, W = (wa.alloc (.cells flsV 140)).alloc (.cells #[.bool false, .bool false, .bool false, .bool false] 110) := ⟨_, rfl⟩
  obtain ⟨p, hp⟩ : ∃ p, p = w.heap.size := ⟨_, rfl⟩
  obtain ⟨q, hq⟩ : ∃ q, q = wa.heap.size := ⟨_, rfl⟩
  have HW3 : Hid (FlS w W3 p q false false false false) := by
    have ba : Below w.heap.size w wa := by rw [hwa]; exact below_newR w _
    have ka : wa.heap[p]? = some (.cells #[.bool false, .bool false, .bool false, .bool false] 110 (0, 0)) := by rw [hwa, hp]; exact heap_alloc_new _ _
    have e : W3 = al wa [.cells flsV 140, .cells #[.bool false, .bool false, .bool false, .bool false] 110] := hW3
    have b3 : Below wa.heap.size wa W3 := by rw [e]; exact al_below _ wa
    have lp := (Array.getElem?_eq_some_iff.1 ka).1
    refine ⟨?_, ?_, (b3.block _ lp).trans ka, ba.trans (b3.mono ba.size), ?_⟩
    · rw [e, hq]; exact al_at _ wa 1 (by simp)
    · rw [e, hq]; exact al_at _ wa 0 (by simp)
    · omega
  go_enter Tryz.func77, Tryz.ntmps77
  go_upto_region 1 with fail
  rw [← hwa, ← hp]
  clear hwa hp
  go_upto_region 2 with (refine wpList_store_row rfl 140 _ _ rfl _ flsV rfl rfl 140 _ (heap_alloc_new _ _) (by kernel_rfl) rfl (by kernel_rfl) ?_; rw [setRow_allocE])
  go_upto_region 3 with fail
  rw [← hW3, ← hq]
  clear hW3 hq
  have k2 := HW3.out.box
  have k0 := HW3.out.res
  have x0 : W3.cell? ⟨q + 1, 0, none⟩ = some (.bool false) := cell_arr k2 rfl
  have x1 : W3.cell? ⟨q + 1, 1, none⟩ = some (.bool false) := cell_arr k2 rfl
  have x2 : W3.cell? ⟨q + 1, 2, none⟩ = some (.bool false) := cell_arr k2 rfl
  have x3 : W3.cell? ⟨q + 1, 3, none⟩ = some (.bool false) := cell_arr k2 rfl
  have HFT : Hid (flsV[k]? = some (.string sv)) := by have := flsV_at k hk2; rw [← hL] at this; rw [HSV.out]; exact this
  clear k2 k0 x0 x1 x2 x3 hL
  go_wp2_with fail
  go_loopw [6] (fun v wr => ∃ (i : Nat) (a b c n : Bool), i ≤ m ∧ v = .int .i64 (i : Int) ∧ Hid (FlS w wr p q a b c n) ∧ Hid (FlI L i a b c n)) (fun v _ => m - (intOf v).toNat)
  case atStart => exact ⟨0, false, false, false, false, Nat.zero_le _, rfl, HW3.out, ⟨by simp [flG]⟩⟩
  case round =>
    obtain ⟨i, a, b, c, n, hi, rfl, HS, HI⟩ := hrel
    have xt : wr.cell? ⟨q, k, none⟩ = some (.string sv) := cell_arr HS.out.tab HFT.out
    have hq1 : q < wr.heap.size := (Array.getElem?_eq_some_iff.1 HS.out.tab).1
    by_cases hlt : i < m
    · have t9 : decide ((i : Int) < (m : Int)) = true := decide_eq_true (by omega)
      have HLT : Hid (i < m) := hlt
      have hm3 : m ≤ 3 := HFL.out.2.1
      have hsi : i < sv.size := by omega
      have hLi : i < L.length := by have := HFL.out.1; omega
      obtain ⟨x, hx⟩ : ∃ x, L[i] = x := ⟨_, rfl⟩
      have hgx : ∀ h : i < sv.size, sv[i]'h = x := fun h => by
        have e := HSV.out
        subst e
        rw [bs_getE, hx]
      have hcs : x = 97 ∨ x = 98 ∨ x = 99 ∨ x = 110 := by
        have := List.all_eq_true.1 HFL.out.2.2.1 x (by rw [← hx]; exact List.getElem_mem _)
        simpa using this
      have HN := HI.out.next hLi hx
      have kq := HS.out.box
      have x0 : wr.cell? ⟨q + 1, 0, none⟩ = some (.bool a) := cell_arr kq rfl
      have x1 : wr.cell? ⟨q + 1, 1, none⟩ = some (.bool b) := cell_arr kq rfl
      have x2 : wr.cell? ⟨q + 1, 2, none⟩ = some (.bool c) := cell_arr kq rfl
      have x3 : wr.cell? ⟨q + 1, 3, none⟩ = some (.bool n) := cell_arr kq rfl
      have z0 : wr.frozen? ⟨q + 1, 0, none⟩ = false := fz_of kq
      have z1 : wr.frozen? ⟨q + 1, 1, none⟩ = false := fz_of kq
      have z2 : wr.frozen? ⟨q + 1, 2, none⟩ = false := fz_of kq
      have z3 : wr.frozen? ⟨q + 1, 3, none⟩ = false := fz_of kq
      have hq2 : q + 1 < wr.heap.size := (Array.getElem?_eq_some_iff.1 kq).1
      clear kq hx
      rcases hcs with rfl | rfl | rfl | rfl
      · have HQ : Hid (FlI L (i + 1) true b c n) := by show FlI L (i + 1) true b c n; simpa using HN
        have HS2 : Hid (FlS w (wr.setCell ⟨q + 1, 0, none⟩ (.bool true)) p q true b c n) := HS.out.set 0 true rfl
        have hgy : ∀ h : i < sv.size, ((sv[i]'h).toNat : Int) = 97 := fun h => by rw [hgx h]; rfl
        clear HN hgx HS HI
        go_wp2_with fail
        go_roundw
        case rel => exact ⟨i + 1, true, b, c, n, by have := HLT.out; omega, by go_num, HS2, HQ⟩
        case measure => have := HLT.out; simp [intOf]; omega
      · have HQ : Hid (FlI L (i + 1) a true c n) := by show FlI L (i + 1) a true c n; simpa using HN
        have HS2 : Hid (FlS w (wr.setCell ⟨q + 1, 1, none⟩ (.bool true)) p q a true c n) := HS.out.set 1 true rfl
        have hgy : ∀ h : i < sv.size, ((sv[i]'h).toNat : Int) = 98 := fun h => by rw [hgx h]; rfl
        clear HN hgx HS HI
        go_wp2_with fail
        go_roundw
        case rel => exact ⟨i + 1, a, true, c, n, by have := HLT.out; omega, by go_num, HS2, HQ⟩
        case measure => have := HLT.out; simp [intOf]; omega
      · have HQ : Hid (FlI L (i + 1) a b true n) := by show FlI L (i + 1) a b true n; simpa using HN
        have HS2 : Hid (FlS w (wr.setCell ⟨q + 1, 2, none⟩ (.bool true)) p q a b true n) := HS.out.set 2 true rfl
        have hgy : ∀ h : i < sv.size, ((sv[i]'h).toNat : Int) = 99 := fun h => by rw [hgx h]; rfl
        clear HN hgx HS HI
        go_wp2_with fail
        go_roundw
        case rel => exact ⟨i + 1, a, b, true, n, by have := HLT.out; omega, by go_num, HS2, HQ⟩
        case measure => have := HLT.out; simp [intOf]; omega
      · have HQ : Hid (FlI L (i + 1) a b c true) := by show FlI L (i + 1) a b c true; simpa using HN
        have HS2 : Hid (FlS w (wr.setCell ⟨q + 1, 3, none⟩ (.bool true)) p q a b c true) := HS.out.set 3 true rfl
        have hgy : ∀ h : i < sv.size, ((sv[i]'h).toNat : Int) = 110 := fun h => by rw [hgx h]; rfl
        clear HN hgx HS HI
        go_wp2_with fail
        go_roundw
        case rel => exact ⟨i + 1, a, b, c, true, by have := HLT.out; omega, by go_num, HS2, HQ⟩
        case measure => have := HLT.out; simp [intOf]; omega
    · have him : i = m := by omega
      have e : (a, b, c, n) = (fa, fb, fc, fn) := by rw [← HI.out.out, him, HFL.out.1]; exact HFL.out.2.2.2
      simp only [Prod.mk.injEq] at e
      obtain ⟨rfl, rfl, rfl, rfl⟩ := e
      have t9 : decide ((i : Int) < (m : Int)) = false := decide_eq_false (by omega)
      have kq := HS.out.box
      have k0 := HS.out.res
      have x0 : wr.cell? ⟨q + 1, 0, none⟩ = some (.bool a) := cell_arr kq rfl
      have x1 : wr.cell? ⟨q + 1, 1, none⟩ = some (.bool b) := cell_arr kq rfl
      have x2 : wr.cell? ⟨q + 1, 2, none⟩ = some (.bool c) := cell_arr kq rfl
      have x3 : wr.cell? ⟨q + 1, 3, none⟩ = some (.bool n) := cell_arr kq rfl
      have hq2 : q + 1 < wr.heap.size := (Array.getElem?_eq_some_iff.1 kq).1
      have HFR : Hid _ := HS.out.fin
      clear kq him HI HFT HW3
      have t5 : wr.cell? ⟨p, 0, none⟩ = some (.bool false) := cell_arr k0 rfl
      have t6 : wr.cell? ⟨p, 1, none⟩ = some (.bool false) := cell_arr k0 rfl
      have t7 : wr.cell? ⟨p, 2, none⟩ = some (.bool false) := cell_arr k0 rfl
      have t8 : wr.cell? ⟨p, 3, none⟩ = some (.bool false) := cell_arr k0 rfl
      have u5 : wr.frozen? ⟨p, 0, none⟩ = false := fz_of k0
      have u6 : wr.frozen? ⟨p, 1, none⟩ = false := fz_of k0
      have u7 : wr.frozen? ⟨p, 2, none⟩ = false := fz_of k0
      have u8 : wr.frozen? ⟨p, 3, none⟩ = false := fz_of k0
      clear k0
      go_wp2_with fail
      refine bodyPost_ret (v := .tuple #[.agg #[.bool a, .bool b, .bool c, .bool n], .bool true]) ?_ rfl ⟨rfl, HFR.out.low⟩
      exact results_row_tmp Tryz.results77 _ _ p 110 _ (0, 0) _ rfl HFR.out.box Tryz.underlying110 rfl (by kernel_rfl)
end Go.Proofs.YtfofmmkihhnfmaaGreatDoor
