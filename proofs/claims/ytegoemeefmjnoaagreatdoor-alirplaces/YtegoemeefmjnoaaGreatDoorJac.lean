import Derived.Deep.Cut
import Derived.Test.YtegoemeefmjnoaaGreatDoorJab
set_option linter.unusedVariables false
set_option linter.unusedSimpArgs false
namespace Go.Proofs.YtegoemeefmjnoaaGreatDoor
open Go.ChangeShapes Go.WideShapes Go.ChangeAt Go.RowKit
/- What a run has told lies at mb, o: its events, End, Kind, Value, Steps, Words, Depth, and whether it rests. -/
theorem told_over (w : World) {mb o : Nat} {r : Bool} {fin : Int} (c7 : w.cell? ⟨mb, o + 7, none⟩ = some (.bool r)) (c1 : w.cell? ⟨mb, o + 1, none⟩ = some (.int .i64 fin)) :
 Calls Tryz.prog 29 #[.pointer (some ⟨mb, o, none⟩)] w fun e w' => e = .returned (.bool (r || !decide (fin = 0))) /\ w' = w := by
 cases r with
 | true =>
   go_enter Tryz.func29, Tryz.ntmps29
   go_wp2_with fail
   go_ret
   exact ⟨rfl, rfl⟩
 | false =>
   by_cases h : fin = 0
   ·subst h
    go_enter Tryz.func29, Tryz.ntmps29
    go_wp2_with fail
    go_ret
    exact ⟨rfl, rfl⟩
   ·have hb : (fin != 0) = true := by simp [h]
    have hd : decide (fin = 0) = false := by simp [h]
    go_enter Tryz.func29, Tryz.ntmps29
    go_wp2_with fail
    go_ret
    exact ⟨by simp [h], rfl⟩
theorem told_made_no (w : World) {mb o : Nat} (c7 : w.cell? ⟨mb, o + 7, none⟩ = some (.bool true)) :
 Calls Tryz.prog 32 #[.pointer (some ⟨mb, o, none⟩)] w fun e w' => e = .returned (.bool false) /\ w' = w := by
 go_enter Tryz.func32, Tryz.ntmps32
 go_wp2_with fail
 go_ret
 exact ⟨rfl, rfl⟩
theorem told_made_yes (w : World) {mb o : Nat} {n : Int} (c7 : w.cell? ⟨mb, o + 7, none⟩ = some (.bool false)) (c4 : w.cell? ⟨mb, o + 4, none⟩ = some (.int .i64 n)) (fz : w.frozen? ⟨mb, o + 4, none⟩ = false) (h0 : 0 <= n) (h1 : n <= 4611686018427387904) :
 Calls Tryz.prog 32 #[.pointer (some ⟨mb, o, none⟩)] w fun e w' => e = .returned (.bool true) /\ w' = w.setCell ⟨mb, o + 4, none⟩ (.int .i64 (n + 1)) := by
 go_enter Tryz.func32, Tryz.ntmps32
 go_wp2_with fail
 go_ret
 exact ⟨rfl, rfl⟩
theorem told_exit (w : World) {mb o : Nat} {n : Int} (c1 : w.cell? ⟨mb, o + 1, none⟩ = some (.int .i64 n)) (fz : w.frozen? ⟨mb, o + 1, none⟩ = false) :
 Calls Tryz.prog 66 #[.pointer (some ⟨mb, o, none⟩)] w fun e w' => e = .returned (.tuple #[]) /\ w' = w.setCell ⟨mb, o + 1, none⟩ (.int .i64 1) := by
 go_enter Tryz.func66, Tryz.ntmps66
 go_wp2_with fail
 exact bodyPost_end (v := .tuple #[]) (by simp [results, Tryz.results66, go_sem]) rfl ⟨rfl, rfl⟩
theorem told_panic (w : World) {mb o : Nat} {k v a b c : Int} (c1 : w.cell? ⟨mb, o + 1, none⟩ = some (.int .i64 a)) (c2 : w.cell? ⟨mb, o + 2, none⟩ = some (.int .i64 b)) (c3 : w.cell? ⟨mb, o + 3, none⟩ = some (.int .i64 c)) (z1 : w.frozen? ⟨mb, o + 1, none⟩ = false) (z2 : w.frozen? ⟨mb, o + 2, none⟩ = false) (z3 : w.frozen? ⟨mb, o + 3, none⟩ = false) :
 Calls Tryz.prog 54 #[.pointer (some ⟨mb, o, none⟩), .int .i64 k, .int .i64 v] w fun e w' => e = .returned (.tuple #[]) /\ w' = ((w.setCell ⟨mb, o + 1, none⟩ (.int .i64 2)).setCell ⟨mb, o + 2, none⟩ (.int .i64 k)).setCell ⟨mb, o + 3, none⟩ (.int .i64 v) := by
 go_enter Tryz.func54, Tryz.ntmps54
 go_wp2_with fail
 exact bodyPost_end (v := .tuple #[]) (by simp [results, Tryz.results54, go_sem]) rfl ⟨rfl, rfl⟩
theorem told_stuck (w : World) {mb o : Nat} {k a b : Int} (c1 : w.cell? ⟨mb, o + 1, none⟩ = some (.int .i64 a)) (c2 : w.cell? ⟨mb, o + 2, none⟩ = some (.int .i64 b)) (z1 : w.frozen? ⟨mb, o + 1, none⟩ = false) (z2 : w.frozen? ⟨mb, o + 2, none⟩ = false) :
 Calls Tryz.prog 85 #[.pointer (some ⟨mb, o, none⟩), .int .i64 k] w fun e w' => e = .returned (.tuple #[]) /\ w' = (w.setCell ⟨mb, o + 1, none⟩ (.int .i64 3)).setCell ⟨mb, o + 2, none⟩ (.int .i64 k) := by
 go_enter Tryz.func85, Tryz.ntmps85
 go_wp2_with fail
 exact bodyPost_end (v := .tuple #[]) (by simp [results, Tryz.results85, go_sem]) rfl ⟨rfl, rfl⟩
theorem told_words (w : World) {mb o : Nat} {k a : Int} (c5 : w.cell? ⟨mb, o + 5, none⟩ = some (.int .i64 a)) (z5 : w.frozen? ⟨mb, o + 5, none⟩ = false) :
 Calls Tryz.prog 90 #[.pointer (some ⟨mb, o, none⟩), .int .i64 k] w fun e w' => e = .returned (.tuple #[]) /\ w' = w.setCell ⟨mb, o + 5, none⟩ (.int .i64 k) := by
 go_enter Tryz.func90, Tryz.ntmps90
 go_wp2_with fail
 exact bodyPost_end (v := .tuple #[]) (by simp [results, Tryz.results90, go_sem]) rfl ⟨rfl, rfl⟩
theorem told_deep (w : World) {mb o : Nat} {k a : Int} (c6 : w.cell? ⟨mb, o + 6, none⟩ = some (.int .i64 a)) (z6 : w.frozen? ⟨mb, o + 6, none⟩ = false) :
 Calls Tryz.prog 41 #[.pointer (some ⟨mb, o, none⟩), .int .i64 k] w fun e w' => e = .returned (.tuple #[]) /\ w' = w.setCell ⟨mb, o + 6, none⟩ (.int .i64 (max a k)) := by
 by_cases h : a <= k
 ·have e : max a k = k := by omega
  rw [e]
  clear e
  go_enter Tryz.func41, Tryz.ntmps41
  go_wp2_with fail
  all_goals exact bodyPost_end (v := .tuple #[]) (by simp [results, Tryz.results41, go_sem]) rfl ⟨rfl, by first | rfl | (congr 2; omega)⟩
 ·have e : max a k = a := by omega
  rw [e]
  clear e
  go_enter Tryz.func41, Tryz.ntmps41
  go_wp2_with fail
  all_goals exact bodyPost_end (v := .tuple #[]) (by simp [results, Tryz.results41, go_sem]) rfl ⟨rfl, by first | rfl | (congr 2; omega)⟩
theorem flat_len {α : Type} {z : Nat} : ∀ (xs : List (List α)), (∀ x ∈ xs, x.length = z) -> xs.flatten.length = xs.length * z
 | [], _ => by simp
 | x :: xs, h => by
   have h1 := flat_len xs fun y hy => h y (by simp [hy])
   have h2 := h x (by simp)
   simp only [List.flatten_cons, List.length_append, List.length_cons, h1, h2, Nat.add_mul]
   omega
theorem flat_at {α : Type} {z : Nat} : ∀ (xs : List (List α)), (∀ x ∈ xs, x.length = z) -> ∀ i (hi : i < xs.length) r, r < z -> xs.flatten[i * z + r]? = (xs[i])[r]?
 | [], _, i, hi, _, _ => by simp at hi
 | x :: xs, h, i, hi, r, hr => by
   have h2 := h x (by simp)
   cases i with
   | zero =>
     rw [List.flatten_cons, Nat.zero_mul, Nat.zero_add, List.getElem?_append_left (by omega)]
     rfl
   | succ i =>
     have h1 := flat_at xs (fun y hy => h y (by simp [hy])) i (by simpa using hi) r hr
     rw [List.flatten_cons, List.getElem?_append_right (by rw [h2, Nat.add_mul]; omega), h2, show (i + 1) * z + r - z = i * z + r by rw [Nat.add_mul]; omega, h1]
     rfl
structure Row (w : World) (B : Nat) (e : TypeId) (z : Nat) (v : Value) (xs : List (List Value)) : Prop where
 out : w.ownsRow B e z v xs.length xs.flatten
 len : ∀ x ∈ xs, x.length = z
theorem Row.nil (w : World) (B : Nat) (e : TypeId) (z : Nat) : Row w B e z (.slice none 0 0) [] := ⟨World.ownsRow_nil _ _ _ _, fun x hx => by simp at hx⟩
theorem Row.move {w w' : World} {B e z v xs} (h : Row w B e z v xs) (hk : ∀ g, v.ownBlock = some g -> w'.heap[g]? = w.heap[g]?) : Row w' B e z v xs := ⟨own_move h.out hk, h.len⟩
theorem Row.keep {w w' : World} {B e z v xs} (h : Row w B e z v xs) (hb : Below w.heap.size w w') : Row w' B e z v xs := h.move fun g hg => hb.block g (own_block h.out hg).2
theorem step_append_row {w : World} {ops : Array Oper} {op : Oper} {a : Act} {K : Act -> World -> Prop} {Q : Exit -> Act -> World -> Prop} {E : Prop} (hgd : op.guard = none) (s x : Operand) (T e : TypeId) (z : Nat) (zv : Value) (by_ : Nat)
 (ho : op.op = .call { callee := .builtin .append, args := #[s, x], argTypes := #[T, T] }) (hT : Tryz.prog.underlying T = some (.slice e)) (hi0 : (Tryz.prog.info? e).map (fun i => (i.zero, i.size, i.bytes)) = some (some zv, z, by_)) (hzc : zv.cells.size = z) (hz : 0 < z) (hby : 0 < by_ /\ by_ <= 1000)
 (B : Nat) (v : Value) (xs : List (List Value)) (hs : a.eval s = v) (hown : Row w B e z v xs) (g : Nat) (hx : a.eval x = .slice (some ⟨g, 0, none⟩) 1 1) (cs : List Value) (hcl : cs.length = z) (hc : ∀ j u, cs[j]? = some u -> w.cell? ((⟨g, 0, none⟩ : Addr).add j) = some u) (h1 : ∀ u ∈ cs, u.oneCell' = true)
 (hl : xs.length + 1 <= 1000000000) (hB : B <= w.heap.size)
 (h : ∀ v' w', Row w' B e z v' (xs ++ [cs]) -> GI B w w' v v' -> K (a.put op.dst v') w') : if Region.wanted op (yielded ops a.tmps) = true then Oper.wp Tryz.prog op a w K Q else E := by
 have hw : Region.wanted op (yielded ops a.tmps) = true := by simp [Region.wanted, hgd]
 rw [if_pos hw]
 obtain ⟨i0, hi, hz0, hz1, hz2⟩ := info_parts hi0
 obtain ⟨v', w', hr, h2, h3, h4⟩ := run_append_where (P := Tryz.prog) (w := w) B T op.type e i0 zv z by_ hT hi hz0 hz1 hz2 hzc hz v xs.length xs.flatten hown.out ⟨g, 0, none⟩ 1 1 (by omega) cs (by omega) hc h1 (by unfold maxLen; omega) (by have := hby.2; have : (xs.length + 1) * by_ <= 1000000000 * 1000 := Nat.mul_le_mul hl (by omega); omega) hB
 unfold Oper.wp execOp
 simp only [ho, resolve, invoke, builtin, Sem.run_bind, Sem.run_pure, Result.andThen_ok, List.map_toArray, List.map_cons, List.map_nil, hs, hx, hr]
 refine h v' w' ⟨by simpa using h2, fun y hy => ?_⟩ ⟨?_, fun b h5 h6 => grown_at h3 h5 h6, fun b hb => ?_⟩
 ·rcases List.mem_append.1 hy with q | q
  ·exact hown.len y q
  ·simp at q; rw [q]; exact hcl
 ·exact (Below.refl _ _).grown h3 hB (fun k hk => (own_block hown.out hk).1)
 ·rcases h4.out with ⟨g', cap, e1, e2⟩ | ⟨e1, _⟩
  ·subst e1 e2; exact .inl hb
  ·rw [e1] at hb; cases hb; right; exact Nat.le_refl _
theorem Row.cell {w : World} {B e z b n c xs} (h : Row w B e z (.slice (some ⟨b, 0, none⟩) n c) xs) (hn : n = xs.length) {i : Nat} (hi : i < xs.length) {r : Nat} (hr : r < z) {u : Value} (hu : (xs[i])[r]? = some u) : w.cell? ⟨b, i * z + r, none⟩ = some u := by
 subst hn
 have hlt : i * z + r < xs.length * z := by
  have : (i + 1) * z <= xs.length * z := Nat.mul_le_mul_right z hi
  rw [Nat.add_mul] at this
  omega
 rw [own_cell h.out (i * z + r) hlt, flat_at xs h.len i hi r hr, hu]
theorem Row.some {w : World} {B e z v xs} (h : Row w B e z v xs) (hne : 0 < xs.length) : ∃ b c cs, v = .slice (some ⟨b, 0, none⟩) xs.length c /\ xs.length <= c /\ c <= 9223372036854775807 /\ B <= b /\ w.heap[b]? = some (.cells cs e (0, 0)) := by
 obtain ⟨g, c, e1, h1, h2, h3, h4⟩ := own_some h.out hne
 rcases h.out.2 with ⟨q, _⟩ | ⟨g2, cap, cur, q, _, p3, _⟩
 ·rw [e1] at q; cases q
 ·rw [e1] at q; cases q
  exact ⟨g, c, cur, e1, h1, h2, h3, p3⟩
theorem info_ev : (Tryz.prog.info? 52).map (fun i => (i.zero, i.size, i.bytes)) = some (some (.agg #[.int .i64 0, .int .i64 0]), 2, 16) := by kernel_rfl
theorem cells_newR (w : World) (cs : List Value) (t : TypeId) : ∀ j u, cs[j]? = some u -> (w.alloc (.cells cs.toArray t)).cell? ((⟨w.heap.size, 0, none⟩ : Addr).add j) = some u := by
 intro j u hj
 have e : (⟨w.heap.size, 0, none⟩ : Addr).add j = ⟨w.heap.size, j, none⟩ := by
  cases j with
  | zero => rfl
  | succ j => simp [Addr.add]
 rw [e]
 exact cell_arr (heap_alloc_new _ _) (by simpa using hj)
def evc (e : Int × Int) : List Value := [.int .i64 e.1, .int .i64 e.2]
set_option maxRecDepth 10000 in
set_option maxHeartbeats 1000000 in
theorem told_event (w : World) {mb o B : Nat} {v : Value} {E : List (Int × Int)} {cs : Array Value} {t : TypeId} (hm : w.heap[mb]? = some (.cells cs t (0, 0))) (ht : t ≠ 52) (c0 : w.cell? ⟨mb, o, none⟩ = some v) (hR : Row w B 52 2 v (E.map evc)) (hn : E.length < 1048576) (hB : B <= w.heap.size) (k x : Int) :
 Calls Tryz.prog 72 #[.pointer (some ⟨mb, o, none⟩), .int .i64 k, .int .i64 x] w fun e w' => e = .returned (.bool true) /\ ∃ v' w5, Row w5 B 52 2 v' ((E ++ [(k, x)]).map evc) /\ GI B w w5 v v' /\ w5.heap[mb]? = w.heap[mb]? /\ w' = w5.setCell ⟨mb, o, none⟩ v' := by
 obtain ⟨ao, c, ev, hc1, hc2⟩ := own_slice hR.out
 have hl : (E.map evc).length = E.length := by simp
 rw [hl] at ev hc1
 have hne : ((E.length : Int) == 1048576) = false := by simp; omega
 have hmb : mb < w.heap.size := (gl hm)
 have HR : Hid (Row (w.alloc (.cells #[.int .i64 k, .int .i64 x] 52)) B 52 2 v (E.map evc)) := hR.keep ((Below.refl _ _).alloc (Nat.le_refl _) _)
 have HNX : Hid (∀ v' w5, Row w5 B 52 2 v' (E.map evc ++ [[.int .i64 k, .int .i64 x]]) -> GI B (w.alloc (.cells #[.int .i64 k, .int .i64 x] 52)) w5 v v' -> (Row w5 B 52 2 v' ((E ++ [(k, x)]).map evc) /\ GI B w w5 v v' /\ w5.heap[mb]? = w.heap[mb]?) /\ w5.cell? ⟨mb, o, none⟩ = some v /\ w5.frozen? ⟨mb, o, none⟩ = false) := fun v' w5 h5 g5 => by
  have hno := own_not hR.out hm (fun q => ht q.symm)
  have e5 : w5.heap[mb]? = w.heap[mb]? := by
   rw [g5.blk mb (by simp; omega) hno, heap_alloc_old _ _ hmb]
  refine ⟨⟨by simpa [evc] using h5, ⟨((Below.refl _ _).alloc hB _).trans g5.bel, fun g hg hv => ?_, fun g hg => ?_⟩, e5⟩, ?_, fz_of (e5.trans hm)⟩
  ·rw [g5.blk g (by simp; omega) hv, heap_alloc_old _ _ hg]
  ·rcases g5.own g hg with q | q
   ·exact .inl q
   ·right; simp at q; omega
  ·rw [<- c0]; exact World.cell?_of_block (w := w) e5
 subst ev
 have HCN : Hid (∀ j u, ([.int .i64 k, .int .i64 x] : List Value)[j]? = some u -> (w.alloc (.cells #[.int .i64 k, .int .i64 x] 52)).cell? ((⟨w.heap.size, 0, none⟩ : Addr).add j) = some u) := cells_newR w [.int .i64 k, .int .i64 x] _
 have hsz : B <= (w.alloc (.cells #[.int .i64 k, .int .i64 x] 52)).heap.size := by simp; omega
 have hlx : (E.map evc).length + 1 <= 1000000000 := by rw [hl]; omega
 have hcm : E.length <= 9223372036854775807 := by omega
 clear hR hm hl
 go_enter Tryz.func72, Tryz.ntmps72
 go_wp2_with (first
  | (at_builtin; refine wpList_step fun K hK => ?_; refine step_append_row rfl _ _ 46 52 2 _ 16 rfl Tryz.underlying46 info_ev rfl (by decide) (by decide) B (.slice ao E.length c) (E.map evc) rfl HR.out w.heap.size rfl [.int .i64 k, .int .i64 x] rfl HCN.out (fun u hu => by simp at hu; rcases hu with rfl | rfl <;> rfl) hlx hsz ?_; intro v7 w7 h7 g7; refine hK _ _ ?_; clear hK
     obtain ⟨a7, c7, e7, _, _⟩ := own_slice h7.out
     obtain ⟨n7, hn7⟩ : ∃ n, n = (E.map evc ++ [([.int .i64 k, .int .i64 x] : List Value)]).length := ⟨_, rfl⟩
     rw [<- hn7] at e7
     clear hn7
     subst e7
     have N := HNX.out _ w7 h7 g7
     have N1 : Hid _ := N.1
     have k7 := N.2.1
     have f7 := N.2.2
     clear N h7 g7)
  | go_in)
 go_ret
 exact ⟨rfl, _, _, N1.out.1, N1.out.2.1, N1.out.2.2, rfl⟩
theorem run_append_zeroR {P : Program} {w : World} (base : Nat) (t ty e : TypeId) (i : TypeInfo) (size : Nat) (ht : P.underlying t = some (.slice e)) (hi : P.info? e = some i) (v : Value) (n : Nat) (xs : List Value) (hown : w.ownsRow base e size v n xs) (xo : Option Addr) (c : Nat) :
 (Builtin.append_ #[t, t] ty #[v, .slice xo 0 c]).run P w = .ok v w := by
 rcases hown.2 with ⟨rfl, rfl⟩ | ⟨g, cap, cur, rfl, _, _, hnc, _⟩
 ·cases xo <;> simp [Builtin.append_, run_underlying ht, sizeOf, typeInfo, hi, Builtin.lenOf, Builtin.firstCells, loadCells, loadCellsFrom]
 ·cases xo <;> simp [Builtin.append_, run_underlying ht, sizeOf, typeInfo, hi, Builtin.lenOf, Builtin.firstCells, hnc, storeCells, loadCells, loadCellsFrom]
theorem step_append_rows {w : World} {ops : Array Oper} {op : Oper} {a : Act} {K : Act -> World -> Prop} {Q : Exit -> Act -> World -> Prop} {E : Prop} (hgd : op.guard = none) (s x : Operand) (T e : TypeId) (z : Nat) (zv : Value) (by_ : Nat)
 (ho : op.op = .call { callee := .builtin .append, args := #[s, x], argTypes := #[T, T] }) (hT : Tryz.prog.underlying T = some (.slice e)) (hi0 : (Tryz.prog.info? e).map (fun i => (i.zero, i.size, i.bytes)) = some (some zv, z, by_)) (hzc : zv.cells.size = z) (hz : 0 < z) (hby : 0 < by_ /\ by_ <= 1000)
 (B : Nat) (v : Value) (xs : List (List Value)) (hs : a.eval s = v) (hown : Row w B e z v xs) (ad : Addr) (m c : Nat) (hx : a.eval x = .slice (some ad) m c) (hm0 : 0 < m) (ys : List (List Value)) (hm : m = ys.length) (hyz : ∀ y ∈ ys, y.length = z) (hc : ∀ j u, ys.flatten[j]? = some u -> w.cell? (ad.add j) = some u) (h1 : ∀ u ∈ ys.flatten, u.oneCell' = true)
 (hl : xs.length + m <= 1000000000) (hB : B <= w.heap.size)
 (h : ∀ v' w', Row w' B e z v' (xs ++ ys) -> GI B w w' v v' -> K (a.put op.dst v') w') : if Region.wanted op (yielded ops a.tmps) = true then Oper.wp Tryz.prog op a w K Q else E := by
 have hw : Region.wanted op (yielded ops a.tmps) = true := by simp [Region.wanted, hgd]
 rw [if_pos hw]
 obtain ⟨i0, hi, hz0, hz1, hz2⟩ := info_parts hi0
 obtain ⟨v', w', hr, h2, h3, h4⟩ := run_append_where (P := Tryz.prog) (w := w) B T op.type e i0 zv z by_ hT hi hz0 hz1 hz2 hzc hz v xs.length xs.flatten hown.out ad m c hm0 ys.flatten (by rw [flat_len ys hyz, hm]) hc h1 (by unfold maxLen; omega) (by have := hby.2; have : (xs.length + m) * by_ <= 1000000000 * 1000 := Nat.mul_le_mul hl (by omega); omega) hB
 unfold Oper.wp execOp
 simp only [ho, resolve, invoke, builtin, Sem.run_bind, Sem.run_pure, Result.andThen_ok, List.map_toArray, List.map_cons, List.map_nil, hs, hx, hr]
 refine h v' w' ⟨by simpa [hm] using h2, fun y hy => ?_⟩ ⟨?_, fun b h5 h6 => grown_at h3 h5 h6, fun b hb => ?_⟩
 ·rcases List.mem_append.1 hy with q | q
  ·exact hown.len y q
  ·exact hyz y q
 ·exact (Below.refl _ _).grown h3 hB (fun k hk => (own_block hown.out hk).1)
 ·rcases h4.out with ⟨g', cap, e1, e2⟩ | ⟨e1, _⟩
  ·subst e1 e2; exact .inl hb
  ·rw [e1] at hb; cases hb; right; exact Nat.le_refl _
theorem step_append_rowsG {w : World} {ops : Array Oper} {op : Oper} {a : Act} {K : Act -> World -> Prop} {Q : Exit -> Act -> World -> Prop} {E : Prop} (hgd : op.guard = none) (s x : Operand) (T e : TypeId) (z : Nat) (zv : Value) (by_ : Nat)
 (ho : op.op = .call { callee := .builtin .append, args := #[s, x], argTypes := #[T, T] }) (hT : Tryz.prog.underlying T = some (.slice e)) (hi0 : (Tryz.prog.info? e).map (fun i => (i.zero, i.size, i.bytes)) = some (some zv, z, by_)) (hzc : zv.cells.size = z) (hz : 0 < z) (hby : 0 < by_ /\ by_ <= 1000)
 (B : Nat) (v : Value) (xs : List (List Value)) (hs : a.eval s = v) (hown : Row w B e z v xs) (xo : Option Addr) (m c : Nat) (hx : a.eval x = .slice xo m c) (ys : List (List Value)) (hm : m = ys.length) (hyz : ∀ y ∈ ys, y.length = z) (hc : ys ≠ [] -> ∃ ad, xo = some ad /\ ∀ j u, ys.flatten[j]? = some u -> w.cell? (ad.add j) = some u) (h1 : ∀ u ∈ ys.flatten, u.oneCell' = true)
 (hl : xs.length + m <= 1000000000) (hB : B <= w.heap.size)
 (h : ∀ v' w', Row w' B e z v' (xs ++ ys) -> GI B w w' v v' -> K (a.put op.dst v') w') : if Region.wanted op (yielded ops a.tmps) = true then Oper.wp Tryz.prog op a w K Q else E := by
 rcases Nat.eq_zero_or_pos m with h0 | h0
 ·have hw : Region.wanted op (yielded ops a.tmps) = true := by simp [Region.wanted, hgd]
  have e0 : ys = [] := List.length_eq_zero_iff.1 (by omega)
  rw [if_pos hw]
  obtain ⟨i0, hi, hz0, hz1, hz2⟩ := info_parts hi0
  subst h0
  have hr := run_append_zeroR (P := Tryz.prog) (w := w) B T op.type e i0 z hT hi v xs.length xs.flatten hown.out xo c
  unfold Oper.wp execOp
  simp only [ho, resolve, invoke, builtin, Sem.run_bind, Sem.run_pure, Result.andThen_ok, List.map_toArray, List.map_cons, List.map_nil, hs, hx, hr]
  exact h v w (by rw [e0, List.append_nil]; exact hown) ⟨Below.refl _ _, fun _ _ _ => rfl, fun g hg => .inl hg⟩
 ·obtain ⟨ad, rfl, hc'⟩ := hc (by intro q; rw [q] at hm; simp at hm; omega)
  exact step_append_rows hgd s x T e z zv by_ ho hT hi0 hzc hz hby B v xs hs hown ad m c hx h0 ys hm hyz hc' h1 hl hB h
theorem evc_z (E : List (Int × Int)) : ∀ y ∈ E.map evc, y.length = 2 := fun y hy => by
 obtain ⟨e, _, rfl⟩ := List.mem_map.1 hy
 rfl
theorem evc_one (E : List (Int × Int)) : ∀ u ∈ (E.map evc).flatten, u.oneCell' = true := fun u hu => by
 obtain ⟨l, hl, hu⟩ := List.mem_flatten.1 hu
 obtain ⟨e, _, rfl⟩ := List.mem_map.1 hl
 simp [evc] at hu
 rcases hu with rfl | rfl <;> rfl
theorem add_noneR (b o j : Nat) : (⟨b, o, none⟩ : Addr).add j = ⟨b, o + j, none⟩ := by
 cases j with
 | zero => rfl
 | succ j => simp [Addr.add]
structure Evs (w : World) (ao : Option Addr) (c : Nat) (E : List (Int × Int)) : Prop where
 le : E.length <= c
 mx : c <= 9223372036854775807
 nil : ao = none -> E = []
 out : E ≠ [] -> ∃ b o, ao = some ⟨b, o, none⟩ /\ b < w.heap.size /\ ∀ j u, (E.map evc).flatten[j]? = some u -> w.cell? ((⟨b, o, none⟩ : Addr).add j) = some u
theorem row_empty (w : World) (e : TypeId) (z : Nat) : Row (w.alloc (.cells #[] e)) w.heap.size e z (.slice (some ⟨w.heap.size, 0, none⟩) 0 0) [] := by
 refine Row.mk ?_ (by simp)
 exact ⟨by simp, .inr ⟨w.heap.size, 0, #[], rfl, Nat.le_refl _, heap_alloc_new _ _, Nat.le_refl _, by unfold maxLen; omega, by simp, by simp⟩⟩
set_option maxRecDepth 10000 in
set_option maxHeartbeats 1000000 in
theorem clone_ev (w : World) {ao : Option Addr} {n c : Nat} {E : List (Int × Int)} (hE : Evs w ao c E) (hn : n = E.length) (hsz : n <= 10000000) :
 Calls Tryz.prog 50 #[.slice ao n c] w fun e w' => ∃ v, e = .returned v /\ Row w' w.heap.size 52 2 v (E.map evc) /\ Below w.heap.size w w' := by
 cases ao with
 | none =>
   have e := hE.nil rfl
   subst e
   simp at hn
   subst hn
   have heq : ∀ w : World, (binOp .eql 46 (.slice none 0 c) (.slice none 0 0)).run Tryz.prog w = .ok (.bool true) w := fun _ => by kernel_rfl
   go_enter Tryz.func50, Tryz.ntmps50
   go_wp2_with fail
   go_ret
   exact ⟨_, rfl, Row.nil _ _ _ _, Below.refl _ _⟩
 | some ad =>
   obtain ⟨W, hW⟩ : ∃ W, W = w.alloc (.cells #[] 52) := ⟨_, rfl⟩
   have hR : Row W w.heap.size 52 2 (.slice (some ⟨w.heap.size, 0, none⟩) 0 0) [] := by rw [hW]; exact row_empty w _ 2
   have hb : Below w.heap.size w W := by rw [hW]; exact (Below.refl _ _).alloc (Nat.le_refl _) _
   have HR : Hid _ := hR
   have HB : Hid _ := hb
   have heq : ∀ w : World, (binOp .eql 46 (.slice (some ad) n c) (.slice none 0 0)).run Tryz.prog w = .ok (.bool false) w := fun _ => by kernel_rfl
   have hBs : w.heap.size <= W.heap.size := hb.size
   have HC : Hid (E.map evc ≠ [] -> ∃ a2, some ad = some a2 /\ ∀ j u, (E.map evc).flatten[j]? = some u -> W.cell? (a2.add j) = some u) := fun hne => by
    obtain ⟨b, o, e, hlt, hc⟩ := hE.out (fun q => hne (by rw [q]; rfl))
    refine ⟨ad, rfl, fun j u hu => ?_⟩
    have := hc j u hu
    cases e
    rw [add_noneR] at this ⊢
    exact (hb.cell (p := ⟨b, o + j, none⟩) hlt).trans this
   have HN : Hid (n = (E.map evc).length) := by show _ = _; simp [hn]
   have hlx : ([] : List (List Value)).length + n <= 1000000000 := by simp; omega
   have hcc : n <= c /\ c <= 9223372036854775807 := by have := hE.le; have := hE.mx; omega
   clear hE hn hR hb
   go_enter Tryz.func50, Tryz.ntmps50
   go_wp2_with (first
    | (at_builtin; rw [<- hW]; refine wpList_step fun K hK => ?_; refine step_append_rowsG rfl _ _ 46 52 2 _ 16 rfl Tryz.underlying46 info_ev rfl (by decide) (by decide) w.heap.size (.slice (some ⟨w.heap.size, 0, none⟩) 0 0) [] rfl HR.out (some ad) n c rfl (E.map evc) HN.out (evc_z E) HC.out (evc_one E) hlx hBs ?_; intro v7 w7 h7 g7; refine hK _ _ ?_; clear hK
       have H7 : Hid (Row w7 w.heap.size 52 2 v7 (E.map evc)) := by rw [List.nil_append] at h7; exact h7
       have B7 : Hid (Below w.heap.size w w7) := HB.out.trans g7.bel
       clear h7 g7)
    | go_in)
   go_ret
   exact ⟨_, rfl, H7.out, B7.out⟩
theorem evs_of {w : World} {B : Nat} {v : Value} {E : List (Int × Int)} (h : Row w B 52 2 v (E.map evc)) : ∃ ao c, v = .slice ao E.length c /\ Evs w ao c E := by
 rcases Nat.eq_zero_or_pos E.length with h0 | h0
 ·obtain ⟨ao, c, e, h1, h2⟩ := own_slice h.out
  have hE : E = [] := List.length_eq_zero_iff.1 h0
  subst hE
  exact ⟨ao, c, by simpa using e, by simp, h2, fun _ => rfl, fun q => absurd rfl q⟩
 ·obtain ⟨b, c, cs, e, h1, h2, h3, h4⟩ := h.some (by simpa using h0)
  have hl : (E.map evc).length = E.length := by simp
  subst e
  rw [hl] at h1
  refine ⟨_, c, by rw [hl], h1, h2, fun q => (by cases q), fun _ => ⟨b, 0, rfl, (gl h4), fun j u hu => ?_⟩⟩
  rw [add_noneR, Nat.zero_add]
  have hj : j < (E.map evc).flatten.length := (List.getElem?_eq_some_iff.1 hu).1
  rw [own_cell h.out j (by rw [<- flat_len _ (evc_z E)]; exact hj)]
  exact hu
theorem box_seven {w : World} {gb : Nat} {t : TypeId} {x0 x1 x2 x3 x4 x5 x6 : Value} (h : w.heap[gb]? = some (.cells #[x0, x1, x2, x3, x4, x5, x6] t (0, 0))) (a b c d e f g : Value) : (((((((w.setCell ⟨gb, 0, none⟩ a).setCell ⟨gb, 1, none⟩ b).setCell ⟨gb, 2, none⟩ c).setCell ⟨gb, 3, none⟩ d).setCell ⟨gb, 4, none⟩ e).setCell ⟨gb, 5, none⟩ f).setCell ⟨gb, 6, none⟩ g).heap[gb]? = some (.cells #[a, b, c, d, e, f, g] t (0, 0)) := by
 have h0 := heap_set_at (i := 0) (v := a) h
 have h1 := heap_set_at (i := 1) (v := b) h0
 have h2 := heap_set_at (i := 2) (v := c) h1
 have h3 := heap_set_at (i := 3) (v := d) h2
 have h4 := heap_set_at (i := 4) (v := e) h3
 have h5 := heap_set_at (i := 5) (v := f) h4
 have h6 := heap_set_at (i := 6) (v := g) h5
 rw [h6]; rfl
set_option maxRecDepth 10000 in
set_option maxHeartbeats 2000000 in
theorem told_outcome (w : World) {mb o B : Nat} {v : Value} {E : List (Int × Int)} {x1 x2 x3 x4 x5 x6 : Int} (c0 : w.cell? ⟨mb, o, none⟩ = some v) (c1 : w.cell? ⟨mb, o + 1, none⟩ = some (.int .i64 x1)) (c2 : w.cell? ⟨mb, o + 2, none⟩ = some (.int .i64 x2)) (c3 : w.cell? ⟨mb, o + 3, none⟩ = some (.int .i64 x3)) (c4 : w.cell? ⟨mb, o + 4, none⟩ = some (.int .i64 x4)) (c5 : w.cell? ⟨mb, o + 5, none⟩ = some (.int .i64 x5)) (c6 : w.cell? ⟨mb, o + 6, none⟩ = some (.int .i64 x6)) (hR : Row w B 52 2 v (E.map evc)) (hn : E.length <= 1048576) :
 Calls Tryz.prog 43 #[.pointer (some ⟨mb, o, none⟩)] w fun e w' => ∃ v', e = .returned (.agg #[v', .int .i64 x1, .int .i64 x2, .int .i64 x3, .int .i64 x4, .int .i64 x5, .int .i64 x6]) /\ Row w' w.heap.size 52 2 v' (E.map evc) /\ Below w.heap.size w w' := by
 obtain ⟨ao, c, rfl, hE⟩ := evs_of hR
 have hmb : mb < w.heap.size := block_lt_of_cell c0
 obtain ⟨W1, hW1⟩ : ∃ W, W = (w.alloc (.cells #[.slice none 0 0, .int .i64 0, .int .i64 0, .int .i64 0, .int .i64 0, .int .i64 0, .int .i64 0] 48)).alloc (.cells #[.slice ao E.length c, .int .i64 x1, .int .i64 x2, .int .i64 x3, .int .i64 x4, .int .i64 x5, .int .i64 x6] 48) := ⟨_, rfl⟩
 have b1 : Below w.heap.size w W1 := by rw [hW1]; exact ((Below.refl _ _).alloc (Nat.le_refl _) _).alloc (by simp) _
 have k0 : W1.heap[w.heap.size]? = some (.cells #[.slice none 0 0, .int .i64 0, .int .i64 0, .int .i64 0, .int .i64 0, .int .i64 0, .int .i64 0] 48 (0, 0)) := by rw [hW1, heap_alloc_old _ _ (by simp)]; exact heap_alloc_new _ _
 have k1 : W1.heap[w.heap.size + 1]? = some (.cells #[.slice ao E.length c, .int .i64 x1, .int .i64 x2, .int .i64 x3, .int .i64 x4, .int .i64 x5, .int .i64 x6] 48 (0, 0)) := by
  have := heap_alloc_new (w.alloc (.cells #[.slice none 0 0, .int .i64 0, .int .i64 0, .int .i64 0, .int .i64 0, .int .i64 0, .int .i64 0] 48)) (.cells #[.slice ao E.length c, .int .i64 x1, .int .i64 x2, .int .i64 x3, .int .i64 x4, .int .i64 x5, .int .i64 x6] 48)
  rw [hW1]; simpa using this
 have hE1 : Evs W1 ao c E := ⟨hE.le, hE.mx, hE.nil, fun hne => by
  obtain ⟨b, o2, e, hlt, hc⟩ := hE.out hne
  refine ⟨b, o2, e, by have := b1.size; omega, fun j u hu => ?_⟩
  have := hc j u hu
  rw [add_noneR] at this ⊢
  exact (b1.cell (p := ⟨b, o2 + j, none⟩) hlt).trans this⟩
 have HCL : Hid _ := clone_ev W1 hE1 rfl (by omega)
 have HB1 : Hid _ := b1
 have HK0 : Hid _ := k0
 have HK1 : Hid _ := k1
 have hs1 : w.heap.size + 1 < W1.heap.size := (gl k1)
 have y0 : W1.cell? ⟨w.heap.size + 1, 0, none⟩ = some (.slice ao E.length c) := cell_arr k1 rfl
 obtain ⟨n, hnE⟩ : ∃ n, n = E.length := ⟨_, rfl⟩
 rw [<- hnE] at c0 hW1 y0
 have HNE : Hid (n = E.length) := hnE
 rw [<- hnE] at HCL
 clear hR hE hE1 b1 k0 k1 hnE
 go_enter Tryz.func43, Tryz.ntmps43
 go_upto_region 2 with fail
 rw [<- hW1]
 clear hW1 c0 c1 c2 c3 c4 c5 c6
 try simp only [World.alloc_size]
 go_wp2_with fail
 refine Calls.mono HCL.out ?_
 rintro e w2 ⟨v2, rfl, hR2, b2⟩
 obtain ⟨ao2, cc2, rfl, _⟩ := evs_of hR2
 have q1 := (b2.block _ hs1).trans HK1.out
 have q0 := (b2.block w.heap.size (by omega)).trans HK0.out
 obtain ⟨W3, hW3⟩ : ∃ W, W = w2.setCell ⟨w.heap.size + 1, 0, none⟩ (.slice ao2 E.length cc2) := ⟨_, rfl⟩
 have q1' : W3.heap[w.heap.size + 1]? = some (.cells #[.slice ao2 E.length cc2, .int .i64 x1, .int .i64 x2, .int .i64 x3, .int .i64 x4, .int .i64 x5, .int .i64 x6] 48 (0, 0)) := by
  have := heap_set_at (i := 0) (v := .slice ao2 E.length cc2) q1
  rw [hW3, this]; rfl
 have q0' : W3.heap[w.heap.size]? = some (.cells #[.slice none 0 0, .int .i64 0, .int .i64 0, .int .i64 0, .int .i64 0, .int .i64 0, .int .i64 0] 48 (0, 0)) := by rw [hW3, heap_set_other (by omega)]; exact q0
 obtain ⟨W4, hW4⟩ : ∃ W, W = ((((((W3.setCell ⟨w.heap.size, 0, none⟩ (.slice ao2 E.length cc2)).setCell ⟨w.heap.size, 1, none⟩ (.int .i64 x1)).setCell ⟨w.heap.size, 2, none⟩ (.int .i64 x2)).setCell ⟨w.heap.size, 3, none⟩ (.int .i64 x3)).setCell ⟨w.heap.size, 4, none⟩ (.int .i64 x4)).setCell ⟨w.heap.size, 5, none⟩ (.int .i64 x5)).setCell ⟨w.heap.size, 6, none⟩ (.int .i64 x6) := ⟨_, rfl⟩
 have HRX : Hid (W4.heap[w.heap.size]? = some (.cells #[.slice ao2 E.length cc2, .int .i64 x1, .int .i64 x2, .int .i64 x3, .int .i64 x4, .int .i64 x5, .int .i64 x6] 48 (0, 0))) := by rw [hW4]; exact box_seven q0' _ _ _ _ _ _ _
 have HR4 : Hid (Row W4 w.heap.size 52 2 (.slice ao2 E.length cc2) (E.map evc)) := by
  have hr : Row w2 w.heap.size 52 2 (.slice ao2 E.length cc2) (E.map evc) := by
   refine ⟨⟨hR2.out.1, ?_⟩, hR2.len⟩
   rcases hR2.out.2 with q | ⟨g, cap, cur, e1, e2, e3⟩
   ·exact .inl q
   ·exact .inr ⟨g, cap, cur, e1, by omega, e3⟩
  refine hr.move fun g hg => ?_
  have n1 : g ≠ w.heap.size + 1 := fun q => own_not hr.out q1 (by decide) (q ▸ hg)
  have n0 : g ≠ w.heap.size := fun q => own_not hr.out q0 (by decide) (q ▸ hg)
  rw [hW4, heap_set_other n0, heap_set_other n0, heap_set_other n0, heap_set_other n0, heap_set_other n0, heap_set_other n0, heap_set_other n0, hW3, heap_set_other n1]
 have HB4 : Hid (Below w.heap.size w W4) := by
  have b3 : Below w.heap.size w w2 := HB1.out.trans (b2.mono HB1.out.size)
  rw [hW4, hW3]
  exact (((((((b3.setCell (by show w.heap.size <= w.heap.size + 1; omega) _).setCell (Nat.le_refl _) _).setCell (Nat.le_refl _) _).setCell (Nat.le_refl _) _).setCell (Nat.le_refl _) _).setCell (Nat.le_refl _) _).setCell (Nat.le_refl _) _).setCell (Nat.le_refl _) _
 have s0 : w2.cell? ⟨w.heap.size + 1, 0, none⟩ = some (.slice ao n c) := by rw [HNE.out]; exact cell_arr q1 rfl
 have f0 : w2.frozen? ⟨w.heap.size + 1, 0, none⟩ = false := fz_of q1
 have hs2 : w.heap.size + 1 < w2.heap.size := by have := b2.size; omega
 have HW4 : Hid _ := hW4
 have HQ1 : Hid _ := q1'
 have HQ0 : Hid _ := q0'
 clear hR2 b2 q1 q0 hW4 q1' q0' y0
 go_upto_region 3 with fail
 rw [<- hW3]
 clear hW3 s0 f0
 have z0 : W3.cell? ⟨w.heap.size + 1, 0, none⟩ = some (.slice ao2 E.length cc2) := cell_arr HQ1.out rfl
 have z1 : W3.cell? ⟨w.heap.size + 1, 1, none⟩ = some (.int .i64 x1) := cell_arr HQ1.out rfl
 have z2 : W3.cell? ⟨w.heap.size + 1, 2, none⟩ = some (.int .i64 x2) := cell_arr HQ1.out rfl
 have z3 : W3.cell? ⟨w.heap.size + 1, 3, none⟩ = some (.int .i64 x3) := cell_arr HQ1.out rfl
 have z4 : W3.cell? ⟨w.heap.size + 1, 4, none⟩ = some (.int .i64 x4) := cell_arr HQ1.out rfl
 have z5 : W3.cell? ⟨w.heap.size + 1, 5, none⟩ = some (.int .i64 x5) := cell_arr HQ1.out rfl
 have z6 : W3.cell? ⟨w.heap.size + 1, 6, none⟩ = some (.int .i64 x6) := cell_arr HQ1.out rfl
 have t0 : W3.cell? ⟨w.heap.size, 0, none⟩ = some (.slice none 0 0) := cell_arr HQ0.out rfl
 have t1 : W3.cell? ⟨w.heap.size, 1, none⟩ = some (.int .i64 0) := cell_arr HQ0.out rfl
 have t2 : W3.cell? ⟨w.heap.size, 2, none⟩ = some (.int .i64 0) := cell_arr HQ0.out rfl
 have t3 : W3.cell? ⟨w.heap.size, 3, none⟩ = some (.int .i64 0) := cell_arr HQ0.out rfl
 have t4 : W3.cell? ⟨w.heap.size, 4, none⟩ = some (.int .i64 0) := cell_arr HQ0.out rfl
 have t5 : W3.cell? ⟨w.heap.size, 5, none⟩ = some (.int .i64 0) := cell_arr HQ0.out rfl
 have t6 : W3.cell? ⟨w.heap.size, 6, none⟩ = some (.int .i64 0) := cell_arr HQ0.out rfl
 have u0 : W3.frozen? ⟨w.heap.size, 0, none⟩ = false := fz_of HQ0.out
 have u1 : W3.frozen? ⟨w.heap.size, 1, none⟩ = false := fz_of HQ0.out
 have u2 : W3.frozen? ⟨w.heap.size, 2, none⟩ = false := fz_of HQ0.out
 have u3 : W3.frozen? ⟨w.heap.size, 3, none⟩ = false := fz_of HQ0.out
 have u4 : W3.frozen? ⟨w.heap.size, 4, none⟩ = false := fz_of HQ0.out
 have u5 : W3.frozen? ⟨w.heap.size, 5, none⟩ = false := fz_of HQ0.out
 have u6 : W3.frozen? ⟨w.heap.size, 6, none⟩ = false := fz_of HQ0.out
 go_wp2_with fail
 rw [<- HW4.out]
 refine bodyPost_ret (v := .agg #[.slice ao2 E.length cc2, .int .i64 x1, .int .i64 x2, .int .i64 x3, .int .i64 x4, .int .i64 x5, .int .i64 x6]) ?_ rfl ⟨_, rfl, HR4.out, HB4.out⟩
 exact results_cell_row Tryz.results43 _ _ w.heap.size 48 _ (0, 0) _ rfl HRX.out Tryz.underlying48 rfl (by kernel_rfl)
end Go.Proofs.YtegoemeefmjnoaaGreatDoor
