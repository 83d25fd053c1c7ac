import Derived.Test.YtjiaedckecfjbaaDoorVfA
import Derived.Lib.BufferWrite
set_option linter.unusedVariables false
set_option linter.unusedSimpArgs false
namespace Go.Proofs.YtjiaedckecfjbaaDoor
open Go.ChangeShapes Go.WideShapes Go.ChangeAt Go.RowKit Go.Maps

/-- A writer that has written so far. -/
structure WrS (w W : World) (wb b N : Nat) (D : List Int) : Prop where
  wbx : W.heap[wb]? = some (.cells #[.slice (some ⟨b, 0, none⟩) N N, .int .i64 (D.length : Int)] 50 (0, 0))
  by_ : W.heap[b]? = some (.cells (u8s (D ++ List.replicate (N - D.length) 0)) 5 (0, 0))
  le : D.length ≤ N
  only : Only (fun q => q = wb ∨ q = b) w W
theorem WrS.ne {w W wb b N D} (h : WrS w W wb b N D) : wb ≠ b := fun e => by
  have a := h.wbx
  have c := h.by_
  rw [e, c] at a
  simp only [Option.some.injEq, Obj.cells.injEq] at a
  exact absurd a.2.1 (by decide)
theorem WrS.keep {w W W' wb b N D} (h : WrS w W wb b N D) (k : Below W.heap.size W W') : WrS w W' wb b N D :=
  ⟨(k.block _ (Array.getElem?_eq_some_iff.1 h.wbx).1).trans h.wbx, (k.block _ (Array.getElem?_eq_some_iff.1 h.by_).1).trans h.by_, h.le, h.only.trans (Only.of_below k (fun _ => False)) fun _ _ q => q.elim⟩
/-- The next place moved on. -/
structure WrM (w W : World) (wb b N k : Nat) (D : List Int) : Prop where
  wbx : W.heap[wb]? = some (.cells #[.slice (some ⟨b, 0, none⟩) N N, .int .i64 ((D.length + k : Nat) : Int)] 50 (0, 0))
  by_ : W.heap[b]? = some (.cells (u8s (D ++ List.replicate (N - D.length) 0)) 5 (0, 0))
  le : D.length + k ≤ N
  only : Only (fun q => q = wb ∨ q = b) w W
theorem WrS.moved {w W W' wb b N D k} (h : WrS w W wb b N D) (hk : D.length + k ≤ N) (hb : Below W.heap.size (W.setCell ⟨wb, 1, none⟩ (.int .i64 ((D.length + k : Nat) : Int))) W') : WrM w W' wb b N k D := by
  have s1 := heap_set_at (i := 1) (v := .int .i64 ((D.length + k : Nat) : Int)) h.wbx
  have l1 := (Array.getElem?_eq_some_iff.1 h.wbx).1
  have l2 := (Array.getElem?_eq_some_iff.1 h.by_).1
  have o1 : Only (fun q => q = wb ∨ q = b) w (W.setCell ⟨wb, 1, none⟩ (.int .i64 ((D.length + k : Nat) : Int))) := h.only.trans (Only.of_set W ⟨wb, 1, none⟩ _) fun q _ e => Or.inl e
  have sz : (W.setCell ⟨wb, 1, none⟩ (.int .i64 ((D.length + k : Nat) : Int))).heap.size = W.heap.size := by simp [World.setCell]
  refine ⟨(hb.block _ l1).trans s1, ((hb.block _ l2).trans (heap_set_other (Ne.symm h.ne))).trans h.by_, hk, o1.trans (Only.of_below (by rw [sz]; exact hb) (fun _ => False)) fun _ _ q => q.elim⟩
theorem WrM.put {w W W' wb b N D k} (h : WrM w W wb b N k D) (L : List Int) (hL : L.length = k) (hb : W'.heap[b]? = some (.cells (u8s (D ++ L ++ List.replicate (N - (D.length + k)) 0)) 5 (0, 0))) (ho : Only (fun q => q = b) W W') : WrS w W' wb b N (D ++ L) := by
  have hne : wb ≠ b := fun e => by
    have a := h.wbx
    have c := h.by_
    rw [e, c] at a
    simp only [Option.some.injEq, Obj.cells.injEq] at a
    exact absurd a.2.1 (by decide)
  have e : (D ++ L).length = D.length + k := by rw [List.length_append, hL]
  refine ⟨?_, ?_, by rw [e]; exact h.le, h.only.trans ho fun q _ e => Or.inr e⟩
  · rw [e]
    exact (ho.block _ (Array.getElem?_eq_some_iff.1 h.wbx).1 hne).trans h.wbx
  · rw [e]
    exact hb
theorem putB_zeros (D : List Int) (N k : Nat) (x : Int) (h : D.length + k ≤ N) : putB (D ++ List.replicate (N - D.length) 0) D.length k x = D ++ lo k x ++ List.replicate (N - (D.length + k)) 0 := by
  unfold putB
  rw [List.take_left' rfl]
  congr 1
  rw [List.drop_append, List.drop_of_length_le (by omega), List.nil_append]
  simp
  omega
set_option maxRecDepth 100000 in
set_option maxHeartbeats 4000000 in
theorem wNum_any {w0 w : World} {wb b N k : Nat} {D : List Int} (h : WrS w0 w wb b N D) (x : Int) (hk : D.length + k ≤ N) (hk1 : 1 ≤ k ∧ k ≤ 8) (hN : N ≤ 1000000000000000000) (hx : -9223372036854775808 ≤ x ∧ x ≤ 9223372036854775807) :
    Calls Tryd.prog 25 #[.pointer (some ⟨wb, 0, none⟩), .int .i64 (k : Int), .int .i64 x] w fun e w' => e = .returned (.tuple #[]) ∧ WrS w0 w' wb b N (D ++ lo k x) := by
  have HC : Hid _ := cut_any9 w h.wbx ⟨Nat.le_refl _, by omega, hN⟩ hk hk1.1
  have HS : Hid _ := h
  have HX : Hid (D.length + k ≤ N ∧ k ≤ 8 ∧ -9223372036854775808 ≤ x ∧ x ≤ 9223372036854775807) := ⟨hk, hk1.2, hx⟩
  have lw := (Array.getElem?_eq_some_iff.1 h.wbx).1
  clear h hk hk1 hN hx
  go_enter Tryd.func25, Tryd.ntmps25
  go_wp2_with fail
  refine Calls.mono HC.out ?_
  rintro e w1 ⟨rfl, b1⟩
  have HM : Hid _ := HS.out.moved HX.out.1 b1
  have HP : Hid _ := put_any9 w1 (o := D.length) (k := k) (D ++ List.replicate (N - D.length) 0) x HM.out.by_ (by have := HX.out.1; simp; omega) HX.out.2.1 HX.out.2.2
  clear b1 HC HS lw
  rw [Nat.zero_add]
  go_wp2_with fail
  refine Calls.mono HP.out ?_
  rintro e w2 ⟨rfl, h2, o2⟩
  have HF : Hid _ := HM.out.put (lo k x) (lo_len k x) (by rw [putB_zeros D N k x HX.out.1] at h2; exact h2) o2
  clear h2 o2 HP HM
  go_wp2_with fail
  exact bodyPost_end (v := .tuple #[]) (by simp [results, Tryd.results25, go_sem]) rfl ⟨rfl, HF.out⟩
end Go.Proofs.YtjiaedckecfjbaaDoor
namespace Go.Proofs.YtjiaedckecfjbaaDoor
open Go.ChangeShapes Go.WideShapes Go.ChangeAt Go.RowKit Go.Maps

/-- A text's bytes as numbers. -/
def tby (s : ByteArray) : List Int := s.data.toList.map fun x => (x.toNat : Int)
theorem tby_len (s : ByteArray) : (tby s).length = s.size := by unfold tby; rw [List.length_map, Array.length_toList]; rfl
theorem tby_cells (s : ByteArray) : Lib.byteCells s.data.toList = (tby s).map (Value.int .u8) := by
  unfold tby Lib.byteCells
  rw [List.map_map]
  rfl
theorem copy_zeros (D : List Int) (N : Nat) (s : ByteArray) (h : D.length + s.size ≤ N) : ((u8s (D ++ List.replicate (N - D.length) 0)).toList.take D.length ++ Lib.byteCells s.data.toList ++ (u8s (D ++ List.replicate (N - D.length) 0)).toList.drop (D.length + s.size)).toArray = u8s (D ++ tby s ++ List.replicate (N - (D.length + s.size)) 0) := by
  rw [tby_cells]
  show (((D ++ List.replicate (N - D.length) 0).map (Value.int .u8)).take D.length ++ (tby s).map (Value.int .u8) ++ ((D ++ List.replicate (N - D.length) 0).map (Value.int .u8)).drop (D.length + s.size)).toArray = ((D ++ tby s ++ List.replicate (N - (D.length + s.size)) 0).map (Value.int .u8)).toArray
  congr 1
  rw [← List.map_take, ← List.map_drop, List.take_left' rfl, List.map_append, List.map_append]
  congr 2
  rw [List.drop_append, List.drop_of_length_le (by omega), List.nil_append]
  simp
  omega
/-- A text is copied behind what was written. -/
theorem run_copyC {w : World} (n cap : Nat) {b : Nat} (D : List Int) (N : Nat) (s : ByteArray) (hb : w.heap[b]? = some (.cells (u8s (D ++ List.replicate (N - D.length) 0)) 5 (0, 0))) (hn : s.size ≤ n) (hl : D.length + s.size ≤ N) :
    ∃ W, (Builtin.copy_ #[28, 9] 3 #[.slice (some ⟨b, D.length, none⟩) n cap, .string s]).run Tryd.prog w = .ok (goInt s.size) W ∧ W.heap[b]? = some (.cells (u8s (D ++ tby s ++ List.replicate (N - (D.length + s.size)) 0)) 5 (0, 0)) ∧ Only (fun q => q = b) w W := by
  have hrun := Lib.run_copy_row_string (P := Tryd.prog) w 28 9 3 5 b D.length n cap s _ 5 Tryd.underlying28 (by kernel_rfl) hb hn (by unfold u8s; simp; omega)
  rw [copy_zeros D N s hl] at hrun
  exact ⟨_, hrun, setRow_heap w b _ _ 5 (0, 0) hb, ⟨rfl, rfl, rfl, by rw [setRow_size]; exact Nat.le_refl _, fun q _ hq => setRow_other w b q _ hq⟩⟩
set_option maxRecDepth 100000 in
set_option maxHeartbeats 4000000 in
theorem wText_any {w0 w : World} {wb b N : Nat} {D : List Int} (h : WrS w0 w wb b N D) (s : ByteArray) (hk : D.length + s.size ≤ N) (hk1 : 1 ≤ s.size) (hN : N ≤ 1000000000000000000) :
    Calls Tryd.prog 24 #[.pointer (some ⟨wb, 0, none⟩), .string s] w fun e w' => e = .returned (.tuple #[]) ∧ WrS w0 w' wb b N (D ++ tby s) := by
  obtain ⟨k, hks⟩ : ∃ k, k = s.size := ⟨_, rfl⟩
  rw [← hks] at hk hk1
  have HC : Hid _ := cut_any9 w h.wbx ⟨Nat.le_refl _, by omega, hN⟩ hk hk1
  have HS : Hid _ := h
  have HX : Hid (D.length + k ≤ N ∧ k = s.size) := ⟨hk, hks⟩
  have hsz : s.size = k := hks.symm
  have lw := (Array.getElem?_eq_some_iff.1 h.wbx).1
  clear h hk hk1 hN hks
  go_enter Tryd.func24, Tryd.ntmps24
  go_wp2_with fail
  refine Calls.mono HC.out ?_
  rintro e w1 ⟨rfl, b1⟩
  have HM : Hid _ := HS.out.moved HX.out.1 b1
  clear b1 HC HS lw
  rw [Nat.zero_add]
  obtain ⟨W2, hrun, h2, o2⟩ := run_copyC (w := w1) k k D N s HM.out.by_ (by have := HX.out.2; omega) (by have := HX.out; omega)
  have HF : Hid (WrS w0 W2 wb b N (D ++ tby s)) := HM.out.put (tby s) (by rw [tby_len, HX.out.2]) (by rw [HX.out.2]; exact h2) o2
  clear h2 o2 HM
  go_wp2_with fail
  exact bodyPost_end (v := .tuple #[]) (by simp [results, Tryd.results24, go_sem]) rfl ⟨rfl, HF.out⟩
end Go.Proofs.YtjiaedckecfjbaaDoor
