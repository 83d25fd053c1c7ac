import Derived.Test.YtplpgeocidllfaaOrV
import Derived.Test.YtplpgeocidllfaaOrJ
set_option linter.unusedVariables false
set_option linter.unusedSimpArgs false
namespace Go.Proofs.Ytplpgeocidllfaa
open Go.ChangeShapes Go.WideShapes Go.ChangeAt Go.RowKit Go.Maps

/-- A list of slices, in a row of its own. -/
structure OwnV (w : World) (B : Nat) (v : Value) (vs : List Value) : Prop where
  out : w.ownsRow B 27 1 v vs.length vs
theorem OwnV.nil (w : World) (B : Nat) : OwnV w B (.slice none 0 0) [] := ⟨World.ownsRow_nil _ _ _ _⟩
theorem OwnV.move {w w' : World} {B v vs} (h : OwnV w B v vs) (hk : ∀ g, v.ownBlock = some g → w'.heap[g]? = w.heap[g]?) : OwnV w' B v vs := ⟨own_move h.out hk⟩
theorem infoInts : (Try.prog.info? 27).map (fun i => (i.zero, i.size, i.bytes)) = some (some (.slice none 0 0), 1, 24) := by kernel_rfl
/-- append(l, x[:n]). -/
theorem wpList_append_slG {w0 : World} {ops : Array Oper} {rest : List Oper} {op : Oper} {a : Act} {Q : Exit → Act → World → Prop} (hgd : op.guard = none) (s x : Operand)
    (ho : op.op = .call { callee := .builtin .append, args := #[s, x], argTypes := #[22, 22] })
    (B : Nat) (v : Value) (vs : List Value) (ao : Option Addr) (m c : Nat) (hs : a.eval s = v) (hown : OwnV w0 B v vs) (hx : a.eval x = .slice (some ⟨w0.heap.size, 0, none⟩) 1 1)
    (hl : vs.length + 1 ≤ 1759218604441) (hB : B ≤ w0.heap.size)
    (h : ∀ v' w', OwnV w' B v' (vs ++ [.slice ao m c]) → GI B w0 w' v v' → wpList Try.prog ops Q rest (a.put op.dst v') w') : wpList Try.prog ops Q (op :: rest) a (w0.alloc (.cells #[.slice ao m c] 27)) := by
  obtain ⟨i0, hi, hz0, hz1, hz2⟩ := info_parts infoInts
  refine wpList_append_where hgd s x 22 ho B 27 i0 (.slice none 0 0) 1 24 Try.underlying22 hi hz0 hz1 hz2 rfl (by decide) v vs.length vs hs (hown.out.alloc _) ⟨w0.heap.size, 0, none⟩ 1 1 (by omega) [.slice ao m c] hx rfl (cell_one_newI _ _ _) (fun u hu => by simp at hu; subst hu; rfl) (by unfold maxLen; omega) (by omega) (by simp; omega) ?_
  intro v' w' h1 h2 h3
  refine h v' w' ⟨?_⟩ (gi_of hown.out hB h2 h3)
  simpa using h1
/-- append(l, y, z). -/
theorem wpList_append_slG2 {w0 : World} {ops : Array Oper} {rest : List Oper} {op : Oper} {a : Act} {Q : Exit → Act → World → Prop} (hgd : op.guard = none) (s x : Operand)
    (ho : op.op = .call { callee := .builtin .append, args := #[s, x], argTypes := #[22, 22] })
    (B : Nat) (v : Value) (vs : List Value) (ao ao' : Option Addr) (m c m' c' : Nat) (hs : a.eval s = v) (hown : OwnV w0 B v vs) (hx : a.eval x = .slice (some ⟨w0.heap.size, 0, none⟩) 2 2)
    (hl : vs.length + 2 ≤ 1759218604441) (hB : B ≤ w0.heap.size)
    (h : ∀ v' w', OwnV w' B v' (vs ++ [.slice ao m c, .slice ao' m' c']) → GI B w0 w' v v' → wpList Try.prog ops Q rest (a.put op.dst v') w') : wpList Try.prog ops Q (op :: rest) a (w0.alloc (.cells #[.slice ao m c, .slice ao' m' c'] 27)) := by
  obtain ⟨i0, hi, hz0, hz1, hz2⟩ := info_parts infoInts
  refine wpList_append_where hgd s x 22 ho B 27 i0 (.slice none 0 0) 1 24 Try.underlying22 hi hz0 hz1 hz2 rfl (by decide) v vs.length vs hs (hown.out.alloc _) ⟨w0.heap.size, 0, none⟩ 2 2 (by omega) [.slice ao m c, .slice ao' m' c'] hx rfl (cell_two_newI _ _ _ _) (fun u hu => by simp at hu; rcases hu with rfl | rfl <;> rfl) (by unfold maxLen; omega) (by omega) (by simp; omega) ?_
  intro v' w' h1 h2 h3
  refine h v' w' ⟨?_⟩ (gi_of hown.out hB h2 h3)
  simpa using h1
theorem cell_three_newI (w : World) (a b c : Value) (t : TypeId) : ∀ j u, [a, b, c][j]? = some u → (w.alloc (.cells #[a, b, c] t)).cell? ((⟨w.heap.size, 0, none⟩ : Addr).add j) = some u := by
  intro j u hj
  match j, hj with
  | 0, hj => simp at hj; subst hj; simp [Addr.add]
  | 1, hj => simp at hj; subst hj; simp [Addr.add]
  | 2, hj => simp at hj; subst hj; simp [Addr.add]
  | j + 3, hj => simp at hj
/-- append(l, x, y, z). -/
theorem wpList_append_three {w0 : World} {ops : Array Oper} {rest : List Oper} {op : Oper} {a : Act} {Q : Exit → Act → World → Prop} (hgd : op.guard = none) (s x : Operand)
    (ho : op.op = .call { callee := .builtin .append, args := #[s, x], argTypes := #[27, 27] })
    (B : Nat) (v : Value) (n : Nat) (L : List Int) (y z u : Int) (hs : a.eval s = v) (hown : OwnI w0 B v n L) (hx : a.eval x = .slice (some ⟨w0.heap.size, 0, none⟩) 3 3)
    (hl : n + 3 ≤ 17592186044416) (hB : B ≤ w0.heap.size)
    (h : ∀ v' w', OwnI w' B v' (n + 3) (L ++ [y, z, u]) → GI B w0 w' v v' → wpList Try.prog ops Q rest (a.put op.dst v') w') : wpList Try.prog ops Q (op :: rest) a (w0.alloc (.cells #[.int .i64 y, .int .i64 z, .int .i64 u] 3)) := by
  obtain ⟨i0, hi, hz0, hz1, hz2⟩ := info_parts info3i
  refine wpList_append_where hgd s x 27 ho B 3 i0 (.int .i64 0) 1 8 Try.underlying27 hi hz0 hz1 hz2 rfl (by decide) v n (ivs L) hs (hown.out.alloc _) ⟨w0.heap.size, 0, none⟩ 3 3 (by omega) [.int .i64 y, .int .i64 z, .int .i64 u] hx rfl (cell_three_newI _ _ _ _ _) (fun u hu => by simp at hu; rcases hu with rfl | rfl | rfl <;> rfl) (by unfold maxLen; omega) (by omega) (by simp; omega) ?_
  intro v' w' h1 h2 h3
  exact h v' w' ⟨by simp; exact hown.len, by simpa [ivs] using h1⟩ (gi_of hown.out hB h2 h3)
/-- What is lent: each list in a row of its own, with its three marks behind it. -/
def ltv (gs cs : List Nat) (Ls : List (List Int)) : List Value := (List.range Ls.length).map fun i => .slice (some ⟨gs.getD i 0, 0, none⟩) (Ls.getD i []).length (cs.getD i 0)
theorem ltv_len (gs cs : List Nat) (Ls : List (List Int)) : (ltv gs cs Ls).length = Ls.length := by simp [ltv]
theorem getD_app {α : Type} {l : List α} {x d : α} {i : Nat} (h : i < l.length) : (l ++ [x]).getD i d = l.getD i d := by
  rw [List.getD, List.getD, List.getElem?_append_left h]
theorem getD_new {α : Type} {l : List α} {x d : α} : (l ++ [x]).getD l.length d = x := by simp [List.getD]
structure LT (w : World) (B : Nat) (gs cs : List Nat) (Ls : List (List Int)) : Prop where
  lg : gs.length = Ls.length
  lc : cs.length = Ls.length
  row : ∀ i, i < Ls.length → OwnI w B (.slice (some ⟨gs.getD i 0, 0, none⟩) ((Ls.getD i []).length + 3) (cs.getD i 0)) ((Ls.getD i []).length + 3) (Ls.getD i [] ++ [-71, -72, -73])
  nd : ∀ i j, i < Ls.length → j < Ls.length → gs.getD i 0 = gs.getD j 0 → i = j
theorem LT.nil (w : World) (B : Nat) : LT w B [] [] [] := ⟨rfl, rfl, fun i hi => by simp at hi, fun i j hi => by simp at hi⟩
theorem LT.move {w w' : World} {B gs cs Ls} (h : LT w B gs cs Ls) (hk : ∀ i, i < Ls.length → w'.heap[gs.getD i 0]? = w.heap[gs.getD i 0]?) : LT w' B gs cs Ls :=
  ⟨h.lg, h.lc, fun i hi => ⟨(h.row i hi).len, own_move (h.row i hi).out fun g hg => by simp [Value.ownBlock] at hg; subst hg; exact hk i hi⟩, h.nd⟩
theorem ltv_more {gs cs : List Nat} {Ls : List (List Int)} (hg : gs.length = Ls.length) (hc : cs.length = Ls.length) (g c : Nat) (L : List Int) : ltv (gs ++ [g]) (cs ++ [c]) (Ls ++ [L]) = ltv gs cs Ls ++ [.slice (some ⟨g, 0, none⟩) L.length c] := by
  unfold ltv
  rw [List.length_append, List.length_singleton, List.range_succ, List.map_append]
  congr 1
  · refine List.map_congr_left fun i hi => ?_
    have := List.mem_range.1 hi
    rw [getD_app (by omega), getD_app (by omega), getD_app (by omega)]
  · simp only [List.map_cons, List.map_nil]
    rw [getD_new]
    have e1 : (gs ++ [g]).getD Ls.length 0 = g := by rw [← hg]; exact getD_new
    have e2 : (cs ++ [c]).getD Ls.length 0 = c := by rw [← hc]; exact getD_new
    rw [e1, e2]
theorem LT.more {w : World} {B gs cs Ls} (h : LT w B gs cs Ls) {g c : Nat} {L : List Int} (hr : OwnI w B (.slice (some ⟨g, 0, none⟩) (L.length + 3) c) (L.length + 3) (L ++ [-71, -72, -73])) (hn : ∀ i, i < Ls.length → gs.getD i 0 ≠ g) : LT w B (gs ++ [g]) (cs ++ [c]) (Ls ++ [L]) := by
  have e1 : (gs ++ [g]).getD Ls.length 0 = g := by rw [← h.lg]; exact getD_new
  have e2 : (cs ++ [c]).getD Ls.length 0 = c := by rw [← h.lc]; exact getD_new
  have l1 := h.lg
  have l2 := h.lc
  refine ⟨by simp [h.lg], by simp [h.lc], fun i hi => ?_, fun i j hi hj e => ?_⟩
  · simp only [List.length_append, List.length_singleton] at hi
    by_cases hl : i < Ls.length
    · rw [getD_app (by omega), getD_app (by omega), getD_app (by omega)]; exact h.row i hl
    · obtain rfl : i = Ls.length := by omega
      rw [e1, e2, getD_new]; exact hr
  · simp only [List.length_append, List.length_singleton] at hi hj
    by_cases hl : i < Ls.length
    · by_cases hl2 : j < Ls.length
      · rw [getD_app (by omega), getD_app (by omega)] at e; exact h.nd i j hl hl2 e
      · obtain rfl : j = Ls.length := by omega
        rw [e1, getD_app (by omega)] at e
        exact absurd e (hn i hl)
    · obtain rfl : i = Ls.length := by omega
      by_cases hl2 : j < Ls.length
      · rw [e1, getD_app (by omega)] at e
        exact absurd e.symm (hn j hl2)
      · omega
/-- The whole of the memory: each list with its marks. -/
def ftv (gs cs : List Nat) (Ls : List (List Int)) : List Value := (List.range Ls.length).map fun i => .slice (some ⟨gs.getD i 0, 0, none⟩) ((Ls.getD i []).length + 3) (cs.getD i 0)
theorem ftv_len (gs cs : List Nat) (Ls : List (List Int)) : (ftv gs cs Ls).length = Ls.length := by simp [ftv]
theorem ftv_more {gs cs : List Nat} {Ls : List (List Int)} (hg : gs.length = Ls.length) (hc : cs.length = Ls.length) (g c : Nat) (L : List Int) : ftv (gs ++ [g]) (cs ++ [c]) (Ls ++ [L]) = ftv gs cs Ls ++ [.slice (some ⟨g, 0, none⟩) (L.length + 3) c] := by
  unfold ftv
  rw [List.length_append, List.length_singleton, List.range_succ, List.map_append]
  congr 1
  · refine List.map_congr_left fun i hi => ?_
    have := List.mem_range.1 hi
    rw [getD_app (by omega), getD_app (by omega), getD_app (by omega)]
  · simp only [List.map_cons, List.map_nil]
    rw [getD_new]
    have e1 : (gs ++ [g]).getD Ls.length 0 = g := by rw [← hg]; exact getD_new
    have e2 : (cs ++ [c]).getD Ls.length 0 = c := by rw [← hc]; exact getD_new
    rw [e1, e2]
theorem LT.lt {w B gs cs Ls} (h : LT w B gs cs Ls) {i : Nat} (hi : i < Ls.length) : B ≤ gs.getD i 0 ∧ gs.getD i 0 < w.heap.size := own_block (h.row i hi).out rfl
theorem LT.ap {w B gs cs Ls} (h : LT w B gs cs Ls) {v : Value} {vs : List Value} (hv : OwnV w B v vs) : ∀ i, i < Ls.length → v.ownBlock ≠ some (gs.getD i 0) := fun i hi e => own_apart hv.out (h.row i hi).out (by decide) _ e rfl
theorem OwnI.apV {w B B' u n L v vs} (h : OwnI w B u n L) (hv : OwnV w B' v vs) : ∀ b, u.ownBlock = some b → v.ownBlock ≠ some b := fun b hb e => own_apart hv.out h.out (by decide) _ e hb
/-- At the head of lent's loop: the whole, the lists. -/
structure LHl (w wr : World) (B : Nat) (vf v : Value) (gs cs : List Nat) (Ls : List (List Int)) : Prop where
  ful : OwnV wr B vf (ftv gs cs Ls)
  out : OwnV wr B v (ltv gs cs Ls)
  lt : LT wr B gs cs Ls
  ap : ∀ b, v.ownBlock = some b → vf.ownBlock ≠ some b
  bel : Below B w wr
theorem OwnV.gi {B B' w0 w' v v' u vs} (h : OwnV w0 B' u vs) (g : GI B w0 w' v v') (hne : ∀ b, u.ownBlock = some b → v.ownBlock ≠ some b) : OwnV w' B' u vs := ⟨own_move h.out fun b hb => g.blk b (own_block h.out hb).2 (hne b hb)⟩
theorem OwnV.keep {w w' B v vs} (h : OwnV w B v vs) (hb : Below w.heap.size w w') : OwnV w' B v vs := ⟨own_keep h.out hb.block⟩
/-- One list more. -/
theorem LHl.more {w wr w2 w3 w4 : World} {B : Nat} {vf vf' v v' : Value} {gs cs : List Nat} {Ls : List (List Int)} (h : LHl w wr B vf v gs cs Ls) (hB : B ≤ wr.heap.size) {g c : Nat} {L : List Int}
    (h1 : Below wr.heap.size wr w2) (h2 : OwnI w2 wr.heap.size (.slice (some ⟨g, 0, none⟩) (L.length + 3) c) (L.length + 3) (L ++ [-71, -72, -73]))
    (h3 : OwnV w3 B vf' (ftv gs cs Ls ++ [.slice (some ⟨g, 0, none⟩) (L.length + 3) c])) (h4 : GI B w2 w3 vf vf')
    (h5 : OwnV w4 B v' (ltv gs cs Ls ++ [.slice (some ⟨g, 0, none⟩) L.length c])) (h6 : GI B w3 w4 v v') : LHl w w4 B vf' v' (gs ++ [g]) (cs ++ [c]) (Ls ++ [L]) := by
  have hg := own_block h2.out (g := g) rfl
  have hs := h1.size
  have hs4 := h4.size
  have hfb : ∀ b, vf.ownBlock = some b → b < wr.heap.size := fun b hb => (own_block h.ful.out hb).2
  have hvb : ∀ b, v.ownBlock = some b → b < wr.heap.size := fun b hb => (own_block h.out.out hb).2
  have n34 : ∀ b, vf'.ownBlock = some b → v.ownBlock ≠ some b := fun b hb e => by
    have := hvb b e
    rcases h4.own b hb with q | q
    · exact h.ap b e q
    · omega
  refine ⟨by rw [ftv_more h.lt.lg h.lt.lc]; exact h3.gi h6 n34, by rw [ltv_more h.lt.lg h.lt.lc]; exact h5, LT.more (h.lt.move fun i hi => ?_) ?_ fun i hi e => ?_, ?_, h.bel.trans ((h1.mono hB).trans (h4.bel.trans h6.bel))⟩
  · have hl := h.lt.lt hi
    rw [h6.blk _ (by omega) (h.lt.ap h.out i hi), h4.blk _ (by omega) (h.lt.ap h.ful i hi), h1.block _ hl.2]
  · have r3 := (h2.mono hB).gi h4 fun b hb e => by
      simp [Value.ownBlock] at hb
      subst hb
      have := hfb _ e
      omega
    refine r3.gi h6 fun b hb e => ?_
    simp [Value.ownBlock] at hb
    subst hb
    have := hvb _ e
    omega
  · have hl := h.lt.lt hi
    omega
  · intro b hb e
    have hl := (own_block h3.out e).2
    rcases h6.own b hb with q | q
    · exact n34 b e q
    · omega
set_option maxRecDepth 100000 in
set_option maxHeartbeats 4000000 in
theorem lent_any (w : World) (ao : Option Addr) (n c : Nat) (Ls : List (List Int)) (hn : n = Ls.length) (hI : IRow w ao c Ls) (hz : RZ w ao n) (hsz : n ≤ 2000000) (hM : ∀ l ∈ Ls, l.length ≤ 1000000) :
    Calls Try.prog 11 #[.slice ao n c] w fun e w' => ∃ g4 c4 af cf gs cs g1 g2, e = .returned (.tuple #[.slice (some ⟨g4, 0, none⟩) n c4, .slice af n cf]) ∧ OwnV w' w.heap.size (.slice (some ⟨g4, 0, none⟩) (n + 2) c4) (ltv gs cs Ls ++ [.slice (some ⟨g1, 0, none⟩) 1 1, .slice (some ⟨g2, 0, none⟩) 1 1]) ∧ OwnV w' w.heap.size (.slice af n cf) (ftv gs cs Ls) ∧ (Value.slice af n cf).ownBlock ≠ some g4 ∧ LT w' w.heap.size gs cs Ls ∧
      OwnI w' w.heap.size (.slice (some ⟨g1, 0, none⟩) 1 1) 1 [-74] ∧ OwnI w' w.heap.size (.slice (some ⟨g2, 0, none⟩) 1 1) 1 [-75] ∧ Below w.heap.size w w' := by
  have HN : Hid (n = Ls.length) := hn
  have HI : Hid (IRow w ao c Ls) := hI
  have HZ : Hid (RZ w ao n) := hz
  have HM : Hid (∀ l ∈ Ls, l.length ≤ 1000000) := hM
  clear hn hI hz hM
  go_enter Try.func11, Try.ntmps11
  go_wp2_with fail
  go_loopg [4, 5, 6] n (fun q fv lv iv wr => ∃ (k : Nat) (gs cs : List Nat) (a3 : Option Addr) (c3 : Nat) (af : Option Addr) (cf : Nat), k ≤ n ∧ q = n - k ∧ fv = .slice af k cf ∧ lv = .slice a3 k c3 ∧ iv = .int .i64 (k : Int) ∧ Hid (LHl w wr w.heap.size (.slice af k cf) (.slice a3 k c3) gs cs (Ls.take k)))
  case atStart => exact ⟨0, [], [], none, 0, none, 0, by omega, by omega, rfl, rfl, rfl, ⟨OwnV.nil _ _, OwnV.nil _ _, LT.nil _ _, fun b hb => by simp [Value.ownBlock] at hb, Below.refl _ _⟩⟩
  case round =>
    obtain ⟨k, gs, cs, a3, c3, af, cf, hk, rfl, rfl, rfl, rfl, HH⟩ := hrel
    have hlk : (Ls.take k).length = k := by have := HN.out; simp; omega
    have HLK : Hid ((Ls.take k).length = k) := hlk
    clear hlk
    have hBr : w.heap.size ≤ wr.heap.size := HH.out.bel.size
    by_cases hlt : k < n
    · have hkL : k < Ls.length := by have := HN.out; omega
      obtain ⟨rb, ro, ar, cr, rfl, krw, hIr⟩ := HI.out.at hkL
      have kr := (HH.out.bel.cell (p := ⟨rb, ro + k, none⟩) (block_lt_of_cell krw)).trans krw
      have hrb : rb < w.heap.size := block_lt_of_cell krw
      have hzr : ar = none → cr = 0 := fun e => by subst e; exact HZ.out rb ro k _ cr rfl hlt krw
      obtain ⟨L, hL⟩ : ∃ L, L = Ls[k] := ⟨_, rfl⟩
      rw [← hL] at kr hIr
      have hLm : L.length ≤ 1000000 := by rw [hL]; exact HM.out _ (List.getElem_mem hkL)
      obtain ⟨m, hm⟩ : ∃ m, m = L.length := ⟨_, rfl⟩
      rw [← hm] at kr hLm
      have hmc : m ≤ cr := by have := hIr.le; omega
      have hmx : cr ≤ 9223372036854775807 := hIr.mx
      have HI1 : Hid (Ints wr ar cr L) := hIr.below HH.out.bel (Nat.le_refl _)
      have HZR : Hid (ar = none → cr = 0) := hzr
      have HL : Hid (L = Ls[k]) := hL
      have HMM : Hid (m = L.length) := hm
      have HVL : Hid ((ltv gs cs (Ls.take k)).length = k) := by show _ = _; rw [ltv_len, HLK.out]
      have HFL : Hid ((ftv gs cs (Ls.take k)).length = k) := by show _ = _; rw [ftv_len, HLK.out]
      clear hIr krw hzr hL hm
      go_wp2_with (first
        | (at_builtin; refine wpList_copyW (by rfl) _ _ rfl wr.heap.size rfl ar m cr L HMM.out HI1.out HZR.out rfl (by omega) (Nat.le_refl _) ?_; intro v1 w1 o1 b1
           have hs1 := b1.size
           have HO1 := show Hid _ from o1
           have HB1 := show Hid _ from b1
           obtain ⟨a1, c1, e1, _, _⟩ := own_slice o1.out
           subst e1
           clear o1 b1)
        | (at_builtin; refine wpList_append_three (w0 := w1) rfl _ _ rfl wr.heap.size (.slice a1 m c1) m L (-71) (-72) (-73) rfl HO1.out rfl (by omega) hs1 ?_; intro v2 w2 o2 g2
           have b2 : Below wr.heap.size wr w2 := HB1.out.trans g2.bel
           have HO2 := show Hid _ from o2
           have HB2 := show Hid _ from b2
           have hs2 := b2.size
           have kr2 := (b2.cell (p := ⟨rb, ro + k, none⟩) (block_lt_of_cell kr)).trans kr
           obtain ⟨g, c2, e2, hc2, hc2', hg2, hg2'⟩ := own_some o2.out (by omega)
           subst e2
           have HF2 := show Hid (OwnV w2 w.heap.size (.slice af k cf) (ftv gs cs (Ls.take k))) from HH.out.ful.keep HB2.out
           clear o2 g2 b2)
        | (at_builtin; refine wpList_append_slG (w0 := w2) rfl _ _ rfl w.heap.size (.slice af k cf) (ftv gs cs (Ls.take k)) (some ⟨g, 0, none⟩) (m + 3) c2 rfl HF2.out rfl (by rw [HFL.out]; omega) (by omega) ?_; intro v3 w3 o3 g3
           have HO3 := show Hid _ from o3
           have HG3 := show Hid _ from g3
           have hs3 := g3.size
           have HV3 := show Hid (OwnV w3 w.heap.size (.slice a3 k c3) (ltv gs cs (Ls.take k))) from (HH.out.out.keep HB2.out).gi g3 (fun b hb => HH.out.ap b hb)
           have kr3 := (g3.bel.cell (p := ⟨rb, ro + k, none⟩) hrb).trans kr2
           obtain ⟨a5, c5, e5, _, _⟩ := own_slice o3.out
           rw [List.length_append, List.length_singleton, HFL.out] at e5
           subst e5
           clear o3 g3)
        | (at_builtin; refine wpList_append_slG (w0 := w3) rfl _ _ rfl w.heap.size (.slice a3 k c3) (ltv gs cs (Ls.take k)) (some ⟨g, 0, none⟩) m c2 rfl HV3.out rfl (by rw [HVL.out]; omega) (by omega) ?_; intro v4 w4 o4 g4
           have H4 := show Hid (LHl w w4 w.heap.size (.slice a5 (k + 1) c5) v4 (gs ++ [g]) (cs ++ [c2]) (Ls.take k ++ [L])) from HH.out.more hBr HB2.out (by rw [← HMM.out]; exact HO2.out) (by rw [← HMM.out]; exact HO3.out) HG3.out (by rw [← HMM.out]; exact o4) g4
           obtain ⟨a4, c4, e4, _, _⟩ := own_slice o4.out
           rw [List.length_append, List.length_singleton, HVL.out] at e4
           subst e4
           clear o4 g4)
        | go_in)
      go_roundg (n - (k + 1))
      case rel =>
        refine ⟨k + 1, gs ++ [g], cs ++ [c2], a4, c4, a5, c5, by omega, rfl, rfl, rfl, by go_num, ?_⟩
        have h3 := H4.out
        rw [HL.out, List.take_append_getElem hkL] at h3
        exact h3
      case measure => omega
    · obtain rfl : k = n := by omega
      have HT : Hid (LHl w wr w.heap.size (.slice af k cf) (.slice a3 k c3) gs cs Ls) := by
        have := HH.out
        rw [List.take_of_length_le (by have := HN.out; omega)] at this
        exact this
      have HVL : Hid ((ltv gs cs Ls).length = k) := by show _ = _; rw [ltv_len, HN.out]
      obtain ⟨wA, hwA⟩ : ∃ wA, wA = (wr.alloc (.cells #[.int .i64 (-74)] 3)).alloc (.cells #[.int .i64 (-75)] 3) := ⟨_, rfl⟩
      have sA : wA.heap.size = wr.heap.size + 2 := by rw [hwA]; simp
      have bA : Below wr.heap.size wr wA := by rw [hwA]; exact ((Below.refl _ _).alloc (Nat.le_refl _) _).alloc (by simp) _
      have r1 : OwnI wA wr.heap.size (.slice (some ⟨wr.heap.size, 0, none⟩) 1 1) 1 [-74] := by
        have := own_one wr wr.heap.size (Nat.le_refl _) (-74)
        rw [hwA]; exact this.alloc0 _
      have r2 : OwnI wA wr.heap.size (.slice (some ⟨wr.heap.size + 1, 0, none⟩) 1 1) 1 [-75] := by
        have := own_one (wr.alloc (.cells #[.int .i64 (-74)] 3)) wr.heap.size (by simp) (-75)
        rw [hwA]; simpa using this
      have vA : OwnV wA w.heap.size (.slice a3 k c3) (ltv gs cs Ls) := HT.out.out.keep bA
      have fA : OwnV wA w.heap.size (.slice af k cf) (ftv gs cs Ls) := HT.out.ful.keep bA
      have hvb : ∀ b, (Value.slice a3 k c3).ownBlock = some b → b < wr.heap.size := fun b hb => (own_block HT.out.out.out hb).2
      have FIN : Hid (∀ v' w', OwnV w' w.heap.size v' (ltv gs cs Ls ++ [.slice (some ⟨wr.heap.size, 0, none⟩) 1 1, .slice (some ⟨wr.heap.size + 1, 0, none⟩) 1 1]) → GI w.heap.size wA w' (.slice a3 k c3) v' →
          OwnV w' w.heap.size (.slice af k cf) (ftv gs cs Ls) ∧ (∀ b, v'.ownBlock = some b → (Value.slice af k cf).ownBlock ≠ some b) ∧ LT w' w.heap.size gs cs Ls ∧
      OwnI w' w.heap.size (.slice (some ⟨wr.heap.size, 0, none⟩) 1 1) 1 [-74] ∧ OwnI w' w.heap.size (.slice (some ⟨wr.heap.size + 1, 0, none⟩) 1 1) 1 [-75] ∧ Below w.heap.size w w') := by
        intro v' w' h1 h2
        refine ⟨fA.gi h2 fun b hb e => HT.out.ap b e hb, fun b hb e => ?_, HT.out.lt.move fun i hi => ?_, (r1.mono hBr).gi h2 fun b hb e => ?_, (r2.mono hBr).gi h2 fun b hb e => ?_, HT.out.bel.trans ((bA.mono hBr).trans h2.bel)⟩
        · rcases h2.own _ hb with e1 | e1
          · exact HT.out.ap b e1 e
          · have := (own_block HT.out.ful.out e).2; omega
        · have hl := HT.out.lt.lt hi
          rw [h2.blk _ (by omega) (HT.out.lt.ap HT.out.out i hi), bA.block _ hl.2]
        · simp [Value.ownBlock] at hb; subst hb; have := hvb _ e; omega
        · simp [Value.ownBlock] at hb; subst hb; have := hvb _ e; omega
      have HVA : Hid _ := vA
      have HA : Hid (wA = (wr.alloc (.cells #[.int .i64 (-74)] 3)).alloc (.cells #[.int .i64 (-75)] 3)) := hwA
      have HSA : Hid (wA.heap.size = wr.heap.size + 2) := sA
      have hBA : w.heap.size ≤ wA.heap.size := by omega
      clear r1 r2 vA fA hwA bA sA hvb
      go_wp2_with (first
        | (at_builtin; rw [← HA.out]; refine wpList_append_slG2 (w0 := wA) rfl _ _ rfl w.heap.size (.slice a3 k c3) (ltv gs cs Ls) (some ⟨wr.heap.size, 0, none⟩) (some ⟨wr.heap.size + 1, 0, none⟩) 1 1 1 1 rfl HVA.out (by rw [HSA.out]; rfl) (by rw [HVL.out]; omega) hBA ?_; intro v3 w3 o3 g3
           have H3 := show Hid _ from FIN.out v3 w3 o3 g3
           have HO3 := show Hid _ from o3
           have hlen : (ltv gs cs Ls ++ [Value.slice (some ⟨wr.heap.size, 0, none⟩) 1 1, .slice (some ⟨wr.heap.size + 1, 0, none⟩) 1 1]).length = k + 2 := by rw [List.length_append, HVL.out]; rfl
           have o3' := o3.out
           rw [hlen] at o3'
           obtain ⟨g4, c4, e4, hc4, hc4', _, _⟩ := own_some o3' (by omega)
           subst e4
           clear o3 g3 o3' hlen)
        | go_in)
      try rw [Exit.noGoto_ret]
      go_ret2
      exact ⟨g4, c4, af, cf, gs, cs, _, _, rfl, HO3.out, H3.out.1, fun e => H3.out.2.1 g4 rfl e, H3.out.2.2⟩
/-- The lists that were lent, as a list of lists. -/
theorem lent_irow {w : World} {B : Nat} {a4 : Option Addr} {c4 m : Nat} {gs cs : List Nat} {Ls : List (List Int)} {r : List Value} (h : OwnV w B (.slice a4 m c4) (ltv gs cs Ls ++ r)) (hl : LT w B gs cs Ls) (hm : m = (ltv gs cs Ls ++ r).length) : IRow w a4 c4 Ls := by
  have h2 := h.out
  rw [← hm] at h2
  have hlen := ltv_len gs cs Ls
  rcases h2.2 with ⟨e, e2⟩ | ⟨g, cap, cur, e, e2, e3, e4, e5, e6, e7⟩
  · cases e
    have e0 : Ls = [] := List.eq_nil_of_length_eq_zero (by simp at hm; omega)
    subst e0
    exact ⟨by simp, by omega, fun h => absurd rfl h⟩
  · cases e
    have hle : Ls.length ≤ m := by rw [hm, List.length_append]; omega
    refine ⟨by omega, by unfold maxLen at e5; omega, fun _ => ⟨g, 0, rfl, (Array.getElem?_eq_some_iff.1 e3).1, fun i hi => ?_⟩⟩
    have hr := hl.row i hi
    have hb : Ls.getD i [] = Ls[i] := by simp [hi]
    rw [hb] at hr
    obtain ⟨g', c', e9, q1, q2, _, _⟩ := own_some hr.out (by omega)
    cases e9
    refine ⟨some ⟨gs.getD i 0, 0, none⟩, cs.getD i 0, ?_, hr.prefix rfl q2 q1⟩
    rw [Nat.zero_add, own_cell h2 i (by omega), List.getElem?_append_left (by omega)]
    simp [ltv, hi]
end Go.Proofs.Ytplpgeocidllfaa
