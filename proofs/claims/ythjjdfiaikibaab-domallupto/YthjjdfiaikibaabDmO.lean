import Derived.Test.YthjjdfiaikibaabDmN
set_option linter.unusedVariables false
set_option linter.unusedSimpArgs false
namespace Go.Proofs.Ythjjdfiaikibaab
open Go.ChangeShapes Go.WideShapes Go.ChangeAt Go.RowKit Go.Maps

theorem zero31 (w : World) : (zeroValue 27).run Try.prog w = .ok (.slice none 0 0) w := by kernel_rfl
theorem DR.look {w B fb gd gu gb ov mw n door f over wt val c} (h : DR w B fb gd gu gb ov mw n door f over wt val c) {a : Int} (ha : Fits a) : (Instr.lookup 61 (.map (some mw)) (.int .i64 a) false).run Try.prog w = .ok (val a) w := by
  obtain ⟨D, d1, d2⟩ := h.mp
  obtain ⟨v, ps, hr, hv⟩ := d1.lookup law3 Try.underlying61 (zero31 w) (zd := .held vn0) (zp := []) rfl (keyOf_int_mk Try.underlying3 ha.wf)
  rw [d2 a ha] at hv
  simp only [rawE, Option.some.injEq, Prod.mk.injEq, DataW.held.injEq] at hv
  rw [← hv.1]; exact hr
theorem DR.put {w w6 w7 : World} {B fb gd gu gb ov mw n door f over wt val c} (h : DR w B fb gd gu gb ov mw n door f over wt val c) {d x : Int} (hd : Fits d) {v6 : Value} (h6 : OwnI w6 B v6 ((wt d).length + 1) (wt d ++ [x])) (g6 : GI B w w6 (val d) v6) {D : DataW Value} (d1 : w.ownsMap Try.prog 3 rawE mw c D) (d2 : ∀ a, Fits a → D.atKey (.int .i64 a) (.held vn0) = .held (val a)) (o7 : w7.ownsMap Try.prog 3 rawE mw (c + 1) (D.put (.int .i64 d) (.held v6))) (gr : w6.grownBy w7 (some mw)) :
    DR w7 B fb gd gu gb ov mw n door f over (upd wt d (wt d ++ [x])) (upd val d v6) (c + 1) := by
  have hsz := g6.bel.size
  have nm := own_nomap d1 (h.own d)
  have d6 : w6.ownsMap Try.prog 3 rawE mw c D := own_map_moveR d1 (g6.blk mw d1.lt nm)
  have nm6 := own_nomap d6 h6
  have key : ∀ k, k < w.heap.size → k ≠ mw → (val d).ownBlock ≠ some k → w7.heap[k]? = w.heap[k]? := fun k hk h1 h2 =>
    (gr.block k (by omega) (fun e => h1 (by cases e; rfl))).trans (g6.blk k hk h2)
  have fbn : (val d).ownBlock ≠ some fb := own_not (h.own d).out h.fr.box (by decide)
  have fbm : fb ≠ mw := map_ne d1 h.fr.box
  refine ⟨h.fr.move fun k hk => key k (h.fr.lt k hk) ?_ ?_, (key ov (h.lt ov (.inr (.inl rfl))).1 (map_ne d1 h.ovr) (fun e => (h.apart d ov e).2.2.2 rfl)).trans h.ovr, h.lo, ⟨_, o7, fun a ha => ?_⟩, fun a => ?_, fun a b hab g => ?_, fun a g => ?_, h.ovne⟩
  · rcases hk with rfl | rfl | rfl | rfl
    · exact fbm
    · exact map_ne d1 h.fr.d
    · exact map_ne d1 h.fr.u
    · exact map_ne d1 h.fr.b
  · intro e
    rcases hk with rfl | rfl | rfl | rfl
    · exact fbn e
    · exact (h.apart d _ e).1 rfl
    · exact (h.apart d _ e).2.1 rfl
    · exact (h.apart d _ e).2.2.1 rfl
  · unfold upd
    by_cases e : a = d
    · subst e
      rw [if_pos rfl]
      exact atKey_put_same d1.isMap (show WideAt.IsKeyLit (Lit.int .i64 _) from trivial) _ _
    · rw [atKey_put_other (key_ne e), if_neg e]; exact d2 a ha
  · unfold upd
    by_cases e : a = d
    · subst e
      rw [if_pos rfl, if_pos rfl]
      refine ⟨rfl, ?_⟩
      have e2 : (wt a ++ [x]).length = (wt a).length + 1 := by simp
      rw [e2]
      exact own_move h6.out fun g hg => gr.block g (own_block h6.out hg).2 (fun e3 => nm6 (by rw [hg, ← e3]))
    · rw [if_neg e, if_neg e]
      exact ⟨rfl, own_move (h.own a).out fun g hg => key g (own_block (h.own a).out hg).2 (fun e3 => own_nomap d1 (h.own a) (by rw [hg, e3])) (h.ne a d e g hg)⟩
  · unfold upd
    by_cases e1 : a = d
    · rw [if_pos e1, if_neg (fun e2 => hab (e1.trans e2.symm))]
      intro hg hg2
      rcases g6.own g hg with h1 | h1
      · exact h.ne d b (fun e => hab (e1.trans e)) g h1 hg2
      · have := (own_block (h.own b).out hg2).2; omega
    · rw [if_neg e1]
      by_cases e2 : b = d
      · rw [if_pos e2]
        intro hg hg2
        rcases g6.own g hg2 with h1 | h1
        · exact h.ne a d e1 g hg h1
        · have := (own_block (h.own a).out hg).2; omega
      · rw [if_neg e2]; exact h.ne a b hab g
  · unfold upd
    by_cases e1 : a = d
    · rw [if_pos e1]
      intro hg
      rcases g6.own g hg with h1 | h1
      · exact h.apart d g h1
      · have l1 := h.fr.lt gd (.inr (.inl rfl))
        have l2 := h.fr.lt gu (.inr (.inr (.inl rfl)))
        have l3 := h.fr.lt gb (.inr (.inr (.inr rfl)))
        have l4 := (h.lt ov (.inr (.inl rfl))).1
        omega
    · rw [if_neg e1]; exact h.apart a g
theorem DR.del {w w' : World} {B fb gd gu gb ov mw n door f over wt val c} (h : DR w B fb gd gu gb ov mw n door f over wt val c) {d : Int} {D : DataW Value} (d1 : w.ownsMap Try.prog 3 rawE mw c D) (d2 : ∀ a, Fits a → D.atKey (.int .i64 a) (.held vn0) = .held (val a)) (o7 : w'.ownsMap Try.prog 3 rawE mw c (D.del (.int .i64 d))) (gr : w.grownBy w' (some mw)) :
    DR w' B fb gd gu gb ov mw n door f over (upd wt d []) (upd val d vn0) c := by
  have key : ∀ k, k < w.heap.size → k ≠ mw → w'.heap[k]? = w.heap[k]? := fun k hk h1 => gr.block k hk (fun e => h1 (by cases e; rfl))
  refine ⟨h.fr.move fun k hk => key k (h.fr.lt k hk) ?_, (key ov (h.lt ov (.inr (.inl rfl))).1 (map_ne d1 h.ovr)).trans h.ovr, h.lo, ⟨_, o7, fun a ha => ?_⟩, fun a => ?_, fun a b hab g => ?_, fun a g => ?_, h.ovne⟩
  · rcases hk with rfl | rfl | rfl | rfl
    · exact map_ne d1 h.fr.box
    · exact map_ne d1 h.fr.d
    · exact map_ne d1 h.fr.u
    · exact map_ne d1 h.fr.b
  · unfold upd
    by_cases e : a = d
    · subst e
      rw [if_pos rfl]
      exact atKey_del_same _
    · rw [atKey_del_other (key_ne e), if_neg e]; exact d2 a ha
  · unfold upd
    by_cases e : a = d
    · rw [if_pos e, if_pos e]; exact OwnI.nil _ _
    · rw [if_neg e, if_neg e]
      exact ⟨rfl, own_move (h.own a).out fun g hg => key g (own_block (h.own a).out hg).2 (fun e3 => own_nomap d1 (h.own a) (by rw [hg, e3]))⟩
  · unfold upd
    by_cases e1 : a = d
    · rw [if_pos e1]; intro hg; simp [vn0, Value.ownBlock] at hg
    · rw [if_neg e1]
      by_cases e2 : b = d
      · rw [if_pos e2]; intro _; simp [vn0, Value.ownBlock]
      · rw [if_neg e2]; exact h.ne a b hab g
  · unfold upd
    by_cases e1 : a = d
    · rw [if_pos e1]; intro hg; simp [vn0, Value.ownBlock] at hg
    · rw [if_neg e1]; exact h.apart a g
/-- The places that lead to one: their least doors. -/
theorem dIn_take (x : Nat) (src : List Int) (d : List Int × Fo) {j : Nat} (hj : j < src.length) : dIn x (src.take (j + 1)) d = (((dIn x (src.take j) d).1.set x (min (gn (dIn x (src.take j) d).1 x) (gn (dIn x (src.take j) d).1 (lst (dIn x (src.take j) d).1 (dIn x (src.take j) d).2 (src[j]).toNat).1))), (lst (dIn x (src.take j) d).1 (dIn x (src.take j) d).2 (src[j]).toNat).2) := by
  rw [← List.take_append_getElem hj, dIn, List.foldl_append]
  rfl
theorem dIn_fi {n x : Nat} (hx : x < n) {door : List Int} {f : Fo} : ∀ (src : List Int), (∀ y ∈ src, 0 ≤ y ∧ y < n) → FI n door f → FI n (dIn x src (door, f)).1 (dIn x src (door, f)).2
  | src, hs, h => by
    have key : ∀ (l : List Int) (d : List Int × Fo), (∀ y ∈ l, 0 ≤ y ∧ y < n) → FI n d.1 d.2 → FI n (dIn x l d).1 (dIn x l d).2 := by
      intro l
      induction l with
      | nil => intro d _ h; exact h
      | cons y l ih =>
        intro d hl hd
        have hy := hl y (by simp)
        obtain ⟨q1, q2, _⟩ := hd.lst (x := y.toNat) (by omega)
        have e1 := hd.dr x hx
        have e2 := hd.dr _ q2
        refine ih _ (fun z hz => hl z (by simp [hz])) ?_
        exact q1.door hx (by omega) (by omega)
    exact key src (door, f) hs h
theorem dOv_take (door : List Int) (above : Nat) (l : List Int) (d : List Int × Fo) {j : Nat} (hj : j < l.length) : dOv door above (l.take (j + 1)) d = ((dOv door above (l.take j) d).1.set (l[j]).toNat ((lbw door (dOv door above (l.take j) d).2 (l[j]).toNat above).1 : Int), (lbw door (dOv door above (l.take j) d).2 (l[j]).toNat above).2) := by
  rw [← List.take_append_getElem hj, dOv, List.foldl_append]
  rfl
theorem dOv_ok {n above : Nat} (ha : above < n) {door : List Int} : ∀ (l : List Int) (d : List Int × Fo), (∀ y ∈ l, 0 ≤ y ∧ y < n) → FI n door d.2 → d.1.length = n → (∀ i, i < n → 0 ≤ gn d.1 i ∧ gn d.1 i < n) → FI n door (dOv door above l d).2 ∧ (dOv door above l d).1.length = n ∧ (∀ i, i < n → 0 ≤ gn (dOv door above l d).1 i ∧ gn (dOv door above l d).1 i < n)
  | [], d, _, h1, h2, h3 => ⟨h1, h2, h3⟩
  | y :: l, d, hl, h1, h2, h3 => by
    have hy := hl y (by simp)
    obtain ⟨q1, q2, _⟩ := h1.lbw (low := y.toNat) (above := above) (by omega) ha
    refine dOv_ok ha l (d.1.set y.toNat ((lbw door d.2 y.toNat above).1 : Int), (lbw door d.2 y.toNat above).2) (fun z hz => hl z (by simp [hz])) q1 (by simpa using h2) fun i hi => ?_
    show 0 ≤ gn (d.1.set _ _) i ∧ gn (d.1.set _ _) i < n
    rw [gn_set (by rw [h2]; omega)]
    split
    · omega
    · exact h3 i hi
end Go.Proofs.Ythjjdfiaikibaab
