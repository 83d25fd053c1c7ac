import Derived.Deep.RegionHeld3
import Derived.Test.YtfbkopjncmkbiabGreatDoorKad
set_option linter.unusedVariables false
set_option linter.unusedSimpArgs false
namespace Go.Proofs.YtfbkopjncmkbiabGreatDoor
open Go.ChangeShapes Go.WideShapes Go.ChangeAt Go.RowKit Go.Maps
theorem zero31 (w : World) : (zeroValue 23).run Tryz.prog w = .ok (.slice none 0 0) w := by kernel_rfl
theorem DR.look {w B fb gd gu gb ov mw n door f over wt val c} (h : DR w B fb gd gu gb ov mw n door f over wt val c) {a : Int} (ha : Fits a) : (Instr.lookup 179 (.map (some mw)) (.int .i64 a) false).run Tryz.prog w = .ok (val a) w := by
 obtain ⟨D, d1, d2⟩ := h.mp
 obtain ⟨v, ps, hr, hv⟩ := d1.lookup law3 Tryz.underlying179 (zero31 w) (zd := .held vn0) (zp := []) rfl (keyOf_int_mk Tryz.underlying3 ha.wf)
 rw [d2 a ha] at hv
 simp only [rawE, Option.some.injEq, Prod.mk.injEq, DataW.held.injEq] at hv
 rw [<- hv.1]; exact hr
theorem DR.put {w w6 w7 : World} {B fb gd gu gb ov mw n door f over wt val c} (h : DR w B fb gd gu gb ov mw n door f over wt val c) {d x : Int} (hd : Fits d) {v6 : Value} (h6 : OwnI w6 B v6 ((wt d).length + 1) (wt d ++ [x])) (g6 : GI B w w6 (val d) v6) {D : DataW Value} (d1 : w.ownsMap Tryz.prog 3 rawE mw c D) (d2 : ∀ a, Fits a -> D.atKey (.int .i64 a) (.held vn0) = .held (val a)) (o7 : w7.ownsMap Tryz.prog 3 rawE mw (c + 1) (D.put (.int .i64 d) (.held v6))) (gr : w6.grownBy w7 (some mw)) :
 DR w7 B fb gd gu gb ov mw n door f over (upd wt d (wt d ++ [x])) (upd val d v6) (c + 1) := by
 have hsz := g6.bel.size
 have nm := own_nomap d1 (h.own d)
 have d6 : w6.ownsMap Tryz.prog 3 rawE mw c D := own_map_moveR d1 (g6.blk mw d1.lt nm)
 have nm6 := own_nomap d6 h6
 have key : ∀ k, k < w.heap.size -> k ≠ mw -> (val d).ownBlock ≠ some k -> w7.heap[k]? = w.heap[k]? := fun k hk h1 h2 =>
  (gr.block k (by omega) (fun e => h1 (by cases e; rfl))).trans (g6.blk k hk h2)
 have fbn : (val d).ownBlock ≠ some fb := own_not (h.own d).out h.fr.box (by decide)
 have fbm : fb ≠ mw := map_ne d1 h.fr.box
 refine ⟨h.fr.move fun k hk => key k (h.fr.lt k hk) ?_ ?_, (key ov (h.lt ov (.inr (.inl rfl))).1 (map_ne d1 h.ovr) (fun e => (h.apart d ov e).2.2.2 rfl)).trans h.ovr, h.lo, ⟨_, o7, fun a ha => ?_⟩, fun a => ?_, fun a b hab g => ?_, fun a g => ?_, h.ovne⟩
 ·rcases hk with rfl | rfl | rfl | rfl
  ·exact fbm
  ·exact map_ne d1 h.fr.d
  ·exact map_ne d1 h.fr.u
  ·exact map_ne d1 h.fr.b
 ·intro e
  rcases hk with rfl | rfl | rfl | rfl
  ·exact fbn e
  ·exact (h.apart d _ e).1 rfl
  ·exact (h.apart d _ e).2.1 rfl
  ·exact (h.apart d _ e).2.2.1 rfl
 ·unfold upd
  by_cases e : a = d
  ·subst e
   rw [if_pos rfl]
   exact atKey_put_same d1.isMap (show WideAt.IsKeyLit (Lit.int .i64 _) from trivial) _ _
  ·rw [atKey_put_other (key_ne e), if_neg e]; exact d2 a ha
 ·unfold upd
  by_cases e : a = d
  ·subst e
   rw [if_pos rfl, if_pos rfl]
   refine ⟨rfl, ?_⟩
   have e2 : (wt a ++ [x]).length = (wt a).length + 1 := by simp
   rw [e2]
   exact own_move h6.out fun g hg => gr.block g (own_block h6.out hg).2 (fun e3 => nm6 (by rw [hg, <- e3]))
  ·rw [if_neg e, if_neg e]
   exact ⟨rfl, own_move (h.own a).out fun g hg => key g (own_block (h.own a).out hg).2 (fun e3 => own_nomap d1 (h.own a) (by rw [hg, e3])) (h.ne a d e g hg)⟩
 ·unfold upd
  by_cases e1 : a = d
  ·rw [if_pos e1, if_neg (fun e2 => hab (e1.trans e2.symm))]
   intro hg hg2
   rcases g6.own g hg with h1 | h1
   ·exact h.ne d b (fun e => hab (e1.trans e)) g h1 hg2
   ·have := (own_block (h.own b).out hg2).2; omega
  ·rw [if_neg e1]
   by_cases e2 : b = d
   ·rw [if_pos e2]
    intro hg hg2
    rcases g6.own g hg2 with h1 | h1
    ·exact h.ne a d e1 g hg h1
    ·have := (own_block (h.own a).out hg).2; omega
   ·rw [if_neg e2]; exact h.ne a b hab g
 ·unfold upd
  by_cases e1 : a = d
  ·rw [if_pos e1]
   intro hg
   rcases g6.own g hg with h1 | h1
   ·exact h.apart d g h1
   ·have l1 := h.fr.lt gd (.inr (.inl rfl))
    have l2 := h.fr.lt gu (.inr (.inr (.inl rfl)))
    have l3 := h.fr.lt gb (.inr (.inr (.inr rfl)))
    have l4 := (h.lt ov (.inr (.inl rfl))).1
    omega
  ·rw [if_neg e1]; exact h.apart a g
theorem DR.del {w w' : World} {B fb gd gu gb ov mw n door f over wt val c} (h : DR w B fb gd gu gb ov mw n door f over wt val c) {d : Int} {D : DataW Value} (d1 : w.ownsMap Tryz.prog 3 rawE mw c D) (d2 : ∀ a, Fits a -> D.atKey (.int .i64 a) (.held vn0) = .held (val a)) (o7 : w'.ownsMap Tryz.prog 3 rawE mw c (D.del (.int .i64 d))) (gr : w.grownBy w' (some mw)) :
 DR w' B fb gd gu gb ov mw n door f over (upd wt d []) (upd val d vn0) c := by
 have key : ∀ k, k < w.heap.size -> k ≠ mw -> w'.heap[k]? = w.heap[k]? := fun k hk h1 => gr.block k hk (fun e => h1 (by cases e; rfl))
 refine ⟨h.fr.move fun k hk => key k (h.fr.lt k hk) ?_, (key ov (h.lt ov (.inr (.inl rfl))).1 (map_ne d1 h.ovr)).trans h.ovr, h.lo, ⟨_, o7, fun a ha => ?_⟩, fun a => ?_, fun a b hab g => ?_, fun a g => ?_, h.ovne⟩
 ·rcases hk with rfl | rfl | rfl | rfl
  ·exact map_ne d1 h.fr.box
  ·exact map_ne d1 h.fr.d
  ·exact map_ne d1 h.fr.u
  ·exact map_ne d1 h.fr.b
 ·unfold upd
  by_cases e : a = d
  ·subst e
   rw [if_pos rfl]
   exact atKey_del_same _
  ·rw [atKey_del_other (key_ne e), if_neg e]; exact d2 a ha
 ·unfold upd
  by_cases e : a = d
  ·rw [if_pos e, if_pos e]; exact OwnI.nil _ _
  ·rw [if_neg e, if_neg e]
   exact ⟨rfl, own_move (h.own a).out fun g hg => key g (own_block (h.own a).out hg).2 (fun e3 => own_nomap d1 (h.own a) (by rw [hg, e3]))⟩
 ·unfold upd
  by_cases e1 : a = d
  ·rw [if_pos e1]; intro hg; simp [vn0, Value.ownBlock] at hg
  ·rw [if_neg e1]
   by_cases e2 : b = d
   ·rw [if_pos e2]; intro _; simp [vn0, Value.ownBlock]
   ·rw [if_neg e2]; exact h.ne a b hab g
 ·unfold upd
  by_cases e1 : a = d
  ·rw [if_pos e1]; intro hg; simp [vn0, Value.ownBlock] at hg
  ·rw [if_neg e1]; exact h.apart a g
theorem dIn_take (x : Nat) (src : List Int) (d : List Int × Fo) {j : Nat} (hj : j < src.length) : dIn x (src.take (j + 1)) d = (((dIn x (src.take j) d).1.set x (min (gn (dIn x (src.take j) d).1 x) (gn (dIn x (src.take j) d).1 (lst (dIn x (src.take j) d).1 (dIn x (src.take j) d).2 (src[j]).toNat).1))), (lst (dIn x (src.take j) d).1 (dIn x (src.take j) d).2 (src[j]).toNat).2) := by
 rw [<- List.take_append_getElem hj, dIn, List.foldl_append]
 rfl
theorem dIn_fi {n x : Nat} (hx : x < n) {door : List Int} {f : Fo} : ∀ (src : List Int), (∀ y ∈ src, 0 <= y /\ y < n) -> FI n door f -> FI n (dIn x src (door, f)).1 (dIn x src (door, f)).2
 | src, hs, h => by
   have key : ∀ (l : List Int) (d : List Int × Fo), (∀ y ∈ l, 0 <= y /\ y < n) -> FI n d.1 d.2 -> FI n (dIn x l d).1 (dIn x l d).2 := by
    intro l
    induction l with
    | nil => intro d _ h; exact h
    | cons y l ih =>
      intro d hl hd
      have hy := hl y (by simp)
      obtain ⟨q1, q2, _⟩ := hd.lst (x := y.toNat) (by omega)
      have e1 := hd.dr x hx
      have e2 := hd.dr _ q2
      refine ih _ (fun z hz => hl z (by simp [hz])) ?_
      exact q1.door hx (by omega) (by omega)
   exact key src (door, f) hs h
theorem dOv_take (door : List Int) (above : Nat) (l : List Int) (d : List Int × Fo) {j : Nat} (hj : j < l.length) : dOv door above (l.take (j + 1)) d = ((dOv door above (l.take j) d).1.set (l[j]).toNat ((lbw door (dOv door above (l.take j) d).2 (l[j]).toNat above).1 : Int), (lbw door (dOv door above (l.take j) d).2 (l[j]).toNat above).2) := by
 rw [<- List.take_append_getElem hj, dOv, List.foldl_append]
 rfl
theorem dOv_ok {n above : Nat} (ha : above < n) {door : List Int} : ∀ (l : List Int) (d : List Int × Fo), (∀ y ∈ l, 0 <= y /\ y < n) -> FI n door d.2 -> d.1.length = n -> (∀ i, i < n -> 0 <= gn d.1 i /\ gn d.1 i < n) -> FI n door (dOv door above l d).2 /\ (dOv door above l d).1.length = n /\ (∀ i, i < n -> 0 <= gn (dOv door above l d).1 i /\ gn (dOv door above l d).1 i < n)
 | [], d, _, h1, h2, h3 => ⟨h1, h2, h3⟩
 | y :: l, d, hl, h1, h2, h3 => by
   have hy := hl y (by simp)
   obtain ⟨q1, q2, _⟩ := h1.lbw (low := y.toNat) (above := above) (by omega) ha
   refine dOv_ok ha l (d.1.set y.toNat ((lbw door d.2 y.toNat above).1 : Int), (lbw door d.2 y.toNat above).2) (fun z hz => hl z (by simp [hz])) q1 (by simpa using h2) fun i hi => ?_
   show 0 <= gn (d.1.set _ _) i /\ gn (d.1.set _ _) i < n
   rw [gn_set (by rw [h2]; omega)]
   split
   ·omega
   ·exact h3 i hi
def led (P : Program) (ops : Array Oper) (Q : Exit -> Act -> World -> Prop) (S : World -> Prop) (z : Nat) : Nat -> Array Bool -> Act -> World -> Prop
 | 0, l, a, w => Region.ready .any ops l = [] /\ Q .normal a w
 | k + 1, l, a, w => (Region.ready .any ops l = [] -> Q .normal a w) /\ ∀ i ∈ Region.ready .any ops l, wpOp P ops Q i (fun a' w' => (i ≠ z -> S w') /\ led P ops Q S z k (l.setIfInBounds i true) a' w') a w
theorem led_any {P : Program} {ops : Array Oper} {Q : Exit -> Act -> World -> Prop} {S : World -> Prop} {z : Nat} : ∀ (k : Nat) (l : Array Bool) (a : Act) (w : World), led P ops Q S z k l a w -> wpAny P .any ops Q k l a w
 | 0, _, _, _, h => h
 | k + 1, _, _, _, h => ⟨h.1, fun i hi => wpOp_mono (fun a' w' h' => led_any k _ a' w' h'.2) (h.2 i hi)⟩
def waitsFor (ops : Array Oper) (z i : Nat) : Bool := match ops[z]? with
 | some o => o.after.any fun e => Region.binds .any e && e.on == i
 | none => false
theorem not_yet {ops : Array Oper} {z i : Nat} {l : Array Bool} (hw : waitsFor ops z i = true) (hi : i ∈ Region.ready .any ops l) : z ∉ Region.ready .any ops l := by
 intro hz
 obtain ⟨_, o, ho, hall⟩ := mem_ready.1 hz
 unfold waitsFor at hw
 rw [ho] at hw
 simp only [Array.any_eq_true', Bool.and_eq_true, beq_iff_eq] at hw
 obtain ⟨e, he, hb, hon⟩ := hw
 have h1 := hall e he hb
 have h0 := (mem_ready.1 hi).1
 rw [hon] at h1
 rcases Nat.lt_or_ge i l.size with h' | h'
 ·simp [h'] at h0 h1; rw [h0] at h1; cases h1
 ·simp [Array.getElem?_eq_none h'] at h1
theorem led_first {P : Program} {ops : Array Oper} {Q : Exit -> Act -> World -> Prop} {S : World -> Prop} {z i : Nat} {oi : Oper} {v : Value} (hi : ops[i]? = some oi) (hsel : ∀ (j : Nat) (o : Oper) cs b, ops[j]? = some o -> o.op ≠ .select cs b) (hQ : ∀ c a w, Q (.panic c) (a.put oi.dst v) w -> Q (.panic c) a w) (hz : waitsFor ops z i = true) (hzi : i ≠ z) :
 ∀ (k : Nat) (l : Array Bool) (a : Act) (w : World), (∀ j oj, ops[j]? = some oj -> j ≠ i -> l.getD j true = false -> (∀ e ∈ oj.after, Region.binds .any e = true -> e.on ≠ i) -> oi.apart ops oj = true) -> i ∈ Region.ready .any ops l -> YieldsIf P ops S oi v a -> S w -> led P ops Q S z k (l.setIfInBounds i true) (a.put oi.dst v) w -> led P ops Q S z (k + 1) l a w := by
 intro k
 induction k with
 | zero =>
   intro l a w _ hr hy hS H
   refine ⟨fun h => absurd hr (by rw [h]; simp), fun j hj => ?_⟩
   by_cases e : j = i
   ·subst e
    exact hy.wpOp hi hS ⟨fun _ => hS, H⟩
   ·have h1 := ready_mono hj e
    rw [H.1] at h1
    simp at h1
 | succ k ih =>
   intro l a w hfree hr hy hS H
   refine ⟨fun h => absurd hr (by rw [h]; simp), fun j hj => ?_⟩
   by_cases e : j = i
   ·subst e
    exact hy.wpOp hi hS ⟨fun _ => hS, H⟩
   ·have hjz : j ≠ z := fun e2 => not_yet hz hr (e2 ▸ hj)
    obtain ⟨hun, oj, hoj, hall⟩ := mem_ready.1 hj
    have hno : ∀ e ∈ oj.after, Region.binds .any e = true -> e.on ≠ i := fun x hx hb heq => by
     have h1 := hall x hx hb
     have h0 := (mem_ready.1 hr).1
     rw [heq] at h1
     rcases Nat.lt_or_ge i l.size with h' | h'
     ·simp [h'] at h0 h1; rw [h0] at h1; cases h1
     ·simp [Array.getElem?_eq_none h'] at h1
    have h2 := wpOp_putIf hoj (hfree j oj hoj e hun hno) (fun cs b => hsel i oi cs b hi) (fun cs b => hsel j oj cs b hoj) hQ hy (H.2 j (ready_mono hj e))
    refine wpOp_mono (fun a' w' h3 => ⟨fun _ => h3.2.1 hjz, ih (l.setIfInBounds j true) a' w' ?_ (ready_mono hr (Ne.symm e)) h3.1 (h3.2.1 hjz) ?_⟩) h2
    ·intro m om hm hmi hmun hmno
     refine hfree m om hm hmi ?_ hmno
     by_cases ejm : j = m
     ·subst ejm; exact hun
     ·rw [getD_set_ne true ejm] at hmun; exact hmun
    ·rw [Array.setIfInBounds_comm _ _ e]
     exact h3.2.2
theorem led_take {P : Program} {ops : Array Oper} {Q : Exit -> Act -> World -> Prop} {S : World -> Prop} {z i : Nat} {oi : Oper} {v : Value} {k : Nat} {l : Array Bool} {a : Act} {w : World} (hi : ops[i]? = some oi) (hs : Region.noSelect ops = true) (hf : Region.free .any ops l i = true) (hr : (Region.ready .any ops l).contains i = true) (hz : (waitsFor ops z i && i != z) = true)
 (hQ : ∀ c a w, Q (.panic c) (a.put oi.dst v) w -> Q (.panic c) a w) (hy : YieldsIf P ops S oi v a) (hS : S w) (h : led P ops Q S z k (l.setIfInBounds i true) (a.put oi.dst v) w) : led P ops Q S z (k + 1) l a w := by
 simp only [Bool.and_eq_true, bne_iff_ne, ne_eq] at hz
 exact led_first hi (Region.noSelect_spec hs) hQ hz.1 hz.2 k l a w (Region.free_spec hi hf) (by simpa using hr) hy hS h
theorem led_t {P : Program} {ops : Array Oper} {Q : Exit -> Act -> World -> Prop} {S : World -> Prop} {z i : Nat} {oi : Oper} {v : Value} {k : Nat} {l : Array Bool} {a : Act} {w : World} (hi : ops[i]? = some oi) (hb : (Region.noSelect ops && (Region.free .any ops l i && ((Region.ready .any ops l).contains i && (waitsFor ops z i && i != z)))) = true) (hy : YieldsIf P ops S oi v a) (hS : S w) (h : led P ops Q S z k (l.setIfInBounds i true) (a.put oi.dst v) w) (hQ : ∀ c a w, Q (.panic c) (a.put oi.dst v) w -> Q (.panic c) a w := by exact fun _ _ _ h => h) : led P ops Q S z (k + 1) l a w := by
 obtain ⟨h1, hb⟩ := Bool.and_eq_true_iff.1 hb
 obtain ⟨h2, hb⟩ := Bool.and_eq_true_iff.1 hb
 obtain ⟨h3, h4⟩ := Bool.and_eq_true_iff.1 hb
 exact led_take hi h1 h2 h3 h4 hQ hy hS h
theorem led_n {P : Program} {ops : Array Oper} {Q : Exit -> Act -> World -> Prop} {S : World -> Prop} {z : Nat} {oi : Oper} {v : Value} {k : Nat} {l : Array Bool} {a a' : Act} {w : World} (i : Nat) (hS : S w) (h : led P ops Q S z k (l.setIfInBounds i true) a' w) (hi : ops[i]? = some oi := by exact rfl) (hb : (Region.noSelect ops && (Region.free .any ops l i && ((Region.ready .any ops l).contains i && (waitsFor ops z i && i != z)))) = true := by kernel_rfl) (hy : YieldsIf P ops S oi v a := by exact .inl ⟨by rfl, by intro w' h; (repeat obtain ⟨_, h⟩ : _ /\ _ := h); go_simp; all_goals with_reducible rfl⟩) (ha : a.put oi.dst v = a' := by (try simp only [Act.put, zi, zz, zs]); exact rfl) (hQ : ∀ c a w, Q (.panic c) (a.put oi.dst v) w -> Q (.panic c) a w := by exact fun _ _ _ h => h) : led P ops Q S z (k + 1) l a w := by
 subst ha
 exact led_t hi hb hy hS h hQ
theorem led_one {P : Program} {ops : Array Oper} {Q : Exit -> Act -> World -> Prop} {S : World -> Prop} {z i : Nat} {oi : Oper} {k : Nat} {l : Array Bool} {a : Act} {w : World} (hi : ops[i]? = some oi) (hr : Region.ready .any ops l = [i])
 (h : ∀ K' : Act -> World -> Prop, (∀ a' w', (i ≠ z -> S w') -> led P ops Q S z k (l.setIfInBounds i true) a' w' -> K' a' w') -> if Region.wanted oi (yielded ops a.tmps) = true then Oper.wp P oi a w K' Q else K' (a.put oi.dst undef) w) : led P ops Q S z (k + 1) l a w := by
 refine ⟨fun h0 => absurd h0 (by rw [hr]; simp), fun j hj => ?_⟩
 rw [hr] at hj
 simp at hj
 subst hj
 exact wpOp_step hi fun K' hK => h K' fun a' w' h1 h2 => hK a' w' ⟨h1, h2⟩
theorem led_done {P : Program} {ops : Array Oper} {Q : Exit -> Act -> World -> Prop} {S : World -> Prop} {z : Nat} {l : Array Bool} {a : Act} {w : World} (hr : Region.ready .any ops l = []) (h : Q .normal a w) : led P ops Q S z 0 l a w := ⟨hr, h⟩
theorem led_start {P : Program} {id : Nat} {ops : Array Oper} {Q : Exit -> Act -> World -> Prop} {S : World -> Prop} {z : Nat} {a : Act} {w : World} (hm : P.follows .mixedOrders = true) (h : led P ops Q S z ops.size (Array.replicate ops.size false) a w.drew) : (Code.region id ops true).wp P Q a w :=
 wp_region_any hm (led_any _ _ _ _ h)
end Go.Proofs.YtfbkopjncmkbiabGreatDoor
