import Derived.Deep.RegionHeldLaw
import Derived.OwnWalk
import Derived.Laws.OwnMore
import Derived.Lib.AppendStr
import Derived.Test.YtfofmmkihhnfmaaGreatDoorJaa
set_option linter.unusedVariables false
set_option maxRecDepth 10000
set_option linter.unusedSimpArgs false
namespace Go.Proofs.YtfofmmkihhnfmaaGreatDoor
open Go.ChangeShapes Go.WideShapes Go.ChangeAt Go.RowKit Go.Maps
def inB (ln : Int -> Option Int) (a i : Int) : Prop := 0 <= i /\ i < (ln a).getD 0
theorem CH.at {w h m n tk ln f c} (H : CH w h m n tk ln f c) {a i : Int} (hin : inB ln a i) : 1 <= a /\ 0 <= i /\ a + 1 + i <= 4611686018427387904 := by
 obtain ⟨h1, h2⟩ := hin
 cases e : ln a with
 | none => rw [e] at h2; simp at h2; omega
 | some k =>
   rw [e] at h2
   simp at h2
   have := H.inn a k e
   have := H.lim
   omega
theorem place_yes (w : World) {h m n tk ln f c} (H : CH w h m n tk ln f c) (a i : Int) (ha : Fits a) (hi : Fits i) (hin : inB ln a i) : Calls Tryz.prog 125 #[.pointer (some ⟨h, 0, none⟩), .int .i64 a, .int .i64 i] w fun e w' => e = .returned (.tuple #[.int .i64 (a + 1 + i), .bool true]) /\ w' = w := by
 have c0 := cell_arr (i := 0) H.box rfl
 have hb := H.at hin
 obtain ⟨D, d1, d2⟩ := H.o1
 obtain ⟨g1, g2⟩ := d2 a ha
 have hkey := keyOf_int_mk Tryz.underlying3 ha.wf
 have g2' : Hid (D.atKey (.int .i64 a) (.lit (.int .i64 0)) = .lit (.int .i64 ((ln a).getD 0))) := g2
 unfold inB at hin
 generalize (ln a).getD 0 = r at g2' hin
 obtain ⟨h0, h1⟩ := hin
 obtain ⟨b0, b1, b2⟩ := hb
 clear g1 g2 d2 H
 obtain ⟨x, hrun, hat, _⟩ := d1.lookup_int law3 Tryz.underlying73 Tryz.underlying3 (zero3 _) hkey
 obtain rfl : x = r := by (have e := hat.symm.trans g2'.out; cases e; rfl)
 clear hat
 go_enter Tryz.func125, Tryz.ntmps125
 go_wp2
 go_ret2
 refine ⟨?_, rfl⟩
 first | rfl | (congr; go_num) | go_num
theorem get_yes (w : World) {h m n tk ln f c} (H : CH w h m n tk ln f c) (a i : Int) (ha : Fits a) (hi : Fits i) (hin : inB ln a i) : Calls Tryz.prog 104 #[.pointer (some ⟨h, 0, none⟩), .int .i64 a, .int .i64 i] w fun e w' => e = .returned (.tuple #[.int .i64 (f (a + 1 + i)), .bool true]) /\ w' = w := by
 have hp := place_yes w H a i ha hi hin
 have c1 := cell_arr (i := 1) H.box rfl
 have hb := H.at hin
 have ft : Fits (a + 1 + i) := by unfold Fits; omega
 obtain ⟨D, d1, d2⟩ := H.o2
 have g2' : Hid (D.atKey (.int .i64 (a + 1 + i)) (.lit (.int .i64 0)) = .lit (.int .i64 (f (a + 1 + i)))) := d2 _ ft
 have hkey := keyOf_int_mk Tryz.underlying3 ft.wf
 generalize f (a + 1 + i) = r at g2'
 generalize hx : a + 1 + i = y at *
 clear H hin ha hi d2 hb hx ft
 go_enter Tryz.func104, Tryz.ntmps104
 go_wp2_with fail
 refine hp.mono ?_
 rintro e u ⟨rfl, rfl⟩
 clear hp
 go_wp2_with (first
  | (at_lookup; refine wpList_lookup_own_int _ rfl _ _ 73 rfl 3 3 .i64 law3 Tryz.underlying73 Tryz.underlying3 (zero3 _) n c D rfl d1 _ _ rfl hkey ?_; intro x hat hwc
     obtain rfl : x = r := by (have e := hat.symm.trans g2'.out; cases e; rfl))
  | go_in)
 go_ret2
 exact ⟨rfl, rfl⟩
theorem set_yes (w : World) {h m n tk ln f c} (H : CH w h m n tk ln f c) (hc : c < 1000000000) (a i v : Int) (ha : Fits a) (hi : Fits i) (hv : Fits v) (hin : inB ln a i) :
 Calls Tryz.prog 105 #[.pointer (some ⟨h, 0, none⟩), .int .i64 a, .int .i64 i, .int .i64 v] w fun e w' => e = .returned (.bool true) /\ CH w' h m n tk ln (upd f (a + 1 + i) v) (c + 1) /\ Only (CF h m n) w w' := by
 have hp := place_yes w H a i ha hi hin
 have c1 := cell_arr (i := 1) H.box rfl
 have hb := H.at hin
 have ft : Fits (a + 1 + i) := by unfold Fits; omega
 obtain ⟨D, d1, d2⟩ := H.o2
 have hkey := keyOf_int_mk Tryz.underlying3 ft.wf
 have hcm : c < maxLen := by unfold maxLen; omega
 have hvw := hv.wf
 have fin : ∀ (w1 : World) (D' : DataW Unit), w1.ownsMap Tryz.prog 3 (plainElem Tryz.prog 3) n (c + 1) D' -> w.grownBy w1 (some n) -> (∀ y, Fits y -> D'.atKey (.int .i64 y) (.lit (.int .i64 0)) = .lit (.int .i64 (upd f (a + 1 + i) v y))) -> CH w1 h m n tk ln (upd f (a + 1 + i) v) (c + 1) /\ Only (CF h m n) w w1 := by
  intro w1 D' o1 gr hD
  obtain ⟨E, e1, e2⟩ := H.o1
  refine ⟨⟨(gr.block h (H.lt h (.inl rfl)) (fun e => H.hn (by cases e; rfl))).trans H.box, ⟨E, (e1.kept gr (fun e => H.ne (by cases e; rfl))).mono (by omega), e2⟩, ⟨D', o1, hD⟩, H.ne, H.lim, H.inn⟩, (Only.of_grown gr).mono ?_⟩
  rintro k _ e
  cases e
  exact .inr (.inr rfl)
 have hput : ∀ y, Fits y -> (D.put (.int .i64 (a + 1 + i)) (.lit (.int .i64 v))).atKey (.int .i64 y) (.lit (.int .i64 0)) = .lit (.int .i64 (upd f (a + 1 + i) v y)) := by
  intro y hy
  unfold upd
  by_cases e : y = a + 1 + i
  ·subst e
   simp only [if_true]
   exact atKey_put_same d1.isMap (show WideAt.IsKeyLit (Lit.int .i64 _) from trivial) _ _
  ·rw [atKey_put_other (key_ne e), d2 y hy, if_neg e]
 have hdel : v = 0 -> ∀ y, Fits y -> (D.del (.int .i64 (a + 1 + i))).atKey (.int .i64 y) (.lit (.int .i64 0)) = .lit (.int .i64 (upd f (a + 1 + i) v y)) := by
  intro hv y hy
  unfold upd
  by_cases e : y = a + 1 + i
  ·subst e
   simp only [if_true]
   rw [atKey_del_same, hv]
  ·rw [atKey_del_other (key_ne e), d2 y hy, if_neg e]
 have FIN := show Hid _ from fin
 have HP := show Hid _ from hput
 have HD := show Hid _ from hdel
 clear fin hput hdel
 generalize a + 1 + i = y at *
 clear hin ha hi d2 hb ft H
 by_cases h0 : v = 0
 ·go_enter Tryz.func105, Tryz.ntmps105
  go_wp2_with fail
  refine hp.mono ?_
  rintro e u ⟨rfl, rfl⟩
  clear hp
  go_wp2_with (first
   | (at_delete; refine wpList_delete_own _ rfl _ _ 73 3 rfl 3 law3 Tryz.underlying73 _ n c D rfl d1 _ _ rfl hkey ?_; intro w1 own1 turn1)
   | go_in)
  go_ret
  obtain ⟨r1, r2⟩ := FIN.out w1 _ (own1.mono (Nat.le_succ _)) turn1.grown (HD.out h0)
  exact ⟨rfl, r1, r2⟩
 ·go_enter Tryz.func105, Tryz.ntmps105
  go_wp2_with fail
  refine hp.mono ?_
  rintro e u ⟨rfl, rfl⟩
  clear hp
  go_wp2_with (first
   | (at_mapUpdate; refine wpList_mapUpdate_own _ rfl _ _ _ 73 rfl 3 3 law3 Tryz.underlying73 _ n c D rfl d1 hcm _ _ _ rfl rfl hkey _ [] (plainElem_int Tryz.underlying3 hvw) ?_; intro w1 own1 turn1)
   | go_in)
  go_ret
  obtain ⟨r1, r2⟩ := FIN.out w1 _ own1 turn1 HP.out
  exact ⟨rfl, r1, r2⟩
theorem make_yes (w : World) {h m n tk ln f c} (H : CH w h m n tk ln f c) (hc : c < 1000000000) (k : Int) (h0 : 0 <= k) (h1 : tk + k < 4611686018427387904) :
 Calls Tryz.prog 100 #[.pointer (some ⟨h, 0, none⟩), .int .i64 k] w fun e w' => e = .returned (.tuple #[.int .i64 (tk + 1), .bool true]) /\ CH w' h m n (tk + k + 1) (upd ln (tk + 1) (some k)) f (c + 1) /\ Only (CF h m n) w w' := by
 have c0 := cell_arr (i := 0) H.box rfl
 have c2 := cell_arr (i := 2) H.box rfl
 obtain ⟨l1, l2⟩ := H.lim
 obtain ⟨D, d1, d2⟩ := H.o1
 have ft : Fits (tk + 1) := by unfold Fits; omega
 have hkey := keyOf_int_mk Tryz.underlying3 ft.wf
 have hcm : c < maxLen := by unfold maxLen; omega
 have fk : Fits k := by unfold Fits; omega
 have hvw := fk.wf
 have fin : ∀ (w1 : World) (D' : DataW Unit), w1.ownsMap Tryz.prog 3 (plainElem Tryz.prog 3) m (c + 1) (D.put (.int .i64 (tk + 1)) (.lit (.int .i64 k))) -> w.grownBy w1 (some m) -> w1.cell? ⟨h, 2, none⟩ = some (.int .i64 tk) /\ w1.frozen? ⟨h, 2, none⟩ = false /\ CH (w1.setCell ⟨h, 2, none⟩ (.int .i64 (tk + k + 1))) h m n (tk + k + 1) (upd ln (tk + 1) (some k)) f (c + 1) /\ Only (CF h m n) w (w1.setCell ⟨h, 2, none⟩ (.int .i64 (tk + k + 1))) := by
  intro w1 D' o1 gr
  obtain ⟨E, e1, e2⟩ := H.o2
  have hb := (gr.block h (H.lt h (.inl rfl)) (fun e => H.hm (by cases e; rfl))).trans H.box
  refine ⟨cell_arr (i := 2) hb rfl, fz_of hb, ⟨heap_set_at hb, ⟨_, own_map_move o1 (heap_set_other (Ne.symm H.hm)), ?_⟩, ⟨E, own_map_move ((e1.kept gr (fun e => H.ne (by cases e; rfl))).mono (Nat.le_succ _)) (heap_set_other (Ne.symm H.hn)), e2⟩, H.ne, by omega, ?_⟩, ((Only.of_grown gr).mono ?_).trans (Only.of_set _ _ _) ?_⟩
  ·intro y hy
   unfold upd
   by_cases e : y = tk + 1
   ·subst e
    simp only [if_true]
    exact ⟨has_put_same d1.isMap (show WideAt.IsKeyLit (Lit.int .i64 _) from trivial) _, atKey_put_same d1.isMap (show WideAt.IsKeyLit (Lit.int .i64 _) from trivial) _ _⟩
   ·rw [atKey_put_other (key_ne e), has_put_other (key_ne e), if_neg e]
    exact d2 y hy
  ·intro a j
   unfold upd
   by_cases e : a = tk + 1
   ·subst e
    simp only [if_true]
    intro e; cases e; omega
   ·rw [if_neg e]
    intro e
    have := H.inn a j e
    omega
  ·rintro k _ e
   cases e
   exact .inr (.inl rfl)
  ·rintro k _ e
   exact .inl e
 have FIN := show Hid _ from fin
 clear fin d2 fk ft H
 go_enter Tryz.func100, Tryz.ntmps100
 go_wp2_with (first
  | (at_mapUpdate; refine wpList_mapUpdate_own _ rfl _ _ _ 73 rfl 3 3 law3 Tryz.underlying73 _ m c D rfl d1 hcm _ _ _ rfl rfl hkey _ [] (plainElem_int Tryz.underlying3 hvw) ?_; intro w1 own1 turn1
     obtain ⟨x1, x2, x3⟩ := FIN.out w1 D own1 turn1
     have X3 := show Hid _ from x3
     clear x3 FIN)
  | go_in)
 go_ret2
 obtain ⟨r1, r2⟩ := X3.out
 rw [show tk + (k + 1) = tk + k + 1 by omega]
 exact ⟨rfl, r1, r2⟩
end Go.Proofs.YtfofmmkihhnfmaaGreatDoor
namespace Go.Proofs.YtfofmmkihhnfmaaGreatDoor
open Go.ChangeShapes Go.WideShapes Go.ChangeAt Go.RowKit
theorem own_keep {w w' : World} {B e s v n xs} (h : w.ownsRow B e s v n xs) (hk : ∀ g, g < w.heap.size -> w'.heap[g]? = w.heap[g]?) : w'.ownsRow B e s v n xs := by
 refine ⟨h.1, h.2.imp id ?_⟩
 rintro ⟨g, cap, cur, e1, e2, e3, e4⟩
 have hlt : g < w.heap.size := (gl e3)
 exact ⟨g, cap, cur, e1, e2, (hk g hlt).trans e3, e4⟩
theorem own_block {w : World} {B e s v n xs} (h : w.ownsRow B e s v n xs) {g : Nat} (hg : v.ownBlock = some g) : B <= g /\ g < w.heap.size := by
 rcases h.2 with ⟨rfl, _⟩ | ⟨g', cap, cur, rfl, e2, e3, e4⟩
 ·simp [Value.ownBlock] at hg
 ·simp [Value.ownBlock] at hg
  subst hg
  exact ⟨e2, (gl e3)⟩
theorem own_move {w w' : World} {B e s n xs} {v : Value} (h : w.ownsRow B e s v n xs) (hk : ∀ g, v.ownBlock = some g -> w'.heap[g]? = w.heap[g]?) : w'.ownsRow B e s v n xs := by
 refine ⟨h.1, h.2.imp id ?_⟩
 rintro ⟨g, cap, cur, e1, e2, e3, e4⟩
 exact ⟨g, cap, cur, e1, e2, (hk g (by rw [e1]; rfl)).trans e3, e4⟩
structure Grew (w w' : World) (v v' : Value) (n m : Nat) : Prop where
 out : (∃ g cap, v = .slice (some ⟨g, 0, none⟩) n cap /\ v' = .slice (some ⟨g, 0, none⟩) (n + m) cap) \/ (v'.ownBlock = some w.heap.size /\ w.grownBy w' none)
theorem run_append_where {P : Program} {w : World} (base : Nat) (t ty e : TypeId) (i : TypeInfo) (z : Value) (size bytes : Nat) (ht : P.underlying t = some (.slice e)) (hi : P.info? e = some i) (hz : i.zero = some z)
 (hsize : i.size = size) (hby : i.bytes = bytes) (hzs : z.cells.size = size) (hsz : 0 < size)
 (v : Value) (n : Nat) (xs : List Value) (hown : w.ownsRow base e size v n xs)
 (a : Addr) (m c : Nat) (hm : 0 < m) (news : List Value) (hl : news.length = m * size) (hnews : ∀ j u, news[j]? = some u -> w.cell? (a.add j) = some u) (h1 : ∀ u ∈ news, u.oneCell' = true)
 (h63 : n + m <= maxLen) (hbytes : (n + m) * bytes <= 140737488355328) (hbase : base <= w.heap.size) :
 ∃ v' w', (Builtin.append_ #[t, t] ty #[v, .slice (some a) m c]).run P w = .ok v' w' /\ w'.ownsRow base e size v' (n + m) (xs ++ news) /\ w.grownBy w' v.ownBlock /\ Grew w w' v v' n m := by
 obtain ⟨v', w', hr, h2, h3, h4⟩ := run_append_own (P := P) w base t ty e i z size bytes ht hi hz hsize hby hzs hsz v n xs hown a m c news hl hnews h1 h63 hbytes hbase
 refine ⟨v', w', hr, h2, h3, ?_⟩
 have hsmall : n + m <= 9223372036854775807 := by simp only [maxLen] at h63; omega
 subst hsize hby
 rcases hown.2 with ⟨rfl, rfl⟩ | ⟨g, cap, cur, rfl, hbg, hg, hnc, hcm, hcs, htake⟩
 ·have hr2 := run_append_nil (P := P) w t ty e i z ht hi hz a m c news hl hnews (by omega) (by omega) (by have hb := hbytes; simp only [Nat.zero_add] at hb; omega)
  rw [hr2] at hr
  cases hr
  exact ⟨.inr ⟨rfl, (by exact ⟨rfl, rfl, rfl, by simp, fun k hk _ => heap_alloc_old w.drew _ hk⟩)⟩⟩
 ·by_cases hroom : n + m <= cap
  ·have hfit : n * i.size + news.length <= cur.size := by rw [hl, hcs, <- Nat.add_mul]; exact Nat.mul_le_mul_right _ hroom
   have hr2 := run_append_room (P := P) w t ty e i ht hi g n cap cur hg a m c news hl hnews h1 hroom hfit
   rw [hr2] at hr
   cases hr
   exact ⟨.inl ⟨g, cap, rfl, rfl⟩⟩
  ·have holds : ∀ j u, xs[j]? = some u -> w.cell? ((⟨g, 0, none⟩ : Addr).add j) = some u := hown.cells (g := g) rfl
   have hr2 := run_append_grow (P := P) w t ty e i z ht hi hz ⟨g, 0, none⟩ n cap xs hown.1 holds a m c news hl hnews (by omega) (by omega) (growslice_fits (by omega) hbytes)
   rw [hr2] at hr
   cases hr
   exact ⟨.inr ⟨rfl, (by exact ⟨rfl, rfl, rfl, by simp, fun k hk _ => heap_alloc_old w.drew _ hk⟩)⟩⟩
theorem grown_at {w w' : World} {b : Option Nat} (h : w.grownBy w' b) {k : Nat} (hk : k < w.heap.size) (hne : b ≠ some k) : w'.heap[k]? = w.heap[k]? := h.block k hk (Ne.symm hne)
theorem own_slice {w : World} {B e s n xs} {v : Value} (h : w.ownsRow B e s v n xs) : ∃ a c, v = .slice a n c /\ n <= c /\ c <= 9223372036854775807 := by
 rcases h.2 with ⟨rfl, rfl⟩ | ⟨g, cap, cur, rfl, _, _, h1, h2, _⟩
 ·exact ⟨none, 0, rfl, by omega, by omega⟩
 ·exact ⟨_, cap, rfl, h1, h2⟩
theorem own_some {w : World} {B e s n xs} {v : Value} (h : w.ownsRow B e s v n xs) (hn : 0 < n) : ∃ g c, v = .slice (some ⟨g, 0, none⟩) n c /\ n <= c /\ c <= 9223372036854775807 /\ B <= g /\ g < w.heap.size := by
 rcases h.2 with ⟨rfl, rfl⟩ | ⟨g, cap, cur, rfl, hb, hg, h1, h2, _⟩
 ·omega
 ·exact ⟨g, cap, rfl, h1, h2, hb, (gl hg)⟩
theorem own_not {w : World} {B e s v n M} (h : w.ownsRow B e s v n M) {ub : Nat} {c : Array Value} {t : TypeId} {f : Nat × Nat} (hb : w.heap[ub]? = some (.cells c t f)) (hne : e ≠ t) : v.ownBlock ≠ some ub := by
 rcases h.2 with ⟨rfl, _⟩ | ⟨g, cap, cur, rfl, e2, e3, _⟩
 ·simp [Value.ownBlock]
 ·intro e
  simp [Value.ownBlock] at e
  subst e
  rw [hb] at e3
  cases e3
  exact hne rfl
theorem own_cell {w : World} {B g c n : Nat} {e : TypeId} {z : Nat} {M : List Value} (h : w.ownsRow B e z (.slice (some ⟨g, 0, none⟩) n c) n M) (q : Nat) (hq : q < n * z) : w.cell? ⟨g, q, none⟩ = M[q]? := by
 rcases h.2 with ⟨e, _⟩ | ⟨g', cap, cur, e, e2, e3, e4, e5, e6, e7⟩
 ·cases e
 ·cases e
  have hM := h.1
  have h1 : M[q]? = cur[q]? := by rw [<- e7, List.getElem?_take, if_pos hq]; simp
  have h2 : M[q]? = some (M[q]'(by omega)) := List.getElem?_eq_getElem _
  rw [h2] at h1 ⊢
  simp [World.cell?, e3, <- h1]
theorem own_set {w : World} {B g c n : Nat} {e : TypeId} {z : Nat} {M : List Value} (h : w.ownsRow B e z (.slice (some ⟨g, 0, none⟩) n c) n M) (q : Nat) (hq : q < n * z) (u : Value) : (w.setCell ⟨g, q, none⟩ u).ownsRow B e z (.slice (some ⟨g, 0, none⟩) n c) n (M.set q u) := by
 rcases h.2 with ⟨e, _⟩ | ⟨g', cap, cur, e, e2, e3, e4, e5, e6, e7⟩
 ·cases e
 ·cases e
  refine ⟨by simpa using h.1, .inr ⟨g, c, cur.setIfInBounds q u, rfl, e2, heap_set_at e3, e4, e5, by simpa using e6, ?_⟩⟩
  rw [<- e7]
  simp [List.take_set]
theorem block_lt_of_cell {w : World} {a : Addr} {v : Value} (h : w.cell? a = some v) : a.block < w.heap.size := World.block_lt_of_cell? w a h
theorem cellA {w : World} {ob : Obj} {a : Addr} {v : Value} (h : w.cell? a = some v) : (w.alloc ob).cell? a = some v := by
 have hlt : a.block < w.heap.size := block_lt_of_cell h
 rw [World.cell?_of_block (w := w) (w' := w.alloc ob) (heap_alloc_old w ob hlt)]; exact h
def ivs (L : List Int) : List Value := L.map (Value.int .i64)
theorem ivs_one (L : List Int) : ∀ u ∈ ivs L, u.oneCell' = true := by
 intro u hu
 simp [ivs] at hu
 obtain ⟨a, _, rfl⟩ := hu
 rfl
structure OwnI (w : World) (B : Nat) (v : Value) (n : Nat) (L : List Int) : Prop where
 len : n = L.length
 out : w.ownsRow B 3 1 v n (ivs L)
theorem OwnI.nil (w : World) (B : Nat) : OwnI w B (.slice none 0 0) 0 [] := ⟨rfl, World.ownsRow_nil _ _ _ _⟩
theorem OwnI.keep {w w' B v n L} (h : OwnI w B v n L) (hb : Below w.heap.size w w') : OwnI w' B v n L := ⟨h.len, own_keep h.out hb.block⟩
theorem info3i : (Tryz.prog.info? 3).map (fun i => (i.zero, i.size, i.bytes)) = some (some (.int .i64 0), 1, 8) := by kernel_rfl
structure GI (B : Nat) (w0 w' : World) (v v' : Value) : Prop where
 bel : Below B w0 w'
 blk : ∀ g, g < w0.heap.size -> v.ownBlock ≠ some g -> w'.heap[g]? = w0.heap[g]?
 own : ∀ g, v'.ownBlock = some g -> v.ownBlock = some g \/ w0.heap.size <= g
theorem GI.size {B w0 w' v v'} (h : GI B w0 w' v v') : w0.heap.size <= w'.heap.size := h.bel.size
/- What a run has told lies at mb, o: its events, End, Kind, Value, Steps, Words, Depth, and whether it rests. -/
theorem told_over (w : World) {mb o : Nat} {r : Bool} {fin : Int} (c7 : w.cell? ⟨mb, o + 7, none⟩ = some (.bool r)) (c1 : w.cell? ⟨mb, o + 1, none⟩ = some (.int .i64 fin)) :
 Calls Tryz.prog 70 #[.pointer (some ⟨mb, o, none⟩)] w fun e w' => e = .returned (.bool (r || !decide (fin = 0))) /\ w' = w := by
 cases r with
 | true =>
   go_enter Tryz.func70, Tryz.ntmps70
   go_wp2_with fail
   go_ret
   exact ⟨rfl, rfl⟩
 | false =>
   by_cases h : fin = 0
   ·subst h
    go_enter Tryz.func70, Tryz.ntmps70
    go_wp2_with fail
    go_ret
    exact ⟨rfl, rfl⟩
   ·have hb : (fin != 0) = true := by simp [h]
    have hd : decide (fin = 0) = false := by simp [h]
    go_enter Tryz.func70, Tryz.ntmps70
    go_wp2_with fail
    go_ret
    exact ⟨by simp [h], rfl⟩
theorem told_made_no (w : World) {mb o : Nat} (c7 : w.cell? ⟨mb, o + 7, none⟩ = some (.bool true)) :
 Calls Tryz.prog 73 #[.pointer (some ⟨mb, o, none⟩)] w fun e w' => e = .returned (.bool false) /\ w' = w := by
 go_enter Tryz.func73, Tryz.ntmps73
 go_wp2_with fail
 go_ret
 exact ⟨rfl, rfl⟩
theorem told_made_yes (w : World) {mb o : Nat} {n : Int} (c7 : w.cell? ⟨mb, o + 7, none⟩ = some (.bool false)) (c4 : w.cell? ⟨mb, o + 4, none⟩ = some (.int .i64 n)) (fz : w.frozen? ⟨mb, o + 4, none⟩ = false) (h0 : 0 <= n) (h1 : n <= 4611686018427387904) :
 Calls Tryz.prog 73 #[.pointer (some ⟨mb, o, none⟩)] w fun e w' => e = .returned (.bool true) /\ w' = w.setCell ⟨mb, o + 4, none⟩ (.int .i64 (n + 1)) := by
 go_enter Tryz.func73, Tryz.ntmps73
 go_wp2_with fail
 go_ret
 exact ⟨rfl, rfl⟩
theorem told_exit (w : World) {mb o : Nat} {n : Int} (c1 : w.cell? ⟨mb, o + 1, none⟩ = some (.int .i64 n)) (fz : w.frozen? ⟨mb, o + 1, none⟩ = false) :
 Calls Tryz.prog 98 #[.pointer (some ⟨mb, o, none⟩)] w fun e w' => e = .returned (.tuple #[]) /\ w' = w.setCell ⟨mb, o + 1, none⟩ (.int .i64 1) := by
 go_enter Tryz.func98, Tryz.ntmps98
 go_wp2_with fail
 exact bodyPost_end (v := .tuple #[]) (by simp [results, Tryz.results98, go_sem]) rfl ⟨rfl, rfl⟩
theorem told_panic (w : World) {mb o : Nat} {k v a b c : Int} (c1 : w.cell? ⟨mb, o + 1, none⟩ = some (.int .i64 a)) (c2 : w.cell? ⟨mb, o + 2, none⟩ = some (.int .i64 b)) (c3 : w.cell? ⟨mb, o + 3, none⟩ = some (.int .i64 c)) (z1 : w.frozen? ⟨mb, o + 1, none⟩ = false) (z2 : w.frozen? ⟨mb, o + 2, none⟩ = false) (z3 : w.frozen? ⟨mb, o + 3, none⟩ = false) :
 Calls Tryz.prog 68 #[.pointer (some ⟨mb, o, none⟩), .int .i64 k, .int .i64 v] w fun e w' => e = .returned (.tuple #[]) /\ w' = ((w.setCell ⟨mb, o + 1, none⟩ (.int .i64 2)).setCell ⟨mb, o + 2, none⟩ (.int .i64 k)).setCell ⟨mb, o + 3, none⟩ (.int .i64 v) := by
 go_enter Tryz.func68, Tryz.ntmps68
 go_wp2_with fail
 exact bodyPost_end (v := .tuple #[]) (by simp [results, Tryz.results68, go_sem]) rfl ⟨rfl, rfl⟩
theorem told_stuck (w : World) {mb o : Nat} {k a b : Int} (c1 : w.cell? ⟨mb, o + 1, none⟩ = some (.int .i64 a)) (c2 : w.cell? ⟨mb, o + 2, none⟩ = some (.int .i64 b)) (z1 : w.frozen? ⟨mb, o + 1, none⟩ = false) (z2 : w.frozen? ⟨mb, o + 2, none⟩ = false) :
 Calls Tryz.prog 110 #[.pointer (some ⟨mb, o, none⟩), .int .i64 k] w fun e w' => e = .returned (.tuple #[]) /\ w' = (w.setCell ⟨mb, o + 1, none⟩ (.int .i64 3)).setCell ⟨mb, o + 2, none⟩ (.int .i64 k) := by
 go_enter Tryz.func110, Tryz.ntmps110
 go_wp2_with fail
 exact bodyPost_end (v := .tuple #[]) (by simp [results, Tryz.results110, go_sem]) rfl ⟨rfl, rfl⟩
theorem told_words (w : World) {mb o : Nat} {k a : Int} (c5 : w.cell? ⟨mb, o + 5, none⟩ = some (.int .i64 a)) (z5 : w.frozen? ⟨mb, o + 5, none⟩ = false) :
 Calls Tryz.prog 101 #[.pointer (some ⟨mb, o, none⟩), .int .i64 k] w fun e w' => e = .returned (.tuple #[]) /\ w' = w.setCell ⟨mb, o + 5, none⟩ (.int .i64 k) := by
 go_enter Tryz.func101, Tryz.ntmps101
 go_wp2_with fail
 exact bodyPost_end (v := .tuple #[]) (by simp [results, Tryz.results101, go_sem]) rfl ⟨rfl, rfl⟩
theorem told_deep (w : World) {mb o : Nat} {k a : Int} (c6 : w.cell? ⟨mb, o + 6, none⟩ = some (.int .i64 a)) (z6 : w.frozen? ⟨mb, o + 6, none⟩ = false) :
 Calls Tryz.prog 69 #[.pointer (some ⟨mb, o, none⟩), .int .i64 k] w fun e w' => e = .returned (.tuple #[]) /\ w' = w.setCell ⟨mb, o + 6, none⟩ (.int .i64 (max a k)) := by
 by_cases h : a <= k
 ·have e : max a k = k := by omega
  rw [e]
  clear e
  go_enter Tryz.func69, Tryz.ntmps69
  go_wp2_with fail
  all_goals exact bodyPost_end (v := .tuple #[]) (by simp [results, Tryz.results69, go_sem]) rfl ⟨rfl, by first | rfl | (congr 2; omega)⟩
 ·have e : max a k = a := by omega
  rw [e]
  clear e
  go_enter Tryz.func69, Tryz.ntmps69
  go_wp2_with fail
  all_goals exact bodyPost_end (v := .tuple #[]) (by simp [results, Tryz.results69, go_sem]) rfl ⟨rfl, by first | rfl | (congr 2; omega)⟩
theorem flat_len {α : Type} {z : Nat} : ∀ (xs : List (List α)), (∀ x ∈ xs, x.length = z) -> xs.flatten.length = xs.length * z
 | [], _ => by simp
 | x :: xs, h => by
   have h1 := flat_len xs fun y hy => h y (by simp [hy])
   have h2 := h x (by simp)
   simp only [List.flatten_cons, List.length_append, List.length_cons, h1, h2, Nat.add_mul]
   omega
theorem flat_at {α : Type} {z : Nat} : ∀ (xs : List (List α)), (∀ x ∈ xs, x.length = z) -> ∀ i (hi : i < xs.length) r, r < z -> xs.flatten[i * z + r]? = (xs[i])[r]?
 | [], _, i, hi, _, _ => by simp at hi
 | x :: xs, h, i, hi, r, hr => by
   have h2 := h x (by simp)
   cases i with
   | zero =>
     rw [List.flatten_cons, Nat.zero_mul, Nat.zero_add, List.getElem?_append_left (by omega)]
     rfl
   | succ i =>
     have h1 := flat_at xs (fun y hy => h y (by simp [hy])) i (by simpa using hi) r hr
     rw [List.flatten_cons, List.getElem?_append_right (by rw [h2, Nat.add_mul]; omega), h2, show (i + 1) * z + r - z = i * z + r by rw [Nat.add_mul]; omega, h1]
     rfl
structure Row (w : World) (B : Nat) (e : TypeId) (z : Nat) (v : Value) (xs : List (List Value)) : Prop where
 out : w.ownsRow B e z v xs.length xs.flatten
 len : ∀ x ∈ xs, x.length = z
theorem Row.nil (w : World) (B : Nat) (e : TypeId) (z : Nat) : Row w B e z (.slice none 0 0) [] := ⟨World.ownsRow_nil _ _ _ _, fun x hx => by simp at hx⟩
theorem Row.move {w w' : World} {B e z v xs} (h : Row w B e z v xs) (hk : ∀ g, v.ownBlock = some g -> w'.heap[g]? = w.heap[g]?) : Row w' B e z v xs := ⟨own_move h.out hk, h.len⟩
theorem Row.keep {w w' : World} {B e z v xs} (h : Row w B e z v xs) (hb : Below w.heap.size w w') : Row w' B e z v xs := h.move fun g hg => hb.block g (own_block h.out hg).2
theorem step_append_row {w : World} {ops : Array Oper} {op : Oper} {a : Act} {K : Act -> World -> Prop} {Q : Exit -> Act -> World -> Prop} {E : Prop} (hgd : op.guard = none) (s x : Operand) (T e : TypeId) (z : Nat) (zv : Value) (by_ : Nat)
 (ho : op.op = .call { callee := .builtin .append, args := #[s, x], argTypes := #[T, T] }) (hT : Tryz.prog.underlying T = some (.slice e)) (hi0 : (Tryz.prog.info? e).map (fun i => (i.zero, i.size, i.bytes)) = some (some zv, z, by_)) (hzc : zv.cells.size = z) (hz : 0 < z) (hby : 0 < by_ /\ by_ <= 1000)
 (B : Nat) (v : Value) (xs : List (List Value)) (hs : a.eval s = v) (hown : Row w B e z v xs) (g : Nat) (hx : a.eval x = .slice (some ⟨g, 0, none⟩) 1 1) (cs : List Value) (hcl : cs.length = z) (hc : ∀ j u, cs[j]? = some u -> w.cell? ((⟨g, 0, none⟩ : Addr).add j) = some u) (h1 : ∀ u ∈ cs, u.oneCell' = true)
 (hl : xs.length + 1 <= 1000000000) (hB : B <= w.heap.size)
 (h : ∀ v' w', Row w' B e z v' (xs ++ [cs]) -> GI B w w' v v' -> K (a.put op.dst v') w') : if Region.wanted op (yielded ops a.tmps) = true then Oper.wp Tryz.prog op a w K Q else E := by
 have hw : Region.wanted op (yielded ops a.tmps) = true := by simp [Region.wanted, hgd]
 rw [if_pos hw]
 obtain ⟨i0, hi, hz0, hz1, hz2⟩ := info_parts hi0
 obtain ⟨v', w', hr, h2, h3, h4⟩ := run_append_where (P := Tryz.prog) (w := w) B T op.type e i0 zv z by_ hT hi hz0 hz1 hz2 hzc hz v xs.length xs.flatten hown.out ⟨g, 0, none⟩ 1 1 (by omega) cs (by omega) hc h1 (by unfold maxLen; omega) (by have := hby.2; have : (xs.length + 1) * by_ <= 1000000000 * 1000 := Nat.mul_le_mul hl (by omega); omega) hB
 unfold Oper.wp execOp
 simp only [ho, resolve, invoke, builtin, Sem.run_bind, Sem.run_pure, Result.andThen_ok, List.map_toArray, List.map_cons, List.map_nil, hs, hx, hr]
 refine h v' w' ⟨by simpa using h2, fun y hy => ?_⟩ ⟨?_, fun b h5 h6 => grown_at h3 h5 h6, fun b hb => ?_⟩
 ·rcases List.mem_append.1 hy with q | q
  ·exact hown.len y q
  ·simp at q; rw [q]; exact hcl
 ·exact (Below.refl _ _).grown h3 hB (fun k hk => (own_block hown.out hk).1)
 ·rcases h4.out with ⟨g', cap, e1, e2⟩ | ⟨e1, _⟩
  ·subst e1 e2; exact .inl hb
  ·rw [e1] at hb; cases hb; right; exact Nat.le_refl _
theorem Row.cell {w : World} {B e z b n c xs} (h : Row w B e z (.slice (some ⟨b, 0, none⟩) n c) xs) (hn : n = xs.length) {i : Nat} (hi : i < xs.length) {r : Nat} (hr : r < z) {u : Value} (hu : (xs[i])[r]? = some u) : w.cell? ⟨b, i * z + r, none⟩ = some u := by
 subst hn
 have hlt : i * z + r < xs.length * z := by
  have : (i + 1) * z <= xs.length * z := Nat.mul_le_mul_right z hi
  rw [Nat.add_mul] at this
  omega
 rw [own_cell h.out (i * z + r) hlt, flat_at xs h.len i hi r hr, hu]
theorem Row.some {w : World} {B e z v xs} (h : Row w B e z v xs) (hne : 0 < xs.length) : ∃ b c cs, v = .slice (some ⟨b, 0, none⟩) xs.length c /\ xs.length <= c /\ c <= 9223372036854775807 /\ B <= b /\ w.heap[b]? = some (.cells cs e (0, 0)) := by
 obtain ⟨g, c, e1, h1, h2, h3, h4⟩ := own_some h.out hne
 rcases h.out.2 with ⟨q, _⟩ | ⟨g2, cap, cur, q, _, p3, _⟩
 ·rw [e1] at q; cases q
 ·rw [e1] at q; cases q
  exact ⟨g, c, cur, e1, h1, h2, h3, p3⟩
theorem info_ev : (Tryz.prog.info? 62).map (fun i => (i.zero, i.size, i.bytes)) = some (some (.agg #[.int .i64 0, .int .i64 0]), 2, 16) := by kernel_rfl
theorem cells_newR (w : World) (cs : List Value) (t : TypeId) : ∀ j u, cs[j]? = some u -> (w.alloc (.cells cs.toArray t)).cell? ((⟨w.heap.size, 0, none⟩ : Addr).add j) = some u := by
 intro j u hj
 have e : (⟨w.heap.size, 0, none⟩ : Addr).add j = ⟨w.heap.size, j, none⟩ := by
  cases j with
  | zero => rfl
  | succ j => simp [Addr.add]
 rw [e]
 exact cell_arr (heap_alloc_new _ _) (by simpa using hj)
def evc (e : Int × Int) : List Value := [.int .i64 e.1, .int .i64 e.2]
set_option maxRecDepth 10000 in
set_option maxHeartbeats 1000000 in
theorem told_event (w : World) {mb o B : Nat} {v : Value} {E : List (Int × Int)} {cs : Array Value} {t : TypeId} (hm : w.heap[mb]? = some (.cells cs t (0, 0))) (ht : t ≠ 62) (c0 : w.cell? ⟨mb, o, none⟩ = some v) (hR : Row w B 62 2 v (E.map evc)) (hn : E.length < 1048576) (hB : B <= w.heap.size) (k x : Int) :
 Calls Tryz.prog 107 #[.pointer (some ⟨mb, o, none⟩), .int .i64 k, .int .i64 x] w fun e w' => e = .returned (.bool true) /\ ∃ v' w5, Row w5 B 62 2 v' ((E ++ [(k, x)]).map evc) /\ GI B w w5 v v' /\ w5.heap[mb]? = w.heap[mb]? /\ w' = w5.setCell ⟨mb, o, none⟩ v' := by
 obtain ⟨ao, c, ev, hc1, hc2⟩ := own_slice hR.out
 have hl : (E.map evc).length = E.length := by simp
 rw [hl] at ev hc1
 have hne : ((E.length : Int) == 1048576) = false := by simp; omega
 have hmb : mb < w.heap.size := (gl hm)
 have HR : Hid (Row (w.alloc (.cells #[.int .i64 k, .int .i64 x] 62)) B 62 2 v (E.map evc)) := hR.keep ((Below.refl _ _).alloc (Nat.le_refl _) _)
 have HNX : Hid (∀ v' w5, Row w5 B 62 2 v' (E.map evc ++ [[.int .i64 k, .int .i64 x]]) -> GI B (w.alloc (.cells #[.int .i64 k, .int .i64 x] 62)) w5 v v' -> (Row w5 B 62 2 v' ((E ++ [(k, x)]).map evc) /\ GI B w w5 v v' /\ w5.heap[mb]? = w.heap[mb]?) /\ w5.cell? ⟨mb, o, none⟩ = some v /\ w5.frozen? ⟨mb, o, none⟩ = false) := fun v' w5 h5 g5 => by
  have hno := own_not hR.out hm (fun q => ht q.symm)
  have e5 : w5.heap[mb]? = w.heap[mb]? := by
   rw [g5.blk mb (by simp; omega) hno, heap_alloc_old _ _ hmb]
  refine ⟨⟨by simpa [evc] using h5, ⟨((Below.refl _ _).alloc hB _).trans g5.bel, fun g hg hv => ?_, fun g hg => ?_⟩, e5⟩, ?_, fz_of (e5.trans hm)⟩
  ·rw [g5.blk g (by simp; omega) hv, heap_alloc_old _ _ hg]
  ·rcases g5.own g hg with q | q
   ·exact .inl q
   ·right; simp at q; omega
  ·rw [<- c0]; exact World.cell?_of_block (w := w) e5
 subst ev
 have HCN : Hid (∀ j u, ([.int .i64 k, .int .i64 x] : List Value)[j]? = some u -> (w.alloc (.cells #[.int .i64 k, .int .i64 x] 62)).cell? ((⟨w.heap.size, 0, none⟩ : Addr).add j) = some u) := cells_newR w [.int .i64 k, .int .i64 x] _
 have hsz : B <= (w.alloc (.cells #[.int .i64 k, .int .i64 x] 62)).heap.size := by simp; omega
 have hlx : (E.map evc).length + 1 <= 1000000000 := by rw [hl]; omega
 have hcm : E.length <= 9223372036854775807 := by omega
 clear hR hm hl
 go_enter Tryz.func107, Tryz.ntmps107
 go_wp2_with (first
  | (at_builtin; refine wpList_step fun K hK => ?_; refine step_append_row rfl _ _ 36 62 2 _ 16 rfl Tryz.underlying36 info_ev rfl (by decide) (by decide) B (.slice ao E.length c) (E.map evc) rfl HR.out w.heap.size rfl [.int .i64 k, .int .i64 x] rfl HCN.out (fun u hu => by simp at hu; rcases hu with rfl | rfl <;> rfl) hlx hsz ?_; intro v7 w7 h7 g7; refine hK _ _ ?_; clear hK
     obtain ⟨a7, c7, e7, _, _⟩ := own_slice h7.out
     obtain ⟨n7, hn7⟩ : ∃ n, n = (E.map evc ++ [([.int .i64 k, .int .i64 x] : List Value)]).length := ⟨_, rfl⟩
     rw [<- hn7] at e7
     clear hn7
     subst e7
     have N := HNX.out _ w7 h7 g7
     have N1 : Hid _ := N.1
     have k7 := N.2.1
     have f7 := N.2.2
     clear N h7 g7)
  | go_in)
 go_ret
 exact ⟨rfl, _, _, N1.out.1, N1.out.2.1, N1.out.2.2, rfl⟩
theorem run_append_zeroR {P : Program} {w : World} (base : Nat) (t ty e : TypeId) (i : TypeInfo) (size : Nat) (ht : P.underlying t = some (.slice e)) (hi : P.info? e = some i) (v : Value) (n : Nat) (xs : List Value) (hown : w.ownsRow base e size v n xs) (xo : Option Addr) (c : Nat) :
 (Builtin.append_ #[t, t] ty #[v, .slice xo 0 c]).run P w = .ok v w := by
 rcases hown.2 with ⟨rfl, rfl⟩ | ⟨g, cap, cur, rfl, _, _, hnc, _⟩
 ·cases xo <;> simp [Builtin.append_, run_underlying ht, sizeOf, typeInfo, hi, Builtin.lenOf, Builtin.firstCells, loadCells, loadCellsFrom]
 ·cases xo <;> simp [Builtin.append_, run_underlying ht, sizeOf, typeInfo, hi, Builtin.lenOf, Builtin.firstCells, hnc, storeCells, loadCells, loadCellsFrom]
theorem step_append_rows {w : World} {ops : Array Oper} {op : Oper} {a : Act} {K : Act -> World -> Prop} {Q : Exit -> Act -> World -> Prop} {E : Prop} (hgd : op.guard = none) (s x : Operand) (T e : TypeId) (z : Nat) (zv : Value) (by_ : Nat)
 (ho : op.op = .call { callee := .builtin .append, args := #[s, x], argTypes := #[T, T] }) (hT : Tryz.prog.underlying T = some (.slice e)) (hi0 : (Tryz.prog.info? e).map (fun i => (i.zero, i.size, i.bytes)) = some (some zv, z, by_)) (hzc : zv.cells.size = z) (hz : 0 < z) (hby : 0 < by_ /\ by_ <= 1000)
 (B : Nat) (v : Value) (xs : List (List Value)) (hs : a.eval s = v) (hown : Row w B e z v xs) (ad : Addr) (m c : Nat) (hx : a.eval x = .slice (some ad) m c) (hm0 : 0 < m) (ys : List (List Value)) (hm : m = ys.length) (hyz : ∀ y ∈ ys, y.length = z) (hc : ∀ j u, ys.flatten[j]? = some u -> w.cell? (ad.add j) = some u) (h1 : ∀ u ∈ ys.flatten, u.oneCell' = true)
 (hl : xs.length + m <= 1000000000) (hB : B <= w.heap.size)
 (h : ∀ v' w', Row w' B e z v' (xs ++ ys) -> GI B w w' v v' -> K (a.put op.dst v') w') : if Region.wanted op (yielded ops a.tmps) = true then Oper.wp Tryz.prog op a w K Q else E := by
 have hw : Region.wanted op (yielded ops a.tmps) = true := by simp [Region.wanted, hgd]
 rw [if_pos hw]
 obtain ⟨i0, hi, hz0, hz1, hz2⟩ := info_parts hi0
 obtain ⟨v', w', hr, h2, h3, h4⟩ := run_append_where (P := Tryz.prog) (w := w) B T op.type e i0 zv z by_ hT hi hz0 hz1 hz2 hzc hz v xs.length xs.flatten hown.out ad m c hm0 ys.flatten (by rw [flat_len ys hyz, hm]) hc h1 (by unfold maxLen; omega) (by have := hby.2; have : (xs.length + m) * by_ <= 1000000000 * 1000 := Nat.mul_le_mul hl (by omega); omega) hB
 unfold Oper.wp execOp
 simp only [ho, resolve, invoke, builtin, Sem.run_bind, Sem.run_pure, Result.andThen_ok, List.map_toArray, List.map_cons, List.map_nil, hs, hx, hr]
 refine h v' w' ⟨by simpa [hm] using h2, fun y hy => ?_⟩ ⟨?_, fun b h5 h6 => grown_at h3 h5 h6, fun b hb => ?_⟩
 ·rcases List.mem_append.1 hy with q | q
  ·exact hown.len y q
  ·exact hyz y q
 ·exact (Below.refl _ _).grown h3 hB (fun k hk => (own_block hown.out hk).1)
 ·rcases h4.out with ⟨g', cap, e1, e2⟩ | ⟨e1, _⟩
  ·subst e1 e2; exact .inl hb
  ·rw [e1] at hb; cases hb; right; exact Nat.le_refl _
theorem step_append_rowsG {w : World} {ops : Array Oper} {op : Oper} {a : Act} {K : Act -> World -> Prop} {Q : Exit -> Act -> World -> Prop} {E : Prop} (hgd : op.guard = none) (s x : Operand) (T e : TypeId) (z : Nat) (zv : Value) (by_ : Nat)
 (ho : op.op = .call { callee := .builtin .append, args := #[s, x], argTypes := #[T, T] }) (hT : Tryz.prog.underlying T = some (.slice e)) (hi0 : (Tryz.prog.info? e).map (fun i => (i.zero, i.size, i.bytes)) = some (some zv, z, by_)) (hzc : zv.cells.size = z) (hz : 0 < z) (hby : 0 < by_ /\ by_ <= 1000)
 (B : Nat) (v : Value) (xs : List (List Value)) (hs : a.eval s = v) (hown : Row w B e z v xs) (xo : Option Addr) (m c : Nat) (hx : a.eval x = .slice xo m c) (ys : List (List Value)) (hm : m = ys.length) (hyz : ∀ y ∈ ys, y.length = z) (hc : ys ≠ [] -> ∃ ad, xo = some ad /\ ∀ j u, ys.flatten[j]? = some u -> w.cell? (ad.add j) = some u) (h1 : ∀ u ∈ ys.flatten, u.oneCell' = true)
 (hl : xs.length + m <= 1000000000) (hB : B <= w.heap.size)
 (h : ∀ v' w', Row w' B e z v' (xs ++ ys) -> GI B w w' v v' -> K (a.put op.dst v') w') : if Region.wanted op (yielded ops a.tmps) = true then Oper.wp Tryz.prog op a w K Q else E := by
 rcases Nat.eq_zero_or_pos m with h0 | h0
 ·have hw : Region.wanted op (yielded ops a.tmps) = true := by simp [Region.wanted, hgd]
  have e0 : ys = [] := List.length_eq_zero_iff.1 (by omega)
  rw [if_pos hw]
  obtain ⟨i0, hi, hz0, hz1, hz2⟩ := info_parts hi0
  subst h0
  have hr := run_append_zeroR (P := Tryz.prog) (w := w) B T op.type e i0 z hT hi v xs.length xs.flatten hown.out xo c
  unfold Oper.wp execOp
  simp only [ho, resolve, invoke, builtin, Sem.run_bind, Sem.run_pure, Result.andThen_ok, List.map_toArray, List.map_cons, List.map_nil, hs, hx, hr]
  exact h v w (by rw [e0, List.append_nil]; exact hown) ⟨Below.refl _ _, fun _ _ _ => rfl, fun g hg => .inl hg⟩
 ·obtain ⟨ad, rfl, hc'⟩ := hc (by intro q; rw [q] at hm; simp at hm; omega)
  exact step_append_rows hgd s x T e z zv by_ ho hT hi0 hzc hz hby B v xs hs hown ad m c hx h0 ys hm hyz hc' h1 hl hB h
end Go.Proofs.YtfofmmkihhnfmaaGreatDoor
