import Derived.Test.YtddcpbidlbiamaaHpA
set_option linter.unusedVariables false
namespace Go.Proofs.Ytddcpbidlbiamaa
open Go.ChangeShapes Go.WideShapes Go.ChangeAt Go.RowKit Go.Maps

/-- A word's place: in a block that is there. -/
def inB (ln : Int → Option Int) (a i : Int) : Prop := 0 ≤ i ∧ i < (ln a).getD 0
theorem CH.at {w h m n tk ln f c} (H : CH w h m n tk ln f c) {a i : Int} (hin : inB ln a i) : 1 ≤ a ∧ 0 ≤ i ∧ a + 1 + i ≤ 4611686018427387904 := by
  obtain ⟨h1, h2⟩ := hin
  cases e : ln a with
  | none => rw [e] at h2; simp at h2; omega
  | some k =>
    rw [e] at h2
    simp at h2
    have := H.inn a k e
    have := H.lim
    omega

theorem place_no (w : World) {h m n tk ln f c} (H : CH w h m n tk ln f c) (a i : Int) (ha : Fits a) (hi : Fits i) (hin : ¬ inB ln a i) : Calls Try.prog 27 #[.pointer (some ⟨h, 0, none⟩), .int .i64 a, .int .i64 i] w fun e w' => e = .returned (.tuple #[.int .i64 0, .bool false]) ∧ w' = w := by
  have c0 := cell_arr (i := 0) H.box rfl
  obtain ⟨D, d1, d2⟩ := H.o1
  obtain ⟨g1, g2⟩ := d2 a ha
  have hkey := keyOf_int_mk Try.underlying3 ha.wf
  have g2' : Hid (D.atKey (.int .i64 a) (.lit (.int .i64 0)) = .lit (.int .i64 ((ln a).getD 0))) := g2
  unfold inB at hin
  generalize (ln a).getD 0 = r at g2' hin
  have hn : i < 0 ∨ r ≤ i := by omega
  clear g1 g2 d2 H hin
  by_cases h0 : i < 0
  · go_enter Try.func27, Try.ntmps27
    go_wp2
    go_ret2
    exact ⟨rfl, rfl⟩
  · have h1 : r ≤ i := by omega
    clear hn
    obtain ⟨x, hrun, hat, _⟩ := d1.lookup_int law3 Try.underlying52 Try.underlying3 (zero3 _) hkey
    obtain rfl : x = r := by (have e := hat.symm.trans g2'.out; cases e; rfl)
    clear hat
    go_enter Try.func27, Try.ntmps27
    go_wp2
    go_ret2
    exact ⟨rfl, rfl⟩

theorem place_yes (w : World) {h m n tk ln f c} (H : CH w h m n tk ln f c) (a i : Int) (ha : Fits a) (hi : Fits i) (hin : inB ln a i) : Calls Try.prog 27 #[.pointer (some ⟨h, 0, none⟩), .int .i64 a, .int .i64 i] w fun e w' => e = .returned (.tuple #[.int .i64 (a + 1 + i), .bool true]) ∧ w' = w := by
  have c0 := cell_arr (i := 0) H.box rfl
  have hb := H.at hin
  obtain ⟨D, d1, d2⟩ := H.o1
  obtain ⟨g1, g2⟩ := d2 a ha
  have hkey := keyOf_int_mk Try.underlying3 ha.wf
  have g2' : Hid (D.atKey (.int .i64 a) (.lit (.int .i64 0)) = .lit (.int .i64 ((ln a).getD 0))) := g2
  unfold inB at hin
  generalize (ln a).getD 0 = r at g2' hin
  obtain ⟨h0, h1⟩ := hin
  obtain ⟨b0, b1, b2⟩ := hb
  clear g1 g2 d2 H
  obtain ⟨x, hrun, hat, _⟩ := d1.lookup_int law3 Try.underlying52 Try.underlying3 (zero3 _) hkey
  obtain rfl : x = r := by (have e := hat.symm.trans g2'.out; cases e; rfl)
  clear hat
  go_enter Try.func27, Try.ntmps27
  go_wp2
  go_ret2
  refine ⟨?_, rfl⟩
  first | rfl | (congr; go_num) | go_num

theorem get_no (w : World) {h m n tk ln f c} (H : CH w h m n tk ln f c) (a i : Int) (ha : Fits a) (hi : Fits i) (hin : ¬ inB ln a i) : Calls Try.prog 18 #[.pointer (some ⟨h, 0, none⟩), .int .i64 a, .int .i64 i] w fun e w' => e = .returned (.tuple #[.int .i64 0, .bool false]) ∧ w' = w := by
  have hp := place_no w H a i ha hi hin
  clear H hin ha hi
  go_enter Try.func18, Try.ntmps18
  go_wp2_with fail
  refine hp.mono ?_
  rintro e u ⟨rfl, rfl⟩
  go_wp2_with fail
  go_ret2
  exact ⟨rfl, rfl⟩

theorem get_yes (w : World) {h m n tk ln f c} (H : CH w h m n tk ln f c) (a i : Int) (ha : Fits a) (hi : Fits i) (hin : inB ln a i) : Calls Try.prog 18 #[.pointer (some ⟨h, 0, none⟩), .int .i64 a, .int .i64 i] w fun e w' => e = .returned (.tuple #[.int .i64 (f (a + 1 + i)), .bool true]) ∧ w' = w := by
  have hp := place_yes w H a i ha hi hin
  have c1 := cell_arr (i := 1) H.box rfl
  have hb := H.at hin
  have ft : Fits (a + 1 + i) := by unfold Fits; omega
  obtain ⟨D, d1, d2⟩ := H.o2
  have g2' : Hid (D.atKey (.int .i64 (a + 1 + i)) (.lit (.int .i64 0)) = .lit (.int .i64 (f (a + 1 + i)))) := d2 _ ft
  have hkey := keyOf_int_mk Try.underlying3 ft.wf
  generalize f (a + 1 + i) = r at g2'
  generalize hx : a + 1 + i = y at *
  clear H hin ha hi d2 hb hx ft
  go_enter Try.func18, Try.ntmps18
  go_wp2_with fail
  refine hp.mono ?_
  rintro e u ⟨rfl, rfl⟩
  clear hp
  go_wp2_with (first
    | (at_lookup; refine wpList_lookup_own_int _ rfl _ _ 52 rfl 3 3 .i64 law3 Try.underlying52 Try.underlying3 (zero3 _) n c D rfl d1 _ _ rfl hkey ?_; intro x hat hwc
       obtain rfl : x = r := by (have e := hat.symm.trans g2'.out; cases e; rfl))
    | go_in)
  go_ret2
  exact ⟨rfl, rfl⟩

theorem set_no (w : World) {h m n tk ln f c} (H : CH w h m n tk ln f c) (a i v : Int) (ha : Fits a) (hi : Fits i) (hin : ¬ inB ln a i) : Calls Try.prog 16 #[.pointer (some ⟨h, 0, none⟩), .int .i64 a, .int .i64 i, .int .i64 v] w fun e w' => e = .returned (.bool false) ∧ w' = w := by
  have hp := place_no w H a i ha hi hin
  clear H hin ha hi
  go_enter Try.func16, Try.ntmps16
  go_wp2_with fail
  refine hp.mono ?_
  rintro e u ⟨rfl, rfl⟩
  go_wp2_with fail
  go_ret
  exact ⟨rfl, rfl⟩

theorem set_yes (w : World) {h m n tk ln f c} (H : CH w h m n tk ln f c) (hc : c < 1000000000) (a i v : Int) (ha : Fits a) (hi : Fits i) (hv : Fits v) (hin : inB ln a i) :
    Calls Try.prog 16 #[.pointer (some ⟨h, 0, none⟩), .int .i64 a, .int .i64 i, .int .i64 v] w fun e w' => e = .returned (.bool true) ∧ CH w' h m n tk ln (upd f (a + 1 + i) v) (c + 1) ∧ Only (CF h m n) w w' := by
  have hp := place_yes w H a i ha hi hin
  have c1 := cell_arr (i := 1) H.box rfl
  have hb := H.at hin
  have ft : Fits (a + 1 + i) := by unfold Fits; omega
  obtain ⟨D, d1, d2⟩ := H.o2
  have hkey := keyOf_int_mk Try.underlying3 ft.wf
  have hcm : c < maxLen := by unfold maxLen; omega
  have hvw := hv.wf
  have fin : ∀ (w1 : World) (D' : DataW Unit), w1.ownsMap Try.prog 3 (plainElem Try.prog 3) n (c + 1) D' → w.grownBy w1 (some n) → (∀ y, Fits y → D'.atKey (.int .i64 y) (.lit (.int .i64 0)) = .lit (.int .i64 (upd f (a + 1 + i) v y))) → CH w1 h m n tk ln (upd f (a + 1 + i) v) (c + 1) ∧ Only (CF h m n) w w1 := by
    intro w1 D' o1 gr hD
    obtain ⟨E, e1, e2⟩ := H.o1
    refine ⟨⟨(gr.block h (H.lt h (.inl rfl)) (fun e => H.hn (by cases e; rfl))).trans H.box, ⟨E, (e1.kept gr (fun e => H.ne (by cases e; rfl))).mono (by omega), e2⟩, ⟨D', o1, hD⟩, H.ne, H.lim, H.inn⟩, (Only.of_grown gr).mono ?_⟩
    rintro k _ e
    cases e
    exact .inr (.inr rfl)
  have hput : ∀ y, Fits y → (D.put (.int .i64 (a + 1 + i)) (.lit (.int .i64 v))).atKey (.int .i64 y) (.lit (.int .i64 0)) = .lit (.int .i64 (upd f (a + 1 + i) v y)) := by
    intro y hy
    unfold upd
    by_cases e : y = a + 1 + i
    · subst e
      simp only [if_true]
      exact atKey_put_same d1.isMap (show WideAt.IsKeyLit (Lit.int .i64 _) from trivial) _ _
    · rw [atKey_put_other (key_ne e), d2 y hy, if_neg e]
  have hdel : v = 0 → ∀ y, Fits y → (D.del (.int .i64 (a + 1 + i))).atKey (.int .i64 y) (.lit (.int .i64 0)) = .lit (.int .i64 (upd f (a + 1 + i) v y)) := by
    intro hv y hy
    unfold upd
    by_cases e : y = a + 1 + i
    · subst e
      simp only [if_true]
      rw [atKey_del_same, hv]
    · rw [atKey_del_other (key_ne e), d2 y hy, if_neg e]
  have FIN := show Hid _ from fin
  have HP := show Hid _ from hput
  have HD := show Hid _ from hdel
  clear fin hput hdel
  generalize a + 1 + i = y at *
  clear hin ha hi d2 hb ft H
  by_cases h0 : v = 0
  · go_enter Try.func16, Try.ntmps16
    go_wp2_with fail
    refine hp.mono ?_
    rintro e u ⟨rfl, rfl⟩
    clear hp
    go_wp2_with (first
      | (at_delete; refine wpList_delete_own _ rfl _ _ 52 3 rfl 3 law3 Try.underlying52 _ n c D rfl d1 _ _ rfl hkey ?_; intro w1 own1 turn1)
      | go_in)
    go_ret
    obtain ⟨r1, r2⟩ := FIN.out w1 _ (own1.mono (Nat.le_succ _)) turn1.grown (HD.out h0)
    exact ⟨rfl, r1, r2⟩
  · go_enter Try.func16, Try.ntmps16
    go_wp2_with fail
    refine hp.mono ?_
    rintro e u ⟨rfl, rfl⟩
    clear hp
    go_wp2_with (first
      | (at_mapUpdate; refine wpList_mapUpdate_own _ rfl _ _ _ 52 rfl 3 3 law3 Try.underlying52 _ n c D rfl d1 hcm _ _ _ rfl rfl hkey _ [] (plainElem_int Try.underlying3 hvw) ?_; intro w1 own1 turn1)
      | go_in)
    go_ret
    obtain ⟨r1, r2⟩ := FIN.out w1 _ own1 turn1 HP.out
    exact ⟨rfl, r1, r2⟩

theorem make_no (w : World) {h m n tk ln f c} (H : CH w h m n tk ln f c) (k : Int) (hk : Fits k) (hno : k < 0 ∨ 4611686018427387904 ≤ tk + k) : Calls Try.prog 15 #[.pointer (some ⟨h, 0, none⟩), .int .i64 k] w fun e w' => e = .returned (.tuple #[.int .i64 0, .bool false]) ∧ w' = w := by
  have c2 := cell_arr (i := 2) H.box rfl
  obtain ⟨l1, l2⟩ := H.lim
  obtain ⟨k1, k2⟩ := hk
  clear H
  by_cases h0 : k < 0
  · go_enter Try.func15, Try.ntmps15
    go_wp2
    go_ret2
    exact ⟨rfl, rfl⟩
  · have h1 : 4611686018427387904 - tk ≤ k := by omega
    clear hno
    go_enter Try.func15, Try.ntmps15
    go_wp2
    go_ret2
    exact ⟨rfl, rfl⟩

theorem make_yes (w : World) {h m n tk ln f c} (H : CH w h m n tk ln f c) (hc : c < 1000000000) (k : Int) (h0 : 0 ≤ k) (h1 : tk + k < 4611686018427387904) :
    Calls Try.prog 15 #[.pointer (some ⟨h, 0, none⟩), .int .i64 k] w fun e w' => e = .returned (.tuple #[.int .i64 (tk + 1), .bool true]) ∧ CH w' h m n (tk + k + 1) (upd ln (tk + 1) (some k)) f (c + 1) ∧ Only (CF h m n) w w' := by
  have c0 := cell_arr (i := 0) H.box rfl
  have c2 := cell_arr (i := 2) H.box rfl
  obtain ⟨l1, l2⟩ := H.lim
  obtain ⟨D, d1, d2⟩ := H.o1
  have ft : Fits (tk + 1) := by unfold Fits; omega
  have hkey := keyOf_int_mk Try.underlying3 ft.wf
  have hcm : c < maxLen := by unfold maxLen; omega
  have fk : Fits k := by unfold Fits; omega
  have hvw := fk.wf
  have fin : ∀ (w1 : World) (D' : DataW Unit), w1.ownsMap Try.prog 3 (plainElem Try.prog 3) m (c + 1) (D.put (.int .i64 (tk + 1)) (.lit (.int .i64 k))) → w.grownBy w1 (some m) → w1.cell? ⟨h, 2, none⟩ = some (.int .i64 tk) ∧ w1.frozen? ⟨h, 2, none⟩ = false ∧ CH (w1.setCell ⟨h, 2, none⟩ (.int .i64 (tk + k + 1))) h m n (tk + k + 1) (upd ln (tk + 1) (some k)) f (c + 1) ∧ Only (CF h m n) w (w1.setCell ⟨h, 2, none⟩ (.int .i64 (tk + k + 1))) := by
    intro w1 D' o1 gr
    obtain ⟨E, e1, e2⟩ := H.o2
    have hb := (gr.block h (H.lt h (.inl rfl)) (fun e => H.hm (by cases e; rfl))).trans H.box
    refine ⟨cell_arr (i := 2) hb rfl, fz_of hb, ⟨heap_set_at hb, ⟨_, own_map_move o1 (heap_set_other (Ne.symm H.hm)), ?_⟩, ⟨E, own_map_move ((e1.kept gr (fun e => H.ne (by cases e; rfl))).mono (Nat.le_succ _)) (heap_set_other (Ne.symm H.hn)), e2⟩, H.ne, by omega, ?_⟩, ((Only.of_grown gr).mono ?_).trans (Only.of_set _ _ _) ?_⟩
    · intro y hy
      unfold upd
      by_cases e : y = tk + 1
      · subst e
        simp only [if_true]
        exact ⟨has_put_same d1.isMap (show WideAt.IsKeyLit (Lit.int .i64 _) from trivial) _, atKey_put_same d1.isMap (show WideAt.IsKeyLit (Lit.int .i64 _) from trivial) _ _⟩
      · rw [atKey_put_other (key_ne e), has_put_other (key_ne e), if_neg e]
        exact d2 y hy
    · intro a j
      unfold upd
      by_cases e : a = tk + 1
      · subst e
        simp only [if_true]
        intro e; cases e; omega
      · rw [if_neg e]
        intro e
        have := H.inn a j e
        omega
    · rintro k _ e
      cases e
      exact .inr (.inl rfl)
    · rintro k _ e
      exact .inl e
  have FIN := show Hid _ from fin
  clear fin d2 fk ft H
  go_enter Try.func15, Try.ntmps15
  go_wp2_with (first
      | (at_mapUpdate; refine wpList_mapUpdate_own _ rfl _ _ _ 52 rfl 3 3 law3 Try.underlying52 _ m c D rfl d1 hcm _ _ _ rfl rfl hkey _ [] (plainElem_int Try.underlying3 hvw) ?_; intro w1 own1 turn1
         obtain ⟨x1, x2, x3⟩ := FIN.out w1 D own1 turn1
         have X3 := show Hid _ from x3
         clear x3 FIN)
      | go_in)
  go_ret2
  obtain ⟨r1, r2⟩ := X3.out
  rw [show tk + (k + 1) = tk + k + 1 by omega]
  exact ⟨rfl, r1, r2⟩
end Go.Proofs.Ytddcpbidlbiamaa
