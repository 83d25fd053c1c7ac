import Derived.Test.YtpgbkkllnbahpaaSoM
set_option linter.unusedVariables false
set_option linter.unusedSimpArgs false
namespace Go.Proofs.Ytpgbkkllnbahpaa
open Go.ChangeShapes Go.WideShapes Go.ChangeAt Go.RowKit Go.Maps

/-- append(l, x[:n]). -/
theorem wpList_append_slG {w0 : World} {ops : Array Oper} {rest : List Oper} {op : Oper} {a : Act} {Q : Exit → Act → World → Prop} (hgd : op.guard = none) (s x : Operand)
    (ho : op.op = .call { callee := .builtin .append, args := #[s, x], argTypes := #[40, 40] })
    (B : Nat) (v : Value) (vs : List Value) (ao : Option Addr) (m c : Nat) (hs : a.eval s = v) (hown : OwnV w0 B v vs) (hx : a.eval x = .slice (some ⟨w0.heap.size, 0, none⟩) 1 1)
    (hl : vs.length + 1 ≤ 1759218604441) (hB : B ≤ w0.heap.size)
    (h : ∀ v' w', OwnV w' B v' (vs ++ [.slice ao m c]) → GI B w0 w' v v' → wpList Try.prog ops Q rest (a.put op.dst v') w') : wpList Try.prog ops Q (op :: rest) a (w0.alloc (.cells #[.slice ao m c] 25)) := by
  obtain ⟨i0, hi, hz0, hz1, hz2⟩ := info_parts infoLcs
  refine wpList_append_where hgd s x 40 ho B 25 i0 (.slice none 0 0) 1 24 Try.underlying40 hi hz0 hz1 hz2 rfl (by decide) v vs.length vs hs (hown.out.alloc _) ⟨w0.heap.size, 0, none⟩ 1 1 (by omega) [.slice ao m c] hx rfl (cell_one_newI _ _ _) (fun u hu => by simp at hu; subst hu; rfl) (by unfold maxLen; omega) (by omega) (by simp; omega) ?_
  intro v' w' h1 h2 h3
  refine h v' w' ⟨?_⟩ (gi_of hown.out hB h2 h3)
  simpa using h1
def fulX (N : Nat → Nat) (k : Nat) : List Lc := (List.range (N k)).map (vl N k)
theorem full_of {N : Nat → Nat} {i : Nat} {L : List Lc} (hl : N i = L.length) (h : ∀ j, j < N i → L[j]? = some (vl N i j)) : L = fulX N i := by
  refine List.ext_getElem? fun j => ?_
  by_cases hj : j < N i
  · rw [h j hj]; simp [fulX, hj]
  · rw [List.getElem?_eq_none (by omega), List.getElem?_eq_none (by simp [fulX]; omega)]
theorem us_cell {w : World} {B m g c : Nat} {us : Nat → Value} (h : OwnV w B (.slice (some ⟨g, 0, none⟩) m c) (usV us m)) {k : Nat} (hk : k < m) : w.cell? ⟨g, k, none⟩ = some (us k) := by
  have h2 := h.out
  rw [usV_len] at h2
  rw [own_cell h2 k (by omega)]
  simp [usV, hk]
set_option maxRecDepth 100000 in
set_option maxHeartbeats 8000000 in
theorem apart_any (w : World) (B : Nat) (hB : B ≤ w.heap.size) (lv : Value) (m : Nat) (us : Nat → Value) (N : Nat → Nat) (X0 : Nat → List Lc) (hM : MK w w B m lv us N X0) (hm : m ≤ 300) (hN : ∀ k, k < m → N k ≤ 6000) :
    Calls Try.prog 18 #[lv] w fun e w' => e = .returned (.bool true) ∧ Below B w w' := by
  obtain ⟨la, lc, rfl, hlc, hlc'⟩ : ∃ la lc, lv = .slice la m lc ∧ m ≤ lc ∧ lc ≤ 9223372036854775807 := by
    have := own_slice hM.l.out
    rw [usV_len] at this
    exact this
  have HN : Hid (∀ k, k < m → N k ≤ 6000) := hN
  have H0 : Hid (MK w w B m (.slice la m lc) us N X0 ∧ ∀ k, k < 0 → X0 k = fulX N k) := ⟨hM, fun k hk => absurd hk (by omega)⟩
  have HU : Hid (∀ wr X, MK w wr B m (.slice la m lc) us N X → ∀ k, k < m → ∃ gl ak ck, la = some ⟨gl, 0, none⟩ ∧ us k = .slice ak (N k) ck ∧ N k ≤ ck ∧ ck ≤ 9223372036854775807 ∧ wr.cell? ⟨gl, k, none⟩ = some (.slice ak (N k) ck)) := fun wr X h k hk => by
    obtain ⟨gl, _, e, _, _, _, _⟩ := own_some (by have := h.l.out; rw [usV_len] at this; exact this) (by omega)
    cases e
    obtain ⟨ak, ck, e, h1, h2⟩ := own_slice (h.r k hk).out
    have := us_cell h.l hk
    rw [e] at this
    exact ⟨gl, ak, ck, rfl, e, h1, h2, this⟩
  clear hM hN
  go_enter Try.func18, Try.ntmps18
  go_wp2_with fail
  go_loopg [3] m (fun q iv wr => ∃ (i : Nat) (X : Nat → List Lc), i ≤ m ∧ q = m - i ∧ iv = .int .i64 (i : Int) ∧ Hid (MK w wr B m (.slice la m lc) us N X ∧ ∀ k, k < i → X k = fulX N k))
  case atStart => exact ⟨0, X0, by omega, by omega, rfl, H0.out⟩
  case round =>
    clear H0
    obtain ⟨i, X, hi, rfl, rfl, HH⟩ := hrel
    by_cases hlt : i < m
    · obtain ⟨n, hn⟩ : ∃ n, n = N i := ⟨_, rfl⟩
      have hnl := HN.out i hlt
      rw [← hn] at hnl
      have HNI : Hid (n = N i) := hn
      have J0 : Hid (MK w wr B m (.slice la m lc) us N X ∧ (∀ k, k < i → X k = fulX N k) ∧ ∀ j', j' < 0 → (X i)[j']? = some (vl N i j')) := ⟨HH.out.1, HH.out.2, fun j' h => absurd h (by omega)⟩
      clear HH hn
      go_wp2_with fail
      go_loopg [4] n (fun q jv wr => ∃ (j : Nat) (X : Nat → List Lc), j ≤ n ∧ q = n - j ∧ jv = .int .i64 (j : Int) ∧ Hid (MK w wr B m (.slice la m lc) us N X ∧ (∀ k, k < i → X k = fulX N k) ∧ ∀ j', j' < j → (X i)[j']? = some (vl N i j')))
      case atStart => exact ⟨0, X, by omega, by omega, rfl, J0.out⟩
      case round =>
        clear J0
        obtain ⟨j, X, hj, rfl, rfl, HJ⟩ := hrel
        obtain ⟨gl, ak, ck, rfl, hu, hck, hck', kc⟩ := HU.out _ _ HJ.out.1 i hlt
        rw [← HNI.out] at kc hck
        by_cases hjn : j < n
        · have hrow := HJ.out.1.r i hlt
          obtain ⟨g, _, e9, _, _, _, _⟩ := own_some hrow.out (by rw [← HNI.out]; omega)
          rw [hu] at e9
          cases e9
          rw [hu] at hrow
          have hjX : j < (X i).length := by rw [← hrow.len, ← HNI.out]; exact hjn
          obtain ⟨z0, z1, kx, ky⟩ : ∃ z0 z1 : Int, wr.cell? ⟨g, j * 2, none⟩ = some (.int .i64 z0) ∧ wr.cell? ⟨g, j * 2 + 1, none⟩ = some (.int .i64 z1) := ⟨_, _, row_lc hrow.row hrow.len hjX⟩
          have fx := own_fz hrow.out (j * 2)
          have fy := own_fz hrow.out (j * 2 + 1)
          have HNX : Hid (∃ X, MK w ((wr.setCell ⟨g, j * 2, none⟩ (.int .i64 (-1 - (i : Int)))).setCell ⟨g, j * 2 + 1, none⟩ (.int .i64 (j : Int))) B m (.slice (some ⟨gl, 0, none⟩) m lc) us N X ∧ (∀ k, k < i → X k = fulX N k) ∧ ∀ j', j' < j + 1 → (X i)[j']? = some (vl N i j')) := by
            refine ⟨_, HJ.out.1.set hlt hu (by rw [← HNI.out]; exact hjn) (-1 - (i : Int), (j : Int)), fun k hk => ?_, fun j' hj' => ?_⟩
            · simp only [if_neg (show k ≠ i by omega)]; exact HJ.out.2.1 k hk
            · simp only [if_true]
              by_cases e : j' = j
              · subst e
                rw [List.getElem?_set_self hjX, vl, if_pos (by rw [← HNI.out]; exact hjn)]
              · rw [List.getElem?_set_ne (Ne.symm e)]; exact HJ.out.2.2 j' (by omega)
          clear HJ hrow hjX hu
          go_wp2_with fail
          go_roundg (n - (j + 1))
          case rel =>
            obtain ⟨X', h'⟩ := HNX.out
            exact ⟨j + 1, X', by omega, rfl, by go_num, h'⟩
          case measure => omega
        · have HNX : Hid (MK w wr B m (.slice (some ⟨gl, 0, none⟩) m lc) us N X ∧ ∀ k, k < i + 1 → X k = fulX N k) := ⟨HJ.out.1, fun k hk => by
            by_cases e : k = i
            · subst e
              exact full_of (HJ.out.1.r k hlt).len fun j' hj' => HJ.out.2.2 j' (by have := HNI.out; omega)
            · exact HJ.out.2.1 k (by omega)⟩
          clear HJ hu
          go_wp2_with fail
          go_roundg (m - (i + 1))
          case rel => exact ⟨i + 1, X, by omega, rfl, by go_num, HNX.out⟩
          case measure => omega
    · obtain rfl : i = m := by omega
      have hA0 : Hid (∃ col, AP w wr B i (.slice la i lc) (.slice none 0 0) (.slice none 0 0) us N [] [] col ∧ ∀ k, 0 ≤ k → k < i → FarX wr B N col (us k) k (N k)) := by
        obtain ⟨col, h1, h2⟩ := AP.start HH.out.1 (fun k hk => HH.out.2 k hk)
        refine ⟨col, h1, fun k _ hk => ⟨?_, h2 k hk⟩⟩
        have := HH.out.1.r k hk
        rw [HH.out.2 k hk] at this
        exact this
      have HU2 : Hid (∀ k, k < i → ∃ gl ak ck, la = some ⟨gl, 0, none⟩ ∧ us k = .slice ak (N k) ck ∧ N k ≤ ck ∧ ck ≤ 9223372036854775807) := fun k hk => by
        obtain ⟨gl, ak, ck, h1, h2, h3, h4, _⟩ := HU.out _ _ HH.out.1 k hk
        exact ⟨gl, ak, ck, h1, h2, h3, h4⟩
      clear HH HU
      go_wp2_with fail
      go_loopg [5, 6, 7] i (fun q gv wv iv wr => ∃ (k : Nat) (a5 : Option Addr) (c5 : Nat) (a6 : Option Addr) (c6 : Nat) (gs : List Value) (ws : List Int) (col : Nat → Option (Nat × Nat)), k ≤ i ∧ q = i - k ∧ gv = .slice a5 gs.length c5 ∧ wv = .slice a6 ws.length c6 ∧ iv = .int .i64 (k : Int) ∧ gs.length ≤ 91 * k ∧ Hid (AP w wr B i (.slice la i lc) (.slice a5 gs.length c5) (.slice a6 ws.length c6) us N gs ws col ∧ ∀ k', k ≤ k' → k' < i → FarX wr B N col (us k') k' (N k')))
      case atStart =>
        obtain ⟨col, h⟩ := hA0.out
        exact ⟨0, none, 0, none, 0, [], [], col, by omega, by omega, rfl, rfl, rfl, by simp, h⟩
      case round =>
        clear hA0
        obtain ⟨k, a5, c5, a6, c6, gs, ws, col, hk, rfl, rfl, rfl, rfl, hgl, HH⟩ := hrel
        by_cases hlt : k < i
        · obtain ⟨gl, ak, ck, rfl, hu, hck, hck'⟩ := HU2.out k hlt
          have kc := us_cell HH.out.1.l hlt
          rw [hu] at kc
          obtain ⟨n, hn⟩ : ∃ n, n = N k := ⟨_, rfl⟩
          have hnl := HN.out k hlt
          rw [← hn] at hnl kc hck
          have HNI : Hid (n = N k) := hn
          have J0 : Hid (AP w wr B i (.slice (some ⟨gl, 0, none⟩) i lc) (.slice a5 gs.length c5) (.slice a6 ws.length c6) us N gs ws col ∧ FarX wr B N col (.slice ak n ck) k n ∧ ∀ k', k + 1 ≤ k' → k' < i → FarX wr B N col (us k') k' (N k')) := by
            refine ⟨HH.out.1, ?_, fun k' h1 h2 => HH.out.2 k' (by omega) h2⟩
            have := HH.out.2 k (Nat.le_refl _) hlt
            rw [hu, ← hn] at this
            exact this
          clear HH hn hu
          go_wp2_with fail
          go_loopg [5, 6, 8, 9] 91 (fun q gv wv v kv wr => ∃ (p : Nat) (a5 : Option Addr) (c5 : Nat) (a6 : Option Addr) (c6 : Nat) (gs : List Value) (ws : List Int) (col : Nat → Option (Nat × Nat)) (a8 : Option Addr) (c8 n8 : Nat), p ≤ 90 ∧ q = 91 - p ∧ gv = .slice a5 gs.length c5 ∧ wv = .slice a6 ws.length c6 ∧ n8 = n + p ∧ v = .slice a8 n8 c8 ∧ kv = .int .i64 ((p : Int) + 1) ∧ gs.length ≤ 91 * k + p ∧ Hid (AP w wr B i (.slice (some ⟨gl, 0, none⟩) i lc) (.slice a5 gs.length c5) (.slice a6 ws.length c6) us N gs ws col ∧ FarX wr B N col (.slice a8 n8 c8) k n8 ∧ ∀ k', k + 1 ≤ k' → k' < i → FarX wr B N col (us k') k' (N k')))
          case atStart => exact ⟨0, a5, c5, a6, c6, gs, ws, col, ak, ck, n, by omega, by omega, rfl, rfl, rfl, rfl, rfl, by omega, J0.out⟩
          case round =>
            clear J0 hgl kc
            obtain ⟨p, a5, c5, a6, c6, gs, ws, col, a8, c8, n8, hp, rfl, rfl, rfl, hn8, rfl, rfl, hgl, HJ⟩ := hrel
            have HN8 : Hid (n8 = n + p) := hn8
            have hn8l : n8 ≤ 6090 := by omega
            clear hn8
            by_cases hp9 : p < 90
            · have hBr : B ≤ wr.heap.size := by have := HJ.out.1.bel.size; omega
              have HF : Hid (OwnP wr B (.slice a8 n8 c8) n8 ((List.range n8).map (vl N k))) := HJ.out.2.1.own
              have hvy : vl N k n8 = (1000000 + (k : Int), 0) := by rw [vl, if_neg (by have := HNI.out; have := HN8.out; omega)]
              have FIN : Hid (∀ v' w', OwnP w' B v' (n8 + 1) ((List.range n8).map (vl N k) ++ [(1000000 + (k : Int), 0)]) → GJ B wr w' (.slice a8 n8 c8) v' → ∃ col', AP w w' B i (.slice (some ⟨gl, 0, none⟩) i lc) (.slice a5 gs.length c5) (.slice a6 ws.length c6) us N gs ws col' ∧ FarX w' B N col' v' k (n8 + 1) ∧ ∀ k', k + 1 ≤ k' → k' < i → FarX w' B N col' (us k') k' (N k')) := fun v' w' h1 h2 => by
                rw [← hvy] at h1
                obtain ⟨col', q1, q2, q3⟩ := HJ.out.1.grow HJ.out.2.1 h1 h2
                exact ⟨col', q1, q2, fun k' h3 h4 => q3 _ _ _ (by omega) (HJ.out.2.2 k' h3 h4)⟩
              clear HJ hvy
              have q9 : decide ((p : Int) + 1 ≤ 90) = true := by simp; omega
              by_cases hh : p + 1 ≤ 16 ∨ p + 1 = 90
              · have FIN2 : Hid (∀ v' w5 col', AP w w5 B i (.slice (some ⟨gl, 0, none⟩) i lc) (.slice a5 gs.length c5) (.slice a6 ws.length c6) us N gs ws col' → FarX w5 B N col' v' k (n8 + 1) → (∀ k', k + 1 ≤ k' → k' < i → FarX w5 B N col' (us k') k' (N k')) → ∀ gv' w6, OwnV w6 B gv' (gs ++ [v']) → GI B w5 w6 (.slice a5 gs.length c5) gv' → OwnI w6 B (.slice a6 ws.length c6) ws.length ws ∧ ∀ wv' w7, OwnI w7 B wv' (ws.length + 1) (ws ++ [(k : Int)]) → GI B w6 w7 (.slice a6 ws.length c6) wv' → AP w w7 B i (.slice (some ⟨gl, 0, none⟩) i lc) gv' wv' us N (gs ++ [v']) (ws ++ [(k : Int)]) col' ∧ FarX w7 B N col' v' k (n8 + 1) ∧ ∀ k', k + 1 ≤ k' → k' < i → FarX w7 B N col' (us k') k' (N k')) := fun v' w5 col' h1 h2 h3 gv' w6 h4 h5 => by
                  refine ⟨h1.o.gi h5 fun b hb => h1.o.apV h1.g b hb, fun wv' w7 h6 h7 => ?_⟩
                  obtain ⟨r1, r2⟩ := h1.hold h2 hlt h4 h5 h6 h7
                  exact ⟨r1, r2 _ _ _ h2, fun k' q1 q2 => r2 _ _ _ (h3 k' q1 q2)⟩
                obtain ⟨t16, ht16⟩ : ∃ t, decide ((p : Int) + 1 ≤ 16) = t := ⟨_, rfl⟩
                obtain ⟨t90, ht90⟩ : ∃ t, ((p : Int) + 1 == 90) = t := ⟨_, rfl⟩
                have hor : t16 = true ∨ t16 = false ∧ t90 = true := by
                  rcases hh with hh | hh
                  · left; rw [← ht16]; simp; omega
                  · right; rw [← ht16, ← ht90]; simp; omega
                clear hh
                have walk : ∀ (_ : t16 = true ∨ t16 = false ∧ t90 = true), True := fun _ => trivial
                clear walk
                rcases hor with rfl | ⟨rfl, rfl⟩
                all_goals
                  clear q9
                  have q9 : decide ((p : Int) + 1 ≤ 90) = true := by simp; omega
                  go_wp2_with (first
                    | (at_builtin; refine wpList_append_lcJ (w0 := wr) rfl _ _ rfl B (.slice a8 n8 c8) n8 ((List.range n8).map (vl N k)) (1000000 + (k : Int), 0) rfl HF.out rfl (by omega) hBr ?_; intro v5 w5 o5 g5
                       obtain ⟨col', A5, F5, R5⟩ := FIN.out v5 w5 o5 g5
                       have hs5 := g5.gi.size
                       have HG5 : Hid _ := A5.g
                       obtain ⟨av, cv, ev, _, _⟩ := own_slice o5.out
                       subst ev
                       have HT5 : Hid _ := FIN2.out _ w5 col' A5 F5 R5
                       have HE5 : Hid (gs.length = ws.length) := A5.len
                       clear o5 g5 A5 F5 R5 FIN FIN2 HF)
                    | (at_builtin; refine wpList_append_slG (w0 := w5) rfl _ _ rfl B (.slice a5 gs.length c5) gs av (n8 + 1) cv rfl HG5.out rfl (by omega) (by omega) ?_; intro v6 w6 o6 g6
                       obtain ⟨O6, T6⟩ := HT5.out v6 w6 o6 g6
                       have hs6 := g6.size
                       have HO6 : Hid _ := O6
                       have HT6 : Hid _ := T6
                       obtain ⟨ag, cg, eg, _, _⟩ := own_slice o6.out
                       rw [List.length_append, List.length_singleton] at eg
                       subst eg
                       clear o6 g6 O6 T6 HT5)
                    | (at_builtin; refine wpList_append_intG (w0 := w6) rfl _ _ rfl B (.slice a6 ws.length c6) ws.length ws (k : Int) rfl HO6.out rfl (by have := HE5.out; omega) (by omega) ?_; intro v7 w7 o7 g7
                       have P7 := HT6.out v7 w7 o7 g7
                       have HP7 : Hid _ := P7
                       obtain ⟨aw, cw, ew, _, _⟩ := own_slice o7.out
                       subst ew
                       clear o7 g7 P7 HT6)
                    | go_in)
                  go_roundg (91 - (p + 1))
                  case rel =>
                    refine ⟨p + 1, ag, cg, aw, cw, gs ++ [.slice av (n8 + 1) cv], ws ++ [(k : Int)], col', av, cv, n8 + 1, by omega, rfl, by simp, by simp, by have := HN8.out; omega, rfl, by go_num, by simp; omega, ?_⟩
                    have := HP7.out
                    rw [show (gs ++ [Value.slice av (n8 + 1) cv]).length = gs.length + 1 by simp, show (ws ++ [(k : Int)]).length = ws.length + 1 by simp]
                    exact this
                  case measure => omega
              · have q16 : decide ((p : Int) + 1 ≤ 16) = false := by simp; omega
                have q90 : ((p : Int) + 1 == 90) = false := by simp; omega
                go_wp2_with (first
                  | (at_builtin; refine wpList_append_lcJ (w0 := wr) rfl _ _ rfl B (.slice a8 n8 c8) n8 ((List.range n8).map (vl N k)) (1000000 + (k : Int), 0) rfl HF.out rfl (by omega) hBr ?_; intro v5 w5 o5 g5
                     obtain ⟨col', A5⟩ := FIN.out v5 w5 o5 g5
                     have HA5 : Hid _ := A5
                     obtain ⟨av, cv, ev, _, _⟩ := own_slice o5.out
                     subst ev
                     clear o5 g5 A5 FIN HF)
                  | go_in)
                go_roundg (91 - (p + 1))
                case rel => exact ⟨p + 1, a5, c5, a6, c6, gs, ws, col', av, cv, n8 + 1, by omega, rfl, rfl, rfl, by have := HN8.out; omega, rfl, by go_num, by omega, HA5.out⟩
                case measure => omega
            · have q9 : decide ((p : Int) + 1 ≤ 90) = false := by simp; omega
              have HNX : Hid (AP w wr B i (.slice (some ⟨gl, 0, none⟩) i lc) (.slice a5 gs.length c5) (.slice a6 ws.length c6) us N gs ws col ∧ ∀ k', k + 1 ≤ k' → k' < i → FarX wr B N col (us k') k' (N k')) := ⟨HJ.out.1, HJ.out.2.2⟩
              clear HJ
              go_wp2_with fail
              go_roundg (i - (k + 1))
              case rel => exact ⟨k + 1, a5, c5, a6, c6, gs, ws, col, by omega, rfl, rfl, rfl, by go_num, by omega, HNX.out⟩
              case measure => omega
        · have HA : Hid (AP w wr B i (.slice la i lc) (.slice a5 gs.length c5) (.slice a6 ws.length c6) us N gs ws col) := HH.out.1
          clear HH
          go_wp2_with fail
          have HBW : Hid (B ≤ wr.heap.size) := by have := HA.out.bel.size; show B ≤ _; omega
          obtain ⟨w0, hw0⟩ : ∃ w0, w0 = wr := ⟨_, rfl⟩
          rw [← hw0] at HA HBW ⊢
          clear hw0
          go_loopg [10] gs.length (fun q nv wq => ∃ t : Nat, t ≤ gs.length ∧ q = gs.length - t ∧ nv = .int .i64 (t : Int) ∧ Hid (Below w0.heap.size w0 wq))
          case atStart => exact ⟨0, by omega, by omega, rfl, Below.refl _ _⟩
          case round =>
            obtain ⟨t, ht, rfl, rfl, HQ⟩ := hrel
            obtain ⟨wq, rfl⟩ : ∃ wq, wq = wr := ⟨_, rfl⟩
            by_cases htl : t < gs.length
            · obtain ⟨o, ho, hom, a, ln, cp, hel, hlc1, hlc2, hcol⟩ := HA.out.ge t htl
              obtain ⟨gg, _, e9, hc5, hc5', _, hgl5⟩ := own_some HA.out.g.out (by omega)
              cases e9
              have kg0 : w0.cell? ⟨gg, t, none⟩ = some (.slice a ln cp) := by
                rw [own_cell HA.out.g.out t (by omega), ← hel]
                simp [htl]
              have hwl := HA.out.len
              obtain ⟨gw, _, e9, hc6, hc6', _, hgl6⟩ := own_some HA.out.o.out (by omega)
              cases e9
              have kw0 : w0.cell? ⟨gw, t, none⟩ = some (.int .i64 (o : Int)) := by
                rw [own_cell HA.out.o.out t (by omega), ← ho]
                simp [ivs, show t < ws.length by omega]
              have HWL : Hid (gs.length = ws.length) := hwl
              have htw : t < ws.length := by omega
              obtain ⟨gl, ak, ck, rfl, hu, hck, hck'⟩ := HU2.out o hom
              have ku0 := us_cell HA.out.l hom
              rw [hu] at ku0
              obtain ⟨n, hn⟩ : ∃ n, n = N o := ⟨_, rfl⟩
              have hnl := HN.out o hom
              rw [← hn] at hnl ku0 hck
              have HNI : Hid (n = N o) := hn
              have hgl0 : gl < w0.heap.size := block_lt_of_cell ku0
              have HC1 : Hid (∀ W, Below w0.heap.size w0 W → ∀ j, j < ln → ∃ b, a = some ⟨b, 0, none⟩ ∧ b < W.heap.size ∧ W.cell? ⟨b, j * 2, none⟩ = some (.int .i64 (vl N o j).1) ∧ W.cell? ⟨b, j * 2 + 1, none⟩ = some (.int .i64 (vl N o j).2)) := fun W hW j hj => by
                obtain ⟨b, M, e1, e2, e3⟩ := hcol (by omega)
                obtain ⟨_, hb, _, hc⟩ := HA.out.c.cells b o M e2
                have h2 := hc j (by omega)
                exact ⟨b, e1, Nat.lt_of_lt_of_le hb hW.size, (hW.cell (p := ⟨b, j * 2, none⟩) hb).trans h2.1, (hW.cell (p := ⟨b, j * 2 + 1, none⟩) hb).trans h2.2⟩
              have HC2 : Hid (∀ W, Below w0.heap.size w0 W → ∀ j, j < n → ∃ b, ak = some ⟨b, 0, none⟩ ∧ b < W.heap.size ∧ W.cell? ⟨b, j * 2, none⟩ = some (.int .i64 (vl N o j).1) ∧ W.cell? ⟨b, j * 2 + 1, none⟩ = some (.int .i64 (vl N o j).2)) := fun W hW j hj => by
                obtain ⟨a', ln', cp', e0, _, _, h3⟩ := HA.out.el o hom
                rw [hu] at e0
                cases e0
                obtain ⟨b, M, e1, e2, e3⟩ := h3 (by omega)
                obtain ⟨_, hb, _, hc⟩ := HA.out.c.cells b o M e2
                have h2 := hc j (by omega)
                exact ⟨b, e1, Nat.lt_of_lt_of_le hb hW.size, (hW.cell (p := ⟨b, j * 2, none⟩) hb).trans h2.1, (hW.cell (p := ⟨b, j * 2 + 1, none⟩) hb).trans h2.2⟩
              have HKS : Hid (∀ W, Below w0.heap.size w0 W → W.cell? ⟨gg, t, none⟩ = some (.slice a ln cp) ∧ W.cell? ⟨gw, t, none⟩ = some (.int .i64 (o : Int)) ∧ W.cell? ⟨gl, o, none⟩ = some (.slice ak n ck) ∧ gg < W.heap.size ∧ gw < W.heap.size ∧ gl < W.heap.size) := fun W hW => by
                have hs := hW.size
                exact ⟨(hW.cell (p := ⟨gg, t, none⟩) hgl5).trans kg0, (hW.cell (p := ⟨gw, t, none⟩) hgl6).trans kw0, (hW.cell (p := ⟨gl, o, none⟩) hgl0).trans ku0, by omega, by omega, by omega⟩
              clear hcol hel ho hu hn hwl kg0 kw0 ku0 hgl5 hgl6 hgl0
              obtain ⟨kg, kw, ku, l1, l2, l3⟩ := HKS.out wq HQ.out
              go_wp2_with fail
              clear kg kw ku l1 l2 l3
              go_loopg [12] ln (fun q jv wq => ∃ j : Nat, j ≤ ln ∧ q = ln - j ∧ jv = .int .i64 (j : Int) ∧ Hid (Below w0.heap.size w0 wq))
              case atStart => exact ⟨0, by omega, by omega, rfl, HQ.out⟩
              case round =>
                obtain ⟨j, hj, rfl, rfl, HQ2⟩ := hrel
                obtain ⟨wz, rfl⟩ : ∃ wz, wz = wr := ⟨_, rfl⟩
                obtain ⟨kg, kw, ku, l1, l2, l3⟩ := HKS.out wz HQ2.out
                have hsz := HQ2.out.size
                by_cases hjl : j < ln
                · obtain ⟨b, rfl, lb, kb, kb'⟩ := HC1.out wz HQ2.out j hjl
                  by_cases hjn : j < n
                  · obtain ⟨b2, rfl, lb2, kb2, kb2'⟩ := HC2.out wz HQ2.out j hjn
                    rw [vl, if_pos (by rw [← HNI.out]; exact hjn)] at kb kb' kb2 kb2'
                    simp only at kb kb' kb2 kb2'
                    have q2 : decide ((j : Int) < (n : Int)) = true := by simp; omega
                    go_wp2_with fail
                    go_quiet (fail)
                    go_wp2_with fail
                    go_roundg (ln - (j + 1))
                    case rel => exact ⟨j + 1, by omega, rfl, by go_num, by repeat (first | exact HQ2.out | refine below_dn ?_ _ | refine Below.setCell ?_ (by simp; omega) _ | refine Below.alloc ?_ (by first | omega | (simp; omega)) _)⟩
                    case measure => omega
                  · rw [vl, if_neg (by rw [← HNI.out]; exact hjn)] at kb kb'
                    simp only at kb kb'
                    have q2 : decide ((j : Int) < (n : Int)) = false := by simp; omega
                    have q3 : decide (j < n) = false := by simp; omega
                    go_wp2_with fail
                    go_quiet (fail)
                    go_wp2_with fail
                    go_roundg (ln - (j + 1))
                    case rel => exact ⟨j + 1, by omega, rfl, by go_num, by repeat (first | exact HQ2.out | refine below_dn ?_ _ | refine Below.setCell ?_ (by simp; omega) _ | refine Below.alloc ?_ (by first | omega | (simp; omega)) _)⟩
                    case measure => omega
                · go_wp2_with fail
                  go_roundg (gs.length - (t + 1))
                  case rel => exact ⟨t + 1, by omega, rfl, by go_num, HQ2.out⟩
                  case measure => omega
            · go_wp2_with fail
              try rw [Exit.noGoto_ret]
              go_ret
              exact ⟨rfl, HA.out.bel.trans (HQ.out.mono HBW.out)⟩
end Go.Proofs.Ytpgbkkllnbahpaa
