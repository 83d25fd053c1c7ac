import Derived.Test.YthjjdfiaikibaabDpO
import Derived.Test.YthjjdfiaikibaabLdA
set_option linter.unusedVariables false
set_option linter.unusedSimpArgs false
namespace Go.Proofs.Ythjjdfiaikibaab
open Go.ChangeShapes Go.WideShapes Go.ChangeAt Go.RowKit Go.Maps

/-- All that the statement's loop holds. -/
structure AS (w0 w : World) (B kb bb rg : Nat) (late : Bool) (F G : Nat → Prop) (f : Nat → Value) (n k k2 : Nat) (Ls : List (List Int)) : Prop where
  k : KP late w B kb F k
  v : VP w B bb G k2
  r : RM w B rg n Ls f
  fg : ∀ x, F x → ¬ G x
  fr : ∀ x, RF rg n f x → ¬ F x ∧ ¬ G x
  bel : Below B w0 w
  lo : B ≤ rg
theorem AS.keep {w0 w w' B kb bb rg late F G f n k k2 Ls} (h : AS w0 w B kb bb rg late F G f n k k2 Ls) (hB : B ≤ w.heap.size) (hb : Below w.heap.size w w') : AS w0 w' B kb bb rg late F G f n k k2 Ls :=
  ⟨h.k.move fun x hx => hb.block x (h.k.lt hx).2, h.v.move fun x hx => hb.block x (h.v.lt hx).2, h.r.move fun x hx => hb.block x (h.r.lt hx), h.fg, h.fr, h.bel.trans (hb.mono hB), h.lo⟩
theorem AS.fresh0 {w0 w B kb bb rg late F G f n k k2 Ls} (h : AS w0 w B kb bb rg late F G f n k k2 Ls) (Ls' : List (List Int)) : AS w0 w B kb bb rg late F G f 0 k k2 Ls' :=
  ⟨h.k, h.v, ⟨h.r.c, fun i hi => by omega⟩, h.fg, fun x hx => h.fr x (by rcases hx with q | ⟨i, hi, _⟩; exact .inl q; omega), h.bel, h.lo⟩
theorem AS.copy {w0 w w5 B kb bb rg late F G f n k k2 Ls v m M} (h : AS w0 w B kb bb rg late F G f n k k2 Ls) (hB : B ≤ w.heap.size) (hb : Below w.heap.size w w5) (ho : OwnI w5 w.heap.size v m M) (hM : Ls.getD n [] = M) : AS w0 (w5.setCell ⟨rg, n, none⟩ v) B kb bb rg late F G (fun i => if i = n then v else f i) (n + 1) k k2 Ls := by
  have hrl := h.r.c.lt
  have hr := h.fr rg (.inl rfl)
  have st : ∀ x, x < w.heap.size → x ≠ rg → (w5.setCell ⟨rg, n, none⟩ v).heap[x]? = w.heap[x]? := fun x hx hne => by rw [heap_set_other hne, hb.block x hx]
  have hty : ∀ i, i < n → ∀ g, (f i).ownBlock = some g → g ≠ rg := fun i hi g hg e => own_not (h.r.own i hi).out h.r.c (by decide) (e ▸ hg)
  refine ⟨h.k.move fun x hx => st x (h.k.lt hx).2 fun e => hr.1 (e ▸ hx), h.v.move fun x hx => st x (h.v.lt hx).2 fun e => hr.2 (e ▸ hx), ⟨((h.r.c.keep hb).set n v).congr fun i _ => rfl, fun i hi => ?_⟩, h.fg, fun x hx => ?_, (h.bel.trans (hb.mono hB)).setCell h.lo _, h.lo⟩
  · by_cases e : i = n
    · subst e
      simp only [if_true]
      rw [hM, ← ho.len]
      exact ⟨ho.len, own_lower (own_move ho.out fun g hg => heap_set_other (by have := (own_block ho.out hg).1; omega)) hB⟩
    · simp only [if_neg e]
      have h1 := h.r.own i (by omega)
      exact ⟨h1.len, own_move h1.out fun g hg => st g (own_block h1.out hg).2 (hty i (by omega) g hg)⟩
  · rcases hx with q | ⟨i, hi, q⟩
    · exact h.fr x (.inl q)
    · by_cases e : i = n
      · subst e
        simp only [if_true] at q
        have h1 := (own_block ho.out q).1
        exact ⟨fun p => by have := (h.k.lt p).2; omega, fun p => by have := (h.v.lt p).2; omega⟩
      · simp only [if_neg e] at q
        exact h.fr x (.inr ⟨i, by omega, q⟩)
theorem AS.put {w0 w w' B kb bb rg late F G f n k k2 Ls F'} {v : Value} (h : AS w0 w B kb bb rg late F G f n k k2 Ls) (hv : ∀ g, v.ownBlock = some g → B ≤ g ∧ ¬ F g ∧ ¬ G g ∧ ¬ RF rg n f g) (hB : B ≤ w.heap.size)
    (h1 : KP late w' B kb F' (k + 1)) (on : Only (fun x => F x ∨ v.ownBlock = some x) w w') (sub : ∀ x, x < w.heap.size → F' x → F x ∨ v.ownBlock = some x) : AS w0 w' B kb bb rg late F' G f n (k + 1) k2 Ls := by
  have oG : ∀ x, G x → ¬ (F x ∨ v.ownBlock = some x) := fun x hx q => by
    rcases q with q | q
    · exact h.fg x q hx
    · exact (hv x q).2.2.1 hx
  have oR : ∀ x, RF rg n f x → ¬ (F x ∨ v.ownBlock = some x) := fun x hx q => by
    rcases q with q | q
    · exact (h.fr x hx).1 q
    · exact (hv x q).2.2.2 hx
  refine ⟨h1, h.v.move fun x hx => on.block x (h.v.lt hx).2 (oG x hx), h.r.move fun x hx => on.block x (h.r.lt hx) (oR x hx), fun x hx hg => ?_, fun x hx => ⟨fun q => ?_, (h.fr x hx).2⟩, h.bel.trans (on.below hB fun x q => ?_), h.lo⟩
  · exact oG x hg (sub x (h.v.lt hg).2 hx)
  · exact oR x hx (sub x (h.r.lt hx) q)
  · rcases q with q | q
    · exact (h.k.lt q).1
    · exact (hv x q).1
theorem AS.truth {w0 w w' B kb bb rg late F G f n k k2 Ls G'} {v : Value} (h : AS w0 w B kb bb rg late F G f n k k2 Ls) (hv : ∀ g, v.ownBlock = some g → B ≤ g ∧ ¬ F g ∧ ¬ G g ∧ ¬ RF rg n f g) (hB : B ≤ w.heap.size)
    (h1 : VP w' B bb G' (k2 + 1)) (on : Only (fun x => G x ∨ v.ownBlock = some x) w w') (sub : ∀ x, x < w.heap.size → G' x → G x ∨ v.ownBlock = some x) : AS w0 w' B kb bb rg late F G' f n k (k2 + 1) Ls := by
  have oF : ∀ x, F x → ¬ (G x ∨ v.ownBlock = some x) := fun x hx q => by
    rcases q with q | q
    · exact h.fg x hx q
    · exact (hv x q).2.1 hx
  have oR : ∀ x, RF rg n f x → ¬ (G x ∨ v.ownBlock = some x) := fun x hx q => by
    rcases q with q | q
    · exact (h.fr x hx).2 q
    · exact (hv x q).2.2.2 hx
  refine ⟨h.k.move fun x hx => on.block x (h.k.lt hx).2 (oF x hx), h1, h.r.move fun x hx => on.block x (h.r.lt hx) (oR x hx), fun x hx hg => ?_, fun x hx => ⟨(h.fr x hx).1, fun q => ?_⟩, h.bel.trans (on.below hB fun x q => ?_), h.lo⟩
  · exact oF x hx (sub x (h.k.lt hx).2 hg)
  · exact oR x hx (sub x (h.r.lt hx) q)
  · rcases q with q | q
    · exact (h.v.lt q).1
    · exact (hv x q).1
/-- Many lists of lists. -/
structure II (w : World) (ao : Option Addr) (cap : Nat) (Ms : List (List (List Int))) : Prop where
  le : Ms.length ≤ cap
  mx : cap ≤ 9223372036854775807
  out : Ms ≠ [] → ∃ b o, ao = some ⟨b, o, none⟩ ∧ b < w.heap.size ∧ ∀ i (h : i < Ms.length), ∃ a' c', w.cell? ⟨b, o + i, none⟩ = some (.slice a' Ms[i].length c') ∧ IRow w a' c' Ms[i] ∧ RZ w a' Ms[i].length
theorem treeP_le (Ls : List (List Int)) : (treeP Ls).length ≤ Ls.length := by
  by_cases hg : goodP Ls = true
  · rw [treeP_len hg]; exact Nat.le_refl _
  · unfold treeP; rw [if_neg hg]; simp
theorem reachP_le (Ls : List (List Int)) : (reachP Ls).length ≤ Ls.length := by
  unfold reachP
  split
  · rw [rch_len]; exact Nat.le_refl _
  · simp
theorem II.at {w ao cap Ms} (h : II w ao cap Ms) {i : Nat} (hi : i < Ms.length) : ∃ b o a' c', ao = some ⟨b, o, none⟩ ∧ b < w.heap.size ∧ w.cell? ⟨b, o + i, none⟩ = some (.slice a' Ms[i].length c') ∧ IRow w a' c' Ms[i] ∧ RZ w a' Ms[i].length := by
  obtain ⟨b, o, e, hb, hA⟩ := h.out (by intro e; rw [e] at hi; simp at hi)
  obtain ⟨a', c', h1, h2, h3⟩ := hA i hi
  exact ⟨b, o, a', c', e, hb, h1, h2, h3⟩
set_option maxRecDepth 100000 in
set_option maxHeartbeats 16000000 in
theorem all_any (w0 w : World) {B late kb F} (ao : Option Addr) (nm cm : Nat) (Ms : List (List (List Int))) (hB : B = w0.heap.size) (b0 : Below B w0 w) (hI : II w0 ao cm Ms) (hn : nm = Ms.length) (hs : ∀ M ∈ Ms, M.length + (M.map List.length).sum ≤ 1048576) (hk : KP late w B kb F 0) :
    Calls Try.prog 5 #[.slice ao nm cm, .pointer (some ⟨kb, 0, none⟩)] w fun e w' => e = .returned (.bool true) ∧ Below B w0 w' := by
  have hBw : B ≤ w.heap.size := by have := b0.size; omega
  have hnc : nm ≤ cm := by have := hI.le; omega
  have hcm : cm ≤ 9223372036854775807 := hI.mx
  have HI : Hid (II w0 ao cm Ms) := hI
  have HN : Hid (nm = Ms.length) := hn
  have HS : Hid _ := hs
  have HB0 : Hid (Below B w0 w) := b0
  have HBE : Hid (B = w0.heap.size) := hB
  have HKP : Hid (KP late w B kb F 0) := hk
  clear hI hn hs b0 hB hk
  have m1 : Sem.run Try.prog (Instr.makeSlice 26 (.int .i64 64) (.int .i64 64)) w = .ok (.slice (some ⟨w.heap.size, 0, none⟩) 64 64) (w.alloc (.cells (madeCells #[.slice none 0 0] 64) 27)) := run_make_row' (P := Try.prog) 26 27 (.slice none 0 0) 24 Try.underlying26 infoInts rfl .i64 .i64 64 (by omega) (by omega) w
  obtain ⟨w2, hw2⟩ : ∃ w2, w2 = w.alloc (.cells (madeCells #[.slice none 0 0] 64) 27) := ⟨_, rfl⟩
  rw [← hw2] at m1
  have s2 : w2.heap.size = w.heap.size + 1 := by rw [hw2]; simp
  have b2 : Below w.heap.size w w2 := by rw [hw2]; exact (Below.refl _ _).alloc (Nat.le_refl _) _
  obtain ⟨w3, hw3⟩ : ∃ w3, w3 = w2.alloc (.cells #[.bool false, .slice none 0 0, .slice none 0 0, .slice none 0 0, .slice none 0 0, .slice none 0 0] 30) := ⟨_, rfl⟩
  have b3 : Below w2.heap.size w2 w3 := by rw [hw3]; exact (Below.refl _ _).alloc (Nat.le_refl _) _
  obtain ⟨rg, hrg⟩ : ∃ rg, rg = w.heap.size := ⟨_, rfl⟩
  obtain ⟨bb, hbb⟩ : ∃ bb, bb = w2.heap.size := ⟨_, rfl⟩
  have HA0 : Hid (∃ G, AS w0 w3 B kb bb rg late F G (fun _ => .slice none 0 0) 0 0 0 []) := by
    have b13 : Below w.heap.size w w3 := b2.trans (b3.mono (by omega))
    have hc : CW w2 rg 64 27 fun _ => .slice none 0 0 := by rw [hw2, hrg]; exact CW.made w 64 27 _
    refine ⟨WFb bb (.slice none 0 0) (.slice none 0 0) [] [], HKP.out.move fun x hx => b13.block x (HKP.out.lt hx).2, ⟨_, _, [], [], [], ⟨by rw [hw3, hbb]; exact heap_alloc_new _ _, by omega, OwnU.nil _ _, OwnU.nil _ _, PB.nil _ _, rfl, fun i hi => by simp at hi, fun g hg => by cases hg⟩, rfl, by simp, fun l hl => by simp at hl⟩, ⟨hc.keep b3, fun i hi => by omega⟩, fun x hx q => ?_, fun x hx => ?_, HB0.out.trans (b13.mono hBw), by omega⟩
    · have := (HKP.out.lt hx).2
      rcases q with q | q | q | ⟨y, hy, _⟩ | ⟨y, hy, _⟩
      · omega
      · cases q
      · cases q
      · simp at hy
      · simp at hy
    · have hxr : x = rg := by rcases hx with q | ⟨i, hi, _⟩; exact q; omega
      refine ⟨fun q => by have := (HKP.out.lt q).2; omega, fun q => ?_⟩
      rcases q with q | q | q | ⟨y, hy, _⟩ | ⟨y, hy, _⟩
      · omega
      · cases q
      · cases q
      · simp at hy
      · simp at hy
  have HW3 : Hid (w3 = w2.alloc (.cells #[.bool false, .slice none 0 0, .slice none 0 0, .slice none 0 0, .slice none 0 0, .slice none 0 0] 30)) := hw3
  have HBB : Hid (bb = w2.heap.size) := hbb
  rw [← hrg] at m1
  clear hw2 s2 b2 hw3 b3 hrg hbb
  go_enter Try.func5, Try.ntmps5
  go_wp2_with fail
  rw [← HW3.out, ← HBB.out]
  obtain ⟨G0, HA0⟩ := HA0
  go_loopg [7] nm (fun q iv wr => ∃ (i k k2 : Nat) (F G : Nat → Prop) (f : Nat → Value), i ≤ nm ∧ i ≤ 30 ∧ q = nm - i ∧ iv = .int .i64 i ∧ k ≤ 2 * i ∧ k2 ≤ 2 * i ∧ Hid (AS w0 wr B kb bb rg late F G f 0 k k2 []))
  case atStart => exact ⟨0, 0, 0, F, G0, _, by omega, by omega, by omega, rfl, by omega, by omega, HA0⟩
  case round =>
    clear HA0 HKP
    obtain ⟨i, k, k2, F, G, f, hi, hi30, rfl, rfl, hk1, hk2, HA⟩ := hrel
    have hBr : B ≤ wr.heap.size := by have := HA.out.bel.size; have := HBE.out; omega
    by_cases hin : i < nm
    · by_cases hi3 : i < 30
      · have hiM : i < Ms.length := by have := HN.out; omega
        obtain ⟨mb, mo, ta, tc, rfl, hmb, kM, hIT, hZT⟩ := HI.out.at hiM
        obtain ⟨Ls, hLs⟩ : ∃ Ls, Ls = Ms[i] := ⟨_, rfl⟩
        rw [← hLs] at kM hIT hZT
        obtain ⟨n, hn⟩ : ∃ n, n = Ls.length := ⟨_, rfl⟩
        rw [← hn] at kM hZT
        have hbulk := HS.out Ls (by rw [hLs]; exact List.getElem_mem hiM)
        obtain ⟨S, hSd⟩ : ∃ S, S = (Ls.map List.length).sum := ⟨_, rfl⟩
        rw [← hSd] at hbulk
        have km : wr.cell? ⟨mb, mo + i, none⟩ = some (.slice ta n tc) := (HA.out.bel.cell (p := ⟨mb, mo + i, none⟩) (by show mb < B; have := HBE.out; omega)).trans kM
        have HIT : Hid (IRow w0 ta tc Ls) := hIT
        have HZT : Hid (RZ w0 ta n) := hZT
        have HNL : Hid (n = Ls.length) := hn
        have HSD : Hid (S = (Ls.map List.length).sum) := hSd
        have HM : Hid (∀ l ∈ Ls, l.length ≤ 1000000 ∨ 1000000 < S) := fun l hl => by
          have := le_sum (List.mem_map_of_mem (f := List.length) hl)
          omega
        have hntc : n ≤ tc := by have := hIT.le; omega
        have htc : tc ≤ 9223372036854775807 := hIT.mx
        have hnb : n + S ≤ 1048576 := by rw [hn]; exact hbulk
        clear kM hIT hZT hLs hn hSd hbulk
        by_cases h64 : n ≤ 64
        · have hed := edges_any wr ta n tc Ls HNL.out (HIT.out.below HA.out.bel (by have := HBE.out; omega)) (by rw [← HSD.out]; omega)
          rw [← HSD.out] at hed
          go_wp2_with fail
          refine hed.mono ?_
          rintro e w' ⟨rfl, rfl⟩
          clear hed
          by_cases hS2 : S ≤ 2000
          · have HM2 : Hid (∀ l ∈ Ls, l.length ≤ 1000000) := fun l hl => by
              rcases HM.out l hl with q | q
              · exact q
              · omega
            have HA0 : Hid _ := HA.out.fresh0 Ls
            clear HM HA
            go_wp2_with fail
            go_loopg [10] n (fun q jv wq => ∃ (j : Nat) (f : Nat → Value), j ≤ n ∧ q = n - j ∧ jv = .int .i64 j ∧ Hid (AS w0 wq B kb bb rg late F G f j k k2 Ls))
            case atStart => exact ⟨0, f, by omega, by omega, rfl, HA0.out⟩
            case round =>
              clear HA0 km
              obtain ⟨j, f, hj, rfl, rfl, HA⟩ := hrel
              have hBr : B ≤ wr.heap.size := by have := HA.out.bel.size; have := HBE.out; omega
              by_cases hjn : j < n
              · have hjL : j < Ls.length := by have := HNL.out; omega
                have hITr := HIT.out.below HA.out.bel (by have := HBE.out; omega)
                obtain ⟨tb, tof, ar, cr, rfl, kr0, hIr⟩ := hITr.at hjL
                obtain ⟨rl, hrl⟩ : ∃ rl, rl = Ls[j].length := ⟨_, rfl⟩
                rw [← hrl] at kr0
                have hnz : ar = none → cr = 0 := fun e => by
                  subst e
                  obtain ⟨tb', tof', ar', cr', e1, k1, _⟩ := HIT.out.at hjL
                  cases e1
                  have k2' := (HA.out.bel.cell (p := ⟨tb, tof + j, none⟩) (by show tb < B; rw [HBE.out]; exact block_lt_of_cell k1)).trans k1
                  rw [kr0] at k2'
                  cases k2'
                  exact HZT.out tb tof j _ _ rfl hjn k1
                have hrlm : rl ≤ 1000000 := by rw [hrl]; exact HM2.out _ (List.getElem_mem hjL)
                have hcr1 : rl ≤ cr := by have := hIr.le; omega
                have hcr2 : cr ≤ 9223372036854775807 := hIr.mx
                have HIr : Hid (Ints wr ar cr Ls[j]) := hIr
                have HNZ : Hid (ar = none → cr = 0) := hnz
                have HRL : Hid (rl = Ls[j].length) := hrl
                have hrgl := HA.out.r.c.lt
                clear hITr hIr hnz hrl
                go_wp2_with (first
                  | (at_builtin; refine wpList_copyG (w := wr) rfl _ _ rfl wr.heap.size rfl ar rl cr (Ls[j]'hjL) HRL.out HIr.out HNZ.out rfl (by omega) (Nat.le_refl _) ?_; intro v5 w5 h5 b5
                     obtain ⟨z5, k5⟩ : ∃ z, w5.cell? ⟨rg, j, none⟩ = some z := ⟨_, (HA.out.r.c.keep b5).cell (by omega)⟩
                     have f5 := (HA.out.r.c.keep b5).fz j
                     have HN5 : Hid _ := HA.out.copy hBr b5 h5 (by simp [hjL])
                     obtain ⟨a5, c5, e5, _, _⟩ := own_slice h5.out
                     subst e5
                     clear h5 b5)
                  | go_in)
                go_roundg (n - (j + 1))
                case rel => exact ⟨j + 1, _, by omega, rfl, by go_num, HN5.out⟩
                case measure => omega
              · have HAn : Hid (AS w0 wr B kb bb rg late F G f n k k2 Ls) := by have := HA.out; rw [show j = n by omega] at this; exact this
                clear HA
                go_wp2_with fail
                go_loopg [11] 2 (fun q tv wq => ∃ (t k k2 : Nat) (F G : Nat → Prop), t ≤ 2 ∧ q = 2 - t ∧ tv = .int .i64 t ∧ k ≤ 2 * i + t ∧ k2 ≤ 2 * i + t ∧ Hid (AS w0 wq B kb bb rg late F G f n k k2 Ls))
                case atStart => exact ⟨0, k, k2, F, G, by omega, by omega, rfl, by omega, by omega, HAn.out⟩
                case round =>
                  clear HAn
                  obtain ⟨t, k, k2, F, G, ht, rfl, rfl, hk1, hk2, HA⟩ := hrel
                  have hBr : B ≤ wr.heap.size := by have := HA.out.bel.size; have := HBE.out; omega
                  by_cases htl : t < 2
                  · go_wp2_with fail
                    refine (tree_any wr (some ⟨rg, 0, none⟩) n 64 Ls HNL.out (HA.out.r.irow HNL.out h64) (by omega) HM2.out).mono ?_
                    rintro e w4 ⟨v4, rfl, O4, b4⟩
                    have HA4 : Hid _ := HA.out.keep hBr b4
                    obtain ⟨a4, c4, e4, hc4, hc42⟩ := own_slice O4.out
                    subst e4
                    have HO4 : Hid _ := O4
                    have z4 := b4.size
                    have HF4 : Hid (∀ g, (Value.slice a4 (treeP Ls).length c4).ownBlock = some g → B ≤ g ∧ ¬ F g ∧ ¬ G g ∧ ¬ RF rg n f g) := fun g hg => by
                      have h1 := (own_block O4.out hg).1
                      exact ⟨by omega, fun q => by have := (HA.out.k.lt q).2; omega, fun q => by have := (HA.out.v.lt q).2; omega, fun q => by have := HA.out.r.lt q; omega⟩
                    have hBr4 : B ≤ w4.heap.size := by omega
                    clear O4 b4 HA
                    go_wp2_with fail
                    refine (reach_any w4 (some ⟨rg, 0, none⟩) n 64 Ls HNL.out (HA4.out.r.irow HNL.out h64) (by omega)).mono ?_
                    rintro e w5 ⟨v5, rfl, O5, b5⟩
                    have HA5 : Hid _ := HA4.out.keep hBr4 b5
                    obtain ⟨a5, c5, e5, hc5, hc52⟩ := own_slice O5.out
                    subst e5
                    have HO5 : Hid _ := O5
                    have HO45 : Hid _ := HO4.out.keep b5
                    have z5 := b5.size
                    have HF5 : Hid (∀ g, (Value.slice a5 (reachP Ls).length c5).ownBlock = some g → B ≤ g ∧ ¬ F g ∧ ¬ G g ∧ ¬ RF rg n f g ∧ (Value.slice a4 (treeP Ls).length c4).ownBlock ≠ some g ∧ w4.heap.size ≤ g) := fun g hg => by
                      have h1 := (own_block O5.out hg).1
                      exact ⟨by omega, fun q => by have := (HA4.out.k.lt q).2; omega, fun q => by have := (HA4.out.v.lt q).2; omega, fun q => by have := HA4.out.r.lt q; omega, fun q => by have := (own_block HO4.out.out q).2; omega, h1⟩
                    clear O5 b5 HA4 HO4
                    go_wp2_with fail
                    refine (refTree_any w5 ta n tc Ls HNL.out (HIT.out.below HA5.out.bel (by have := HBE.out; omega)) (by omega)).mono ?_
                    rintro e w6 ⟨v6, rfl, O6, b6⟩
                    obtain ⟨a6, c6, e6, hI6⟩ := O6.ints
                    subst e6
                    have HA6 : Hid _ := HA5.out.keep (by omega) b6
                    have HO46 : Hid _ := HO45.out.keep b6
                    have HO56 : Hid _ := HO5.out.keep b6
                    have HI6 : Hid _ := hI6
                    have z6 := b6.size
                    clear O6 b6 hI6 HA5 HO45 HO5
                    go_wp2_with fail
                    obtain ⟨_, _, e46, hI46⟩ := HO46.out.ints
                    cases e46
                    refine (same_any w6 _ _ _ _ _ _ (treeP Ls) (treeP Ls) rfl rfl hI46 HI6.out).mono ?_
                    rintro e w7 ⟨rfl, b7⟩
                    rw [show decide (treeP Ls = treeP Ls) = true by simp]
                    have HA7 : Hid _ := HA6.out.keep (by omega) b7
                    have HO47 : Hid _ := HO46.out.keep b7
                    have HO57 : Hid _ := HO56.out.keep b7
                    have z7 := b7.size
                    clear b7 hI46 HA6 HO46 HO56 HI6
                    go_wp2_with fail
                    refine (refReach_any w7 ta n tc Ls HNL.out (HIT.out.below HA7.out.bel (by have := HBE.out; omega)) (by omega)).mono ?_
                    rintro e w8 ⟨v8, rfl, O8, b8⟩
                    obtain ⟨a8, c8, e8, hI8⟩ := O8.bls
                    subst e8
                    have HA8 : Hid _ := HA7.out.keep (by omega) b8
                    have HO48 : Hid _ := HO47.out.keep b8
                    have HO58 : Hid _ := HO57.out.keep b8
                    have HI8 : Hid _ := hI8
                    have z8 := b8.size
                    clear O8 b8 hI8 HA7 HO47 HO57
                    go_wp2_with fail
                    obtain ⟨_, _, e58, hI58⟩ := HO58.out.bls
                    cases e58
                    refine (alike_any w8 _ _ _ _ _ _ (reachP Ls) (reachP Ls) rfl rfl hI58 HI8.out).mono ?_
                    rintro e w9 ⟨rfl, b9⟩
                    rw [show decide (reachP Ls = reachP Ls) = true by simp]
                    have HA9 : Hid _ := HA8.out.keep (by omega) b9
                    have HO49 : Hid (OwnI w9 B (.slice a4 (treeP Ls).length c4) (treeP Ls).length (treeP Ls)) := by have := HO48.out.keep b9; exact ⟨this.len, own_lower this.out hBr⟩
                    have HO59 : Hid (OwnBl w9 w4.heap.size (.slice a5 (reachP Ls).length c5) (reachP Ls).length (reachP Ls)) := HO58.out.keep b9
                    have z9 := b9.size
                    clear b9 hI58 HA8 HO48 HO58 HI8
                    go_wp2_with fail
                    refine (put_any w9 HA9.out.k HO49.out (fun g hg => (HF4.out g hg).2.1) (by have := treeP_le Ls; have := HNL.out; omega) (by omega)).mono ?_
                    rintro e w10 ⟨rfl, F', K10, O10, S10⟩
                    have HA10 : Hid _ := HA9.out.put (fun g hg => ⟨(HF4.out g hg).1, (HF4.out g hg).2.1, (HF4.out g hg).2.2.1, (HF4.out g hg).2.2.2⟩) (by omega) K10 O10 S10
                    have HO510 : Hid (OwnBl w10 B (.slice a5 (reachP Ls).length c5) (reachP Ls).length (reachP Ls)) := ⟨HO59.out.len, own_lower (own_move HO59.out.out fun g hg => O10.block g (own_block HO59.out.out hg).2 fun q => by
                      have h1 := HF5.out g hg
                      rcases q with q | q
                      · exact h1.2.1 q
                      · exact h1.2.2.2.2.1 q) (by omega)⟩
                    have HF10 : Hid (∀ g, (Value.slice a5 (reachP Ls).length c5).ownBlock = some g → B ≤ g ∧ ¬ F' g ∧ ¬ G g ∧ ¬ RF rg n f g) := fun g hg => by
                      have h1 := HF5.out g hg
                      refine ⟨h1.1, fun q => ?_, h1.2.2.1, h1.2.2.2.1⟩
                      rcases S10 g (own_block HO59.out.out hg).2 q with q | q
                      · exact h1.2.1 q
                      · exact h1.2.2.2.2.1 q
                    have z10 := O10.size
                    clear K10 O10 S10 HA9 HO49 HO59 HF4 HF5
                    go_wp2_with fail
                    refine (truthP w10 HA10.out.v HO510.out (fun g hg => (HF10.out g hg).2.2.1) (by have := reachP_le Ls; have := HNL.out; omega) (by omega)).mono ?_
                    rintro e w11 ⟨rfl, G', K11, O11, S11⟩
                    have HA11 : Hid _ := HA10.out.truth HF10.out (by omega) K11 O11 S11
                    clear K11 O11 S11 HA10 HO510 HF10
                    go_wp2_with fail
                    go_roundg (2 - (t + 1))
                    case rel => exact ⟨t + 1, k + 1, k2 + 1, F', G', by omega, rfl, by go_num, by omega, by omega, HA11.out⟩
                    case measure => omega
                  · have HAN : Hid _ := HA.out.fresh0 []
                    go_wp2_with fail
                    go_roundg (nm - (i + 1))
                    case rel => exact ⟨i + 1, k, k2, F, G, f, by omega, by omega, rfl, by go_num, by omega, by omega, HAN.out⟩
                    case measure => omega
          · have HSn : ¬ (S : Int) ≤ 2000 := by omega
            go_wp2_with fail
            go_roundg (nm - (i + 1))
            case rel => exact ⟨i + 1, k, k2, F, G, f, by omega, by omega, rfl, by go_num, by omega, by omega, HA.out⟩
            case measure => omega
        · go_wp2_with fail
          go_roundg (nm - (i + 1))
          case rel => exact ⟨i + 1, k, k2, F, G, f, by omega, by omega, rfl, by go_num, by omega, by omega, HA.out⟩
          case measure => omega
      · go_wp2_with fail
        refine (truthsP wr HA.out.v (by omega)).mono ?_
        rintro e w5 ⟨rfl, O5⟩
        have HKW : Hid _ := HA.out.k.move (fun x hx => O5.block x (HA.out.k.lt hx).2 (fun q => HA.out.fg x hx q))
        have HB5 : Hid (Below B w0 w5) := HA.out.bel.trans (O5.below hBr fun x q => (HA.out.v.lt q).1)
        clear O5 HA
        go_wp2_with fail
        refine (whole_any w5 HKW.out (by omega)).mono ?_
        rintro e w6 ⟨rfl, b6⟩
        have HB6 : Hid (Below B w0 w6) := HB5.out.trans b6
        clear b6
        go_wp2_with fail
        go_ret
        exact ⟨rfl, HB6.out⟩
    · go_wp2_with fail
      refine (truthsP wr HA.out.v (by omega)).mono ?_
      rintro e w5 ⟨rfl, O5⟩
      have HKW : Hid _ := HA.out.k.move (fun x hx => O5.block x (HA.out.k.lt hx).2 (fun q => HA.out.fg x hx q))
      have HB5 : Hid (Below B w0 w5) := HA.out.bel.trans (O5.below hBr fun x q => (HA.out.v.lt q).1)
      clear O5 HA
      go_wp2_with fail
      refine (whole_any w5 HKW.out (by omega)).mono ?_
      rintro e w6 ⟨rfl, b6⟩
      have HB6 : Hid (Below B w0 w6) := HB5.out.trans b6
      clear b6
      go_wp2_with fail
      go_ret
      exact ⟨rfl, HB6.out⟩
end Go.Proofs.Ythjjdfiaikibaab
