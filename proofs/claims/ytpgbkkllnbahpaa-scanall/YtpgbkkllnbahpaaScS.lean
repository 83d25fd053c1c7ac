import Derived.Test.YtpgbkkllnbahpaaScR
set_option linter.unusedVariables false
set_option linter.unusedSimpArgs false
namespace Go.Proofs.Ytpgbkkllnbahpaa
open Go.ChangeShapes Go.WideShapes Go.ChangeAt Go.RowKit Go.Maps

theorem below_dn {B : Nat} {a w : World} (h : Below B a w) : ∀ n, Below B a (w.drewN n)
  | 0 => h
  | n + 1 => (below_dn h n).drew
theorem row_base {w : World} {B B' e z v xs} (h : Row w B e z v xs) (hb : B' ≤ B) : Row w B' e z v xs := by
  refine ⟨⟨h.out.1, ?_⟩, h.len⟩
  rcases h.out.2 with q | ⟨g, cap, cur, h1, h2, h3⟩
  · exact .inl q
  · exact .inr ⟨g, cap, cur, h1, Nat.le_trans hb h2, h3⟩
theorem wth_len {α : Type} (p : α → Bool) (x : α) (l : List α) : (wth p x l).length = l.length + 1 := by
  simp [wth]
  omega
theorem wth_mem {α : Type} {p : α → Bool} {x y : α} {l : List α} : y ∈ wth p x l ↔ y = x ∨ y ∈ l := by
  unfold wth
  rw [List.mem_append, List.mem_cons]
  constructor
  · rintro (h | h | h)
    · exact .inr (List.mem_of_mem_take h)
    · exact .inl h
    · exact .inr (List.mem_of_mem_drop h)
  · rintro (h | h)
    · exact .inr (.inl h)
    · rw [← List.take_append_drop (l.findIdx p) l] at h
      rcases List.mem_append.1 h with h | h
      · exact .inl h
      · exact .inr (.inr h)
theorem fre_len (F : Int) (pl : List Lc) : ∀ (a : List Iv) (sp : List Int), (fre F pl a sp).1.length ≤ a.length ∧ (fre F pl a sp).2.length + (fre F pl a sp).1.length = sp.length + a.length ∧ ∀ y ∈ (fre F pl a sp).1, y ∈ a
  | [], sp => ⟨Nat.le_refl _, rfl, fun y hy => hy⟩
  | x :: a, sp => by
    unfold fre
    split
    · obtain ⟨h1, h2, h3⟩ := fre_len F pl a (wth (fun o => decide ((plc pl x.1).2 < o)) (plc pl x.1).2 sp)
      rw [wth_len] at h2
      exact ⟨by simp; omega, by simp; omega, fun y hy => List.mem_cons_of_mem _ (h3 y hy)⟩
    · exact ⟨Nat.le_refl _, rfl, fun y hy => hy⟩
/-- What bounds a state of the scan. -/
structure Bnd (s : SS) (m k r : Nat) : Prop where
  pl : s.pl.length = m
  inr : InR s
  act : s.act.length ≤ k
  sp : s.sp.length + s.act.length ≤ r + k
  sl : s.sl ≤ k
theorem Bnd.init (n r : Nat) : Bnd (SS.init n r) n 0 r := ⟨by simp [SS.init], fun y hy => by simp [SS.init] at hy, by simp [SS.init], by simp [SS.init], by simp [SS.init]⟩
theorem Bnd.free {s m k r} (h : Bnd s m k r) (F : Int) : Bnd (s.free F) m k r := by
  obtain ⟨h1, h2, h3⟩ := fre_len F s.pl s.act s.sp
  exact ⟨h.pl, fun y hy => h.inr y (h3 y hy), Nat.le_trans h1 h.act, by have := h.sp; show _ + _ ≤ _; simp only [SS.free]; omega, h.sl⟩
theorem Bnd.take {s m k r} (h : Bnd s m k r) {x : Iv} (hx : 0 ≤ x.1 ∧ x.1 < (m : Int)) : Bnd (s.take x) m (k + 1) r := by
  have hp := h.pl
  have hin : ∀ y ∈ wth (aft x) x s.act, 0 ≤ y.1 ∧ y.1 < (m : Int) := fun y hy => by
    rcases wth_mem.1 hy with rfl | hy
    · exact hx
    · have := h.inr y hy; omega
  have hl := wth_len (aft x) x s.act
  have ha := h.act
  have hsp := h.sp
  have hsl := h.sl
  unfold SS.take
  split
  · next r' sp' e =>
    rw [e] at hsp
    simp at hsp
    exact ⟨by simp [hp], fun y hy => by have := hin y hy; simp only [List.length_set, hp]; exact this, by simp only; omega, by simp only; omega, by simp only; omega⟩
  · next e =>
    rw [e] at hsp
    simp at hsp
    exact ⟨by simp [hp], fun y hy => by have := hin y ((List.dropLast_sublist _).mem hy); simp only [List.length_set, hp]; exact this, by simp only [List.length_dropLast]; omega, by simp only [List.length_dropLast, List.length_nil]; omega, by simp only; omega⟩
theorem Bnd.scan {L : List Iv} {m r : Nat} (h : ∀ x ∈ L, 0 ≤ x.1 ∧ x.1 < (m : Int)) (k : Nat) (hk : k ≤ L.length) : Bnd (scnN (L.take k) r m) m k r := by
  induction k with
  | zero => exact Bnd.init m r
  | succ k ih =>
    have hk' : k < L.length := by omega
    have := ih (by omega)
    unfold scnN at this ⊢
    rw [← List.take_append_getElem hk', List.foldl_append]
    exact (this.free _).take (h _ (List.getElem_mem hk'))
theorem scnN_step {L : List Iv} {m r k : Nat} (hk : k < L.length) : scnN (L.take (k + 1)) r m = ((scnN (L.take k) r m).free L[k].2.1).take L[k] := by
  unfold scnN
  rw [← List.take_append_getElem hk, List.foldl_append]
  rfl
/-- What Scan answers. -/
def gdB (L : List Iv) : Bool := fmP L && rsP L && !twP L
structure ScAns (w w' : World) (L : List Iv) (regs : Int) (v : Value) (n : Int) (e : Int) : Prop where
  bel : Below w.heap.size w w'
  bad : (regs < 1 ∨ 8 < regs) → v = .slice none 0 0 ∧ n = 0 ∧ e = 180
  wrong : ¬ (regs < 1 ∨ 8 < regs) → gdB L = false → v = .slice none 0 0 ∧ n = 0 ∧ e = 181
  good : ¬ (regs < 1 ∨ 8 < regs) → gdB L = true → Row w' w.heap.size 37 2 v ((scn L regs.toNat).pl.map lc) ∧ n = ((scn L regs.toNat).sl : Int) ∧ e = 0
set_option maxRecDepth 100000 in
set_option maxHeartbeats 4000000 in
theorem scan_any (w : World) (ao : Option Addr) (n c : Nat) (L : List Iv) (hn : n = L.length) (h : Ivs w ao c L) (regs : Int) (hl : n ≤ 90000000) : Calls Try.prog 11 #[.slice ao n c, .int .i64 regs] w fun e w' => ∃ v m x, e = .returned (.tuple #[v, .int .i64 m, .int .i64 x]) ∧ ScAns w w' L regs v m x := by
  have HN : Hid (n = L.length) := hn
  have hnc : n ≤ c := by have := h.le; omega
  have hcm : c ≤ 9223372036854775807 := h.mx
  have HH : Hid (Ivs w ao c L) := h
  by_cases hr : regs < 1 ∨ 8 < regs
  · have HR : Hid (regs < 1 ∨ 8 < regs) := hr
    clear h hn
    rcases hr with hr | hr
    · go_enter Try.func11, Try.ntmps11
      go_wp2_with fail
      refine bodyPost_ret (v := .tuple #[.slice none 0 0, .int .i64 0, .int .i64 180]) (by simp [results, Try.results11, go_sem]) rfl ?_
      exact ⟨_, _, _, rfl, Below.refl _ _, fun _ => ⟨rfl, rfl, rfl⟩, fun q => absurd HR.out q, fun q => absurd HR.out q⟩
    · have hr2 : ¬ regs < 1 := by omega
      go_enter Try.func11, Try.ntmps11
      go_wp2_with fail
      refine bodyPost_ret (v := .tuple #[.slice none 0 0, .int .i64 0, .int .i64 180]) (by simp [results, Try.results11, go_sem]) rfl ?_
      exact ⟨_, _, _, rfl, Below.refl _ _, fun _ => ⟨rfl, rfl, rfl⟩, fun q => absurd HR.out q, fun q => absurd HR.out q⟩
  have HR : Hid (¬ (regs < 1 ∨ 8 < regs)) := hr
  obtain ⟨r, hrr⟩ : ∃ r : Nat, regs = (r : Int) := ⟨regs.toNat, by omega⟩
  subst hrr
  have hr1 : 1 ≤ r := by omega
  have hr8 : r ≤ 8 := by omega
  have ri1 : decide ((r : Int) < 1) = false := by simp; omega
  have ri8 : decide ((8 : Int) < (r : Int)) = false := by simp; omega
  have HFM : Hid (∀ W, Below w.heap.size w W → Calls Try.prog 19 #[.slice ao n c] W fun e w' => e = .returned (.bool (fmP L)) ∧ Below W.heap.size W w') := fun W hW => formed_any W ao n c L hn (h.below hW (Nat.le_refl _))
  have HRS : Hid (∀ W, Below w.heap.size w W → Calls Try.prog 20 #[.slice ao n c] W fun e w' => e = .returned (.bool (rsP L)) ∧ Below W.heap.size W w') := fun W hW => rising_any W ao n c L hn (h.below hW (Nat.le_refl _))
  have HTW : Hid (fmP L = true → ∀ W, Below w.heap.size w W → Calls Try.prog 21 #[.slice ao n c] W fun e w' => e = .returned (.bool (twP L)) ∧ Below W.heap.size W w') := fun q W hW => twice_any W ao n c L hn (h.below hW (Nat.le_refl _)) q
  have HGR : Hid (∀ W, Below w.heap.size w W → Calls Try.prog 23 #[.slice ao n c] W fun e w' => e = .returned (.int .i64 (grt L)) ∧ Below W.heap.size W w') := fun W hW => greatest_any W ao n c L hn (h.below hW (Nat.le_refl _))
  have HW2 : Hid (∀ w', Below w.heap.size w w' → gdB L = false → ∃ v m x, Ending.returned (.tuple #[.slice none 0 0, .int .i64 0, .int .i64 181]) = .returned (.tuple #[v, .int .i64 m, .int .i64 x]) ∧ ScAns w w' L (r : Int) v m x) := fun w' hb hg => ⟨_, _, _, rfl, hb, fun q => absurd q HR.out, fun _ _ => ⟨rfl, rfl, rfl⟩, fun _ q => by rw [hg] at q; cases q⟩
  clear h hn hr
  cases hf : fmP L with
  | false =>
    rw [hf] at HFM
    have HG : Hid (gdB L = false) := by show gdB L = false; simp [gdB, hf]
    clear hf HRS HTW HGR
    go_enter Try.func11, Try.ntmps11
    go_wp2_with (go_at_call 19; refine Calls.mono (HFM.out _ (Below.refl _ _)) ?_; rintro e w1 ⟨rfl, hb1⟩; have HB1 : Hid (Below w.heap.size w w1) := hb1; clear hb1)
    refine bodyPost_ret (v := .tuple #[.slice none 0 0, .int .i64 0, .int .i64 181]) (by simp [results, Try.results11, go_sem]) rfl ?_
    exact HW2.out _ HB1.out HG.out
  | true =>
    rw [hf] at HFM
    have HTW2 : Hid (∀ W, Below w.heap.size w W → Calls Try.prog 21 #[.slice ao n c] W fun e w' => e = .returned (.bool (twP L)) ∧ Below W.heap.size W w') := HTW.out hf
    clear HTW
    cases hs : rsP L with
    | false =>
      rw [hs] at HRS
      have HG : Hid (gdB L = false) := by show gdB L = false; simp [gdB, hs]
      clear hf hs HTW2 HGR
      go_enter Try.func11, Try.ntmps11
      go_wp2_with (first
        | (go_at_call 20; refine Calls.mono (HRS.out w1 HB1.out) ?_; rintro e w2 ⟨rfl, hb2⟩; have HB2 : Hid (Below w.heap.size w w2) := HB1.out.trans (hb2.mono HB1.out.size); clear hb2)
        | (go_at_call 19; refine Calls.mono (HFM.out _ (Below.refl _ _)) ?_; rintro e w1 ⟨rfl, hb1⟩; have HB1 : Hid (Below w.heap.size w w1) := hb1; clear hb1))
      refine bodyPost_ret (v := .tuple #[.slice none 0 0, .int .i64 0, .int .i64 181]) (by simp [results, Try.results11, go_sem]) rfl ?_
      exact HW2.out _ HB2.out HG.out
    | true =>
      rw [hs] at HRS
      cases ht : twP L with
      | true =>
        rw [ht] at HTW2
        have HG : Hid (gdB L = false) := by show gdB L = false; simp [gdB, ht]
        clear hf hs ht HGR
        go_enter Try.func11, Try.ntmps11
        go_wp2_with (first
          | (go_at_call 21; refine Calls.mono (HTW2.out w2 HB2.out) ?_; rintro e w3 ⟨rfl, hb3⟩; have HB3 : Hid (Below w.heap.size w w3) := HB2.out.trans (hb3.mono HB2.out.size); clear hb3)
          | (go_at_call 20; refine Calls.mono (HRS.out w1 HB1.out) ?_; rintro e w2 ⟨rfl, hb2⟩; have HB2 : Hid (Below w.heap.size w w2) := HB1.out.trans (hb2.mono HB1.out.size); clear hb2)
          | (go_at_call 19; refine Calls.mono (HFM.out _ (Below.refl _ _)) ?_; rintro e w1 ⟨rfl, hb1⟩; have HB1 : Hid (Below w.heap.size w w1) := hb1; clear hb1))
        refine bodyPost_ret (v := .tuple #[.slice none 0 0, .int .i64 0, .int .i64 181]) (by simp [results, Try.results11, go_sem]) rfl ?_
        exact HW2.out _ HB3.out HG.out
      | false =>
        rw [ht] at HTW2
        obtain ⟨m, hm⟩ : ∃ m : Nat, grt L = (m : Int) - 1 := ⟨(grt L + 1).toNat, by have := grt_ge L; omega⟩
        have hml : m ≤ 262144 := by have := grt_lt fun x hx => (fm_reg hf x hx).2.1; omega
        have HG : Hid (gdB L = true) := by show gdB L = true; simp [gdB, hf, hs, ht]
        have HIN : Hid (∀ x ∈ L, 0 ≤ x.1 ∧ x.1 < (m : Int)) := fun x hx => ⟨(fm_reg hf x hx).1, by have := grt_mem hx; omega⟩
        have HMM : Hid (scn L r = scnN L r m) := by show scn L r = _; unfold scn; rw [hm]; congr 1; omega
        rw [hm] at HGR
        clear hf hs ht hm HW2
        go_enter Try.func11, Try.ntmps11
        go_wp2_with (first
          | (go_at_call 22; refine Calls.mono (allocationFor_any w4 m r (by omega) hr8) ?_; rintro e w5 ⟨ab, av, sv, pv, rfl, hA, hb5⟩; have HA5 : Hid (AL w5 w4.heap.size ab av sv pv (SS.init m r)) := hA; have HB5 : Hid (Below w.heap.size w w5) := HB4.out.trans (hb5.mono HB4.out.size); have HS5 : Hid (w4.heap.size ≤ w5.heap.size) := hb5.size; clear hb5 hA)
          | (go_at_call 23; refine Calls.mono (HGR.out w3 HB3.out) ?_; rintro e w4 ⟨rfl, hb4⟩; have HB4 : Hid (Below w.heap.size w w4) := HB3.out.trans (hb4.mono HB3.out.size); clear hb4)
          | (go_at_call 21; refine Calls.mono (HTW2.out w2 HB2.out) ?_; rintro e w3 ⟨rfl, hb3⟩; have HB3 : Hid (Below w.heap.size w w3) := HB2.out.trans (hb3.mono HB2.out.size); clear hb3)
          | (go_at_call 20; refine Calls.mono (HRS.out w1 HB1.out) ?_; rintro e w2 ⟨rfl, hb2⟩; have HB2 : Hid (Below w.heap.size w w2) := HB1.out.trans (hb2.mono HB1.out.size); clear hb2)
          | (go_at_call 19; refine Calls.mono (HFM.out _ (Below.refl _ _)) ?_; rintro e w1 ⟨rfl, hb1⟩; have HB1 : Hid (Below w.heap.size w w1) := hb1; clear hb1))
        have HBX : Hid (w.heap.size ≤ w4.heap.size) := HB4.out.size
        generalize w4.heap.size = B at HA5 HS5 HBX
        clear HFM HRS HTW2 HGR HB1 HB2 HB3 HB4 ri1 ri8
        go_loopw [35] (fun v wr => ∃ (k : Nat) (av sv : Value), k ≤ n ∧ v = .int .i64 k ∧ Hid (AL wr B ab av sv pv (scnN (L.take k) r m)) ∧ Hid (Below w.heap.size w wr)) (fun v _ => n - (intOf v).toNat)
        case atStart => exact ⟨0, av, sv, by omega, rfl, HA5.out, HB5.out⟩
        case round =>
          clear HA5 HB5
          obtain ⟨k, av, sv, hk, rfl, HA, HB⟩ := hrel
          obtain ⟨wq, rfl⟩ : ∃ wq, wq = wr := ⟨_, rfl⟩
          by_cases hlt : k < n
          · have hk2 : k < L.length := by have := HN.out; omega
            obtain ⟨b, o, rfl, hbw, c0, c1, c2⟩ := (HH.out.below HB.out (Nat.le_refl _)).at hk2
            have HX : Hid (0 ≤ L[k].1 ∧ L[k].1 < (m : Int)) := HIN.out L[k] (List.getElem_mem hk2)
            have HBD : Hid (Bnd (scnN (L.take k) r m) m k r) := Bnd.scan HIN.out k (by omega)
            have HST : Hid (scnN (L.take (k + 1)) r m = ((scnN (L.take k) r m).free L[k].2.1).take L[k]) := scnN_step hk2
            generalize L[k] = y at c0 c1 c2 HX HST
            obtain ⟨s, hs⟩ : ∃ s, s = scnN (L.take k) r m := ⟨_, rfl⟩
            rw [← hs] at HA HBD HST
            clear hs hk2
            obtain ⟨wz, hwz⟩ : ∃ wz, wz = wq.alloc (.cells #[.int .i64 y.1, .int .i64 y.2.1, .int .i64 y.2.2] 35) := ⟨_, rfl⟩
            have hb1 : Below wq.heap.size wq wz := by rw [hwz]; exact (Below.refl _ _).alloc (Nat.le_refl _) _
            have HA1 : Hid (AL wz B ab av sv pv s) := HA.out.keep hb1
            have HB1 : Hid (Below w.heap.size w wz) := HB.out.trans (hb1.mono HB.out.size)
            have HX1 : Hid (BxV wz wq.heap.size y) := by rw [hwz]; exact ⟨heap_alloc_new wq _⟩
            have HBB : Hid (B ≤ wz.heap.size) := by have := HA1.out.lo; have := HA1.out.lt; show B ≤ _; omega
            have HXL : Hid (wq.heap.size < w.heap.size → False) := fun q => by have := HB.out.size; omega
            have HXB : Hid (B ≤ wq.heap.size) := by have := HA.out.lo; have := HA.out.lt; show B ≤ _; omega
            have HFR : Hid (Calls Try.prog 24 #[.pointer (some ⟨ab, 0, none⟩), .int .i64 y.2.1] wz fun e w' => e = .returned (.tuple #[]) ∧ ∃ av' sv', AL w' B ab av' sv' pv (s.free y.2.1) ∧ Below B wz w' ∧ Fr wz w' ab av sv av' sv') := free_any wz B ab av sv pv s HA1.out HBD.out.inr y.2.1 HBB.out (by have := HBD.out.act; omega) (by have := HBD.out.sp; omega) (by have := HBD.out.pl; omega)
            have HNX : Hid (∀ w', Fr wz w' ab av sv av sv ∨ (∃ av' sv', Fr wz w' ab av sv av' sv') → BxV w' wq.heap.size y) := fun w' q => by
              have key : ∀ av' sv', Fr wz w' ab av sv av' sv' → BxV w' wq.heap.size y := fun av' sv' q => ⟨by
                rw [q.blk wq.heap.size HX1.out.lt (fun e => by have := HA.out.lt; omega) (fun e => by have := (own_block HA.out.ra.out e).2; omega) (fun e => by have := (own_block HA.out.rs.out e).2; omega)]
                exact HX1.out.out⟩
              rcases q with q | ⟨_, _, q⟩
              · exact key _ _ q
              · exact key _ _ q
            have HTK : Hid (∀ w' av' sv', AL w' B ab av' sv' pv (s.free y.2.1) → Calls Try.prog 25 #[.pointer (some ⟨ab, 0, none⟩), .agg #[.int .i64 y.1, .int .i64 y.2.1, .int .i64 y.2.2]] w' fun e w'' => e = .returned (.tuple #[]) ∧ TkP w' w'' B ab pv ((s.free y.2.1).take y)) := fun w' av' sv' q => by
              have hbd := HBD.out.free y.2.1
              exact take_any w' B ab av' sv' pv (s.free y.2.1) q y (by have := hbd.pl; have := HX.out; omega) hbd.inr (by have := q.lo; have := q.lt; omega) (by have := hbd.act; omega) (by have := hbd.sp; omega) (by have := hbd.pl; omega) (by have := hbd.sl; omega)
            have hx1 := HX1.out.lt
            obtain ⟨d0, d1, d2⟩ := HX1.out.cells
            have HWZ : Hid (wz = wq.alloc (.cells #[.int .i64 y.1, .int .i64 y.2.1, .int .i64 y.2.2] 35)) := hwz
            clear hwz hb1
            go_wp2_with (first
              | (go_at_call 25; refine Calls.mono (HTK.out w7 _ _ HA7.out) ?_; rintro e w8 ⟨rfl, t8⟩; have HT8 : Hid (TkP w7 w8 B ab pv ((s.free y.2.1).take y)) := t8; clear t8)
              | (go_at_call 24; rw [← HWZ.out]; refine Calls.mono HFR.out ?_; rintro e w7 ⟨rfl, av7, sv7, hA7, hb7, hf7⟩; have HA7 : Hid (AL w7 B ab av7 sv7 pv (s.free y.2.1)) := hA7; have HB7 : Hid (Below w.heap.size w w7) := HB1.out.trans (hb7.mono HBX.out); have bx7 := HNX.out w7 (.inr ⟨_, _, hf7⟩); obtain ⟨e0, e1, e2⟩ := bx7.cells; have l7 := bx7.lt; clear hA7 hb7 hf7 bx7))
            go_roundw
            case rel =>
              obtain ⟨av8, sv8, hA8, hb8⟩ := HT8.out.out
              exact ⟨k + 1, av8, sv8, by omega, by go_num, by rw [HST.out]; exact hA8, HB7.out.trans (hb8.mono HBX.out)⟩
            case measure => simp [intOf]; omega
          · obtain rfl : k = n := by omega
            have HE : Hid (scnN (L.take k) r m = scn L r) := by
              show _ = _
              rw [HMM.out, List.take_of_length_le (by have := HN.out; omega)]
            rw [HE.out] at HA
            obtain ⟨c0, c1, c2, c3⟩ := HA.out.cells
            have hl9 := HA.out.lt
            obtain ⟨po, pn, pk, rfl, hpn, _, _⟩ := row_sl HA.out.rp
            clear hpn
            go_wp2_with fail
            go_quiet (fail)
            go_wp2_with fail
            refine bodyPost_ret (v := .tuple #[.slice po pn pk, .int .i64 ((scn L r).sl : Int), .int .i64 0]) (by simp [results, Try.results11, go_sem]) rfl ?_
            have hbd := below_dn (Below.refl wq.heap.size wq) nq
            refine ⟨_, _, _, rfl, HB.out.trans (hbd.mono HB.out.size), fun q => absurd q HR.out, fun _ q => absurd q (by rw [HG.out]; decide), fun _ _ => ⟨?_, by rw [Int.toNat_natCast], rfl⟩⟩
            rw [Int.toNat_natCast]
            exact row_base (HA.out.rp.keep hbd) HBX.out
end Go.Proofs.Ytpgbkkllnbahpaa
