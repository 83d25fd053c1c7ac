import Derived.Test.YtpgbkkllnbahpaaScN
set_option linter.unusedVariables false
set_option linter.unusedSimpArgs false
namespace Go.Proofs.Ytpgbkkllnbahpaa
open Go.ChangeShapes Go.WideShapes Go.ChangeAt Go.RowKit Go.Maps

def rch (n : Nat) (bl : List Int) : List Bool := (List.range n).map fun i : Nat => decide ((i : Int) ∈ bl)
theorem rch_len (n : Nat) (bl : List Int) : (rch n bl).length = n := by simp [rch]
theorem rch_nil (n : Nat) : rch n [] = List.replicate n false := by
  refine List.ext_getElem (by simp [rch]) fun i h1 h2 => ?_
  simp [rch]
theorem rch_set (n : Nat) (bl : List Int) (b : Nat) : (rch n bl).set b true = rch n (bl ++ [(b : Int)]) := by
  refine List.ext_getElem (by simp [rch]) fun i h1 h2 => ?_
  rw [List.getElem_set]
  simp only [rch, List.getElem_map, List.getElem_range, List.mem_append, List.mem_singleton]
  by_cases e : b = i
  · subst e; simp
  · rw [if_neg e]
    have : ¬ ((i : Int) = b) := by omega
    simp [this]
def MR (w : World) (gm n : Nat) (ml : List Int) : Prop := w.heap[gm]? = some (.cells ((rch n ml).map Value.bool).toArray 4 (0, 0))
theorem MR.set {w : World} {gm n b : Nat} {ml : List Int} (h : MR w gm n ml) : MR (w.setCell ⟨gm, b, none⟩ (.bool true)) gm n (ml ++ [(b : Int)]) := by
  have := heap_set_at (i := b) (v := .bool true) h
  unfold MR
  rw [this, ← rch_set]
  simp [List.map_set]
theorem MR.cell {w : World} {gm n b : Nat} {ml : List Int} (h : MR w gm n ml) (hb : b < n) : w.cell? ⟨gm, b, none⟩ = some (.bool (decide ((b : Int) ∈ ml))) := by
  refine cell_arr h ?_
  simp [rch, hb]
/-- In whatever order a region goes on: the condition holds behind each operation but number z, which waits for all others. -/
theorem BxV.alloc {w : World} {xb x} (h : BxV w xb x) (ob : Obj) : BxV (w.alloc ob) xb x := h.keep ((Below.refl _ _).alloc (Nat.le_refl _) _)
set_option maxRecDepth 100000 in
set_option maxHeartbeats 2000000 in
theorem rising_any (w : World) (ao : Option Addr) (n c : Nat) (L : List Iv) (hn : n = L.length) (h : Ivs w ao c L) : Calls Try.prog 20 #[.slice ao n c] w fun e w' => e = .returned (.bool (rsP L)) ∧ Below w.heap.size w w' := by
  have HN : Hid (n = L.length) := hn
  have hnc : n ≤ c := by have := h.le; omega
  have hcm : c ≤ 9223372036854775807 := h.mx
  have HH : Hid (Ivs w ao c L) := h
  clear h hn
  go_enter Try.func20, Try.ntmps20
  go_wp2_with fail
  go_loopw [3] (fun v wr => ∃ k : Nat, k ≤ n ∧ v = .int .i64 ((k : Int) + 1) ∧ Hid (∀ i (h : i + 1 < L.length), i < k → upI L[i] L[i + 1] = true) ∧ Hid (Below w.heap.size w wr)) (fun v _ => n + 1 - (intOf v).toNat)
  case atStart => exact ⟨0, by omega, by rfl, fun i _ h => by omega, Below.refl _ _⟩
  case round =>
    obtain ⟨k, hk, rfl, HE, HB⟩ := hrel
    obtain ⟨wq, rfl⟩ : ∃ wq, wq = wr := ⟨_, rfl⟩
    by_cases hlt : k + 1 < n
    · have hk2 : k + 1 < L.length := by have := HN.out; omega
      obtain ⟨b, o, rfl, hbw, c0, c1, c2⟩ := (HH.out.below HB.out (Nat.le_refl _)).at (i := k) (by omega)
      obtain ⟨_, _, e, _, d0, d1, d2⟩ := (HH.out.below HB.out (Nat.le_refl _)).at hk2
      cases e
      have HF : Hid (upI L[k] L[k + 1] = false → rsP L = false) := fun q => rsP_not hk2 q
      have HT : Hid (upI L[k] L[k + 1] = true → ∀ i (h : i + 1 < L.length), i < k + 1 → upI L[i] L[i + 1] = true) := fun q i h1 h2 => by
        rcases Nat.lt_succ_iff_lt_or_eq.1 h2 with q' | rfl
        · exact HE.out i h1 q'
        · exact q
      clear HE
      generalize L[k] = y at c0 c1 c2 HF HT
      generalize L[k + 1] = z at d0 d1 d2 HF HT
      obtain ⟨y0, y1, y2⟩ := y
      obtain ⟨z0, z1, z2⟩ := z
      simp only at c0 c1 c2 d0 d1 d2
      clear hk2
      have hlt2 : (k : Int) + 1 < (n : Int) := by omega
      have hk1 : ((k : Int) + 1).toNat = k + 1 := by omega
      have hk0 : (k : Int) < (n : Int) := by omega
      have hb1 : (0 : Int) ≤ (k : Int) + 1 := by omega
      have hsz := HB.out.size
      by_cases h1 : y1 < z1
      · have t1 : decide (z1 < y1) = false := by simp; omega
        have t2 : (z1 == y1) = false := by simp; omega
        have HE2 := show Hid _ from HT.out (by simp [upI, h1])
        clear HT HF
        go_wp2_with fail
        go_region
        all_goals
          go_wp2_with fail
          go_roundw
          case rel => exact ⟨k + 1, by omega, by first | rfl | go_num, HE2.out, (by repeat (first | refine Below.alloc ?_ (by first | omega | (simp; done) | (simp; omega)) _ | refine Below.drew ?_ | exact HB.out))⟩
          case measure => simp [intOf]; omega
      · by_cases h2 : y1 = z1
        · subst h2
          by_cases h3 : y0 < z0
          · have t3 : decide (z0 ≤ y0) = false := by simp; omega
            have HE2 := show Hid _ from HT.out (by simp [upI, h3])
            clear HT HF
            go_wp2_with fail
            go_region
            all_goals
              go_wp2_with fail
              go_roundw
              case rel => exact ⟨k + 1, by omega, by first | rfl | go_num, HE2.out, (by repeat (first | refine Below.alloc ?_ (by first | omega | (simp; done) | (simp; omega)) _ | refine Below.drew ?_ | exact HB.out))⟩
              case measure => simp [intOf]; omega
          · have t3 : z0 ≤ y0 := by omega
            have HA := show Hid _ from HF.out (by simp [upI, h3])
            clear HT HF
            go_wp2_with fail
            go_region
            all_goals
              go_wp2_with fail
              go_ret
              exact ⟨by first | (rw [HA.out]; done) | (rw [HA.out]; rfl), (by repeat (first | refine Below.alloc ?_ (by first | omega | (simp; done) | (simp; omega)) _ | refine Below.drew ?_ | exact HB.out))⟩
        · have t3 : z1 < y1 := by omega
          have HA := show Hid _ from HF.out (by simp [upI, h1, h2])
          clear HT HF
          go_wp2_with fail
          go_region
          all_goals
            go_wp2_with fail
            go_ret
            exact ⟨by first | (rw [HA.out]; done) | (rw [HA.out]; rfl), (by repeat (first | refine Below.alloc ?_ (by first | omega | (simp; done) | (simp; omega)) _ | refine Below.drew ?_ | exact HB.out))⟩
    · have HA : Hid (rsP L = true) := rsP_of fun i hi => HE.out i hi (by have := HN.out; omega)
      have hlt2 : ¬ ((k : Int) + 1 < (n : Int)) := by omega
      go_wp2_with fail
      go_ret
      exact ⟨by first | (rw [HA.out]; done) | (rw [HA.out]; rfl), HB.out⟩
def twP (L : List Iv) : Bool := !decide ((L.map (·.1)).Nodup)
theorem nodup_take {L : List Iv} {k : Nat} (h : k < L.length) (hd : ((L.take k).map (·.1)).Nodup) (hn : L[k].1 ∉ (L.take k).map (·.1)) : ((L.take (k + 1)).map (·.1)).Nodup := by
  rw [← List.take_append_getElem h, List.map_append]
  refine List.nodup_append.2 ⟨hd, by simp, fun a ha b hb => ?_⟩
  simp at hb
  subst hb
  intro e
  exact hn (e ▸ ha)
theorem not_nodup {L : List Iv} {k : Nat} (h : k < L.length) (hm : L[k].1 ∈ (L.take k).map (·.1)) : ¬ (L.map (·.1)).Nodup := by
  intro hd
  have e : L.map (·.1) = (L.take k).map (·.1) ++ (L.drop k).map (·.1) := by rw [← List.map_append, List.take_append_drop]
  rw [e] at hd
  have := (List.nodup_append.1 hd).2.2 _ hm L[k].1 (List.mem_map.2 ⟨L[k], by rw [List.drop_eq_getElem_cons h]; exact List.mem_cons_self, rfl⟩)
  exact this rfl
theorem grt_mem {L : List Iv} {x : Iv} (h : x ∈ L) : x.1 ≤ grt L := by
  have key : ∀ (l : List Iv) (m : Int), m ≤ l.foldl (fun m x => max m x.1) m ∧ ∀ x ∈ l, x.1 ≤ l.foldl (fun m x => max m x.1) m := by
    intro l
    induction l with
    | nil => intro m; exact ⟨Int.le_refl _, by simp⟩
    | cons a l ih =>
      intro m
      obtain ⟨h1, h2⟩ := ih (max m a.1)
      refine ⟨by simp only [List.foldl_cons]; omega, fun x hx => ?_⟩
      rcases List.mem_cons.1 hx with rfl | hx
      · simp only [List.foldl_cons]; omega
      · simp only [List.foldl_cons]; exact h2 x hx
  exact (key L (-1)).2 x h
theorem grt_ge (L : List Iv) : -1 ≤ grt L := by
  have key : ∀ (l : List Iv) (m : Int), m ≤ l.foldl (fun m x => max m x.1) m := by
    intro l
    induction l with
    | nil => intro m; exact Int.le_refl _
    | cons a l ih => intro m; have := ih (max m a.1); simp only [List.foldl_cons]; omega
  exact key L (-1)
theorem grt_lt {L : List Iv} (h : ∀ x ∈ L, x.1 < 262144) : grt L < 262144 := by
  have key : ∀ (l : List Iv) (m : Int), m < 262144 → (∀ x ∈ l, x.1 < 262144) → l.foldl (fun m x => max m x.1) m < 262144 := by
    intro l
    induction l with
    | nil => intro m hm _; exact hm
    | cons a l ih => intro m hm hl; simp only [List.foldl_cons]; exact ih _ (by have := hl a (by simp); omega) fun x hx => hl x (by simp [hx])
  exact key L (-1) (by omega) h
theorem fm_reg {L : List Iv} (h : fmP L = true) : ∀ x ∈ L, 0 ≤ x.1 ∧ x.1 < 262144 ∧ x.2.1 ≤ x.2.2 := fun x hx => by
  have := List.all_eq_true.1 h x hx
  simp [okI] at this
  exact ⟨this.1.1, this.1.2, this.2⟩
set_option maxRecDepth 100000 in
set_option maxHeartbeats 2000000 in
theorem twice_any (w : World) (ao : Option Addr) (n c : Nat) (L : List Iv) (hn : n = L.length) (h : Ivs w ao c L) (hf : fmP L = true) : Calls Try.prog 21 #[.slice ao n c] w fun e w' => e = .returned (.bool (twP L)) ∧ Below w.heap.size w w' := by
  have HN : Hid (n = L.length) := hn
  have hnc : n ≤ c := by have := h.le; omega
  have hcm : c ≤ 9223372036854775807 := h.mx
  have HH : Hid (Ivs w ao c L) := h
  have HG : Hid (Calls Try.prog 23 #[.slice ao n c] w fun e w' => e = .returned (.int .i64 (grt L)) ∧ Below w.heap.size w w') := greatest_any w ao n c L hn h
  obtain ⟨m, hm⟩ : ∃ m : Nat, grt L = (m : Int) - 1 := ⟨(grt L + 1).toNat, by have := grt_ge L; omega⟩
  have hml : m ≤ 262144 := by have := grt_lt fun x hx => (fm_reg hf x hx).2.1; omega
  have HM : Hid (grt L = (m : Int) - 1) := hm
  have HF : Hid (fmP L = true) := hf
  rw [hm] at HG
  clear h hn hf hm
  have hmk := run_make_row' (P := Try.prog) 55 4 (.bool false) 1 Try.underlying55 infoBool rfl .i64 .i64 m (by omega) (by omega)
  go_enter Try.func21, Try.ntmps21
  go_wp2_with (go_at_call 23; refine Calls.mono HG.out ?_; rintro e w1 ⟨rfl, hb1⟩; have HB1 : Hid (Below w.heap.size w w1) := hb1; clear hb1)
  obtain ⟨w2, hw2⟩ : ∃ w2, w2 = w1.alloc (.cells (madeCells #[.bool false] m) 4) := ⟨_, rfl⟩
  rw [← hw2]
  have HO : Hid (OwnBl w2 w.heap.size (.slice (some ⟨w1.heap.size, 0, none⟩) m m) m (rch m [])) := ⟨by simp [rch], by rw [hw2, rch_nil]; simpa using made_own w1 w.heap.size HB1.out.size (.bool false) 4 m (by omega)⟩
  have HB2 : Hid (Below w.heap.size w w2) := by rw [hw2]; exact HB1.out.alloc HB1.out.size _
  have HSB : Hid (w.heap.size ≤ w1.heap.size) := HB1.out.size
  generalize w1.heap.size = gb at HO HSB ⊢
  clear hw2 HB1 HG hmk
  go_wp2_with fail
  go_loopw [12] (fun v wr => ∃ k : Nat, k ≤ n ∧ v = .int .i64 k ∧ Hid (((L.take k).map (·.1)).Nodup) ∧ Hid (OwnBl wr w.heap.size (.slice (some ⟨gb, 0, none⟩) m m) m (rch m ((L.take k).map (·.1)))) ∧ Hid (Below w.heap.size w wr)) (fun v _ => n - (intOf v).toNat)
  case atStart => exact ⟨0, by omega, rfl, by simp [Hid], HO.out, HB2.out⟩
  case round =>
    obtain ⟨k, hk, rfl, HE, HO, HB⟩ := hrel
    obtain ⟨wq, rfl⟩ : ∃ wq, wq = wr := ⟨_, rfl⟩
    by_cases hlt : k < n
    · have hk2 : k < L.length := by have := HN.out; omega
      obtain ⟨b, o, rfl, hbw, c0, c1, c2⟩ := (HH.out.below HB.out (Nat.le_refl _)).at hk2
      have hr := fm_reg HF.out L[k] (List.getElem_mem hk2)
      have hg := grt_mem (List.getElem_mem hk2)
      obtain ⟨q, hq⟩ : ∃ q : Nat, L[k].1 = (q : Int) := ⟨L[k].1.toNat, by omega⟩
      have hqm : q < m := by have := HM.out; omega
      have hqi : (q : Int) < (m : Int) := by omega
      have kc : wq.cell? ⟨gb, q, none⟩ = some (.bool (decide (L[k].1 ∈ (L.take k).map (·.1)))) := by
        have := own_cell HO.out.out q (by omega)
        rw [this, hq]
        simp [rch, hqm]
      have kf := own_fz HO.out.out q
      have hgl := (own_block HO.out.out (g := gb) rfl).2
      have HX : Hid (L[k].1 = (q : Int)) := hq
      obtain ⟨y1, y2, e1, e2⟩ : ∃ y1 y2 : Int, wq.cell? ⟨b, o + k * 3 + 1, none⟩ = some (.int .i64 y1) ∧ wq.cell? ⟨b, o + k * 3 + 2, none⟩ = some (.int .i64 y2) := ⟨_, _, c1, c2⟩
      clear c1 c2
      rw [hq] at c0
      have HBB : Hid (Below w.heap.size w (wq.alloc (.cells #[.int .i64 (q : Int), .int .i64 y1, .int .i64 y2] 35))) := HB.out.alloc HB.out.size _
      by_cases hmem : L[k].1 ∈ (L.take k).map (·.1)
      · rw [decide_eq_true hmem] at kc
        have HA : Hid (twP L = true) := by show twP L = true; unfold twP; simp only [decide_eq_false (not_nodup hk2 hmem)]; rfl
        clear hmem hq hr hg HX hk2
        go_wp2_with fail
        go_ret
        exact ⟨by first | (rw [HA.out]; done) | (rw [HA.out]; rfl), HBB.out⟩
      · rw [decide_eq_false hmem] at kc
        have HE2 : Hid (((L.take (k + 1)).map (·.1)).Nodup) := nodup_take hk2 HE.out hmem
        have HO2 : Hid (OwnBl ((wq.setCell ⟨gb, q, none⟩ (.bool true)).alloc (.cells #[.int .i64 (q : Int), .int .i64 y1, .int .i64 y2] 35)) w.heap.size (.slice (some ⟨gb, 0, none⟩) m m) m (rch m ((L.take (k + 1)).map (·.1)))) := by
          have := (HO.out.set q hqm true).keep ((Below.refl _ _).alloc (Nat.le_refl _) (.cells #[.int .i64 (q : Int), .int .i64 y1, .int .i64 y2] 35))
          rw [rch_set] at this
          rw [← List.take_append_getElem hk2, List.map_append]
          simp only [List.map_cons, List.map_nil, hq]
          exact this
        have HB3 : Hid (Below w.heap.size w ((wq.setCell ⟨gb, q, none⟩ (.bool true)).alloc (.cells #[.int .i64 (q : Int), .int .i64 y1, .int .i64 y2] 35))) := (HB.out.setCell (p := ⟨gb, q, none⟩) HSB.out _).alloc (by have := HB.out.size; simp [World.setCell]; omega) _
        clear hmem hq hr hg HX hk2
        go_wp2_with fail
        go_roundw
        case rel => exact ⟨k + 1, by omega, by go_num, HE2.out, HO2.out, HB3.out⟩
        case measure => simp [intOf]; omega
    · have HA : Hid (twP L = false) := by
        show twP L = false
        have := HE.out
        rw [List.take_of_length_le (by have := HN.out; omega)] at this
        unfold twP
        simp only [decide_eq_true this]
        rfl
      go_wp2_with fail
      go_ret
      exact ⟨by first | (rw [HA.out]; done) | (rw [HA.out]; rfl), HB.out⟩
end Go.Proofs.Ytpgbkkllnbahpaa
