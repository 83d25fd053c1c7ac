import Derived.Test.YtmddjfofedpggabDoorLxU
import Derived.Deep.RegionLaw
set_option linter.unusedVariables false
namespace Go.Proofs.YtmddjfofedpggabDoor
open Go.ChangeShapes Go.WideShapes Go.ChangeAt Go.RowKit

theorem strCells_bs2 (S : List UInt8) : Lib.strCells (bs S) = bvs S := by
  unfold Lib.strCells bvs bs
  simp

theorem step_append_bytes {w : World} {ops : Array Oper} {op : Oper} {a : Act} {K : Act → World → Prop} {Q : Exit → Act → World → Prop} {E : Prop} (hgd : op.guard = none) (s x : Operand)
    (ho : op.op = .call { callee := .builtin .append, args := #[s, x], argTypes := #[22, 22] })
    (B : Nat) (v : Value) (n : Nat) (M : List UInt8) (hs : a.eval s = v) (hown : OwnB w B v n M) (ao : Option Addr) (m cap : Nat) (X : List UInt8) (hx : a.eval x = .slice ao m cap) (hm : m = X.length) (hX : Txt w ao cap X) (hsome : ao ≠ none)
    (hl : n + m ≤ 100000000) (hB : B ≤ w.heap.size)
    (h : ∀ v' w', OwnB w' B v' (n + m) (M ++ X) → Below B w w' → K (a.put op.dst v') w') : if Region.wanted op (yielded ops a.tmps) = true then Oper.wp Tryd.prog op a w K Q else E := by
  have hw : Region.wanted op (yielded ops a.tmps) = true := by simp [Region.wanted, hgd]
  rw [if_pos hw]
  subst hm
  obtain ⟨i0, hi, hz0, hz1, hz2⟩ := info_parts info5
  cases ao with
  | none => exact absurd rfl hsome
  | some ad =>
    refine wp_append_own _ s x 22 ho B 5 i0 (.int .u8 0) 1 1 Tryd.underlying22 hi hz0 hz1 hz2 rfl (by decide) v n (bvs M) hs hown.out ad X.length cap (bvs X) hx (by rw [bvs_len]; omega) hX.news (bvs_one X) (by unfold maxLen; omega) (by omega) hB ?_
    intro v' w' h1 h2 _
    exact h v' w' ⟨by simp; exact hown.len, by rw [bvs_append]; exact h1⟩ ((Below.refl _ _).grown h2 hB (fun k hk => (own_block hown.out hk).1))

theorem step_append_str {w : World} {ops : Array Oper} {op : Oper} {a : Act} {K : Act → World → Prop} {Q : Exit → Act → World → Prop} {E : Prop} (hgd : op.guard = none) (s x : Operand)
    (ho : op.op = .call { callee := .builtin .append, args := #[s, x], argTypes := #[22, 9] })
    (B : Nat) (v : Value) (n : Nat) (M : List UInt8) (hs : a.eval s = v) (hown : OwnB w B v n M) (u : ByteArray) (X : List UInt8) (hx : a.eval x = .string u) (hu : u = bs X)
    (hl : n + X.length ≤ 100000000) (hB : B ≤ w.heap.size)
    (h : ∀ v' w', OwnB w' B v' (n + X.length) (M ++ X) → Below B w w' → K (a.put op.dst v') w') : if Region.wanted op (yielded ops a.tmps) = true then Oper.wp Tryd.prog op a w K Q else E := by
  have hw : Region.wanted op (yielded ops a.tmps) = true := by simp [Region.wanted, hgd]
  rw [if_pos hw]
  subst hu
  obtain ⟨i0, hi, hz0, hz1, hz2⟩ := info_parts info5
  obtain ⟨v', w', hrun, h1, h2, _⟩ := Lib.run_append_own_string (P := Tryd.prog) w B 22 9 op.type 5 i0 Tryd.underlying22 Tryd.underlying9 hi hz0 hz1 hz2 v n (bvs M) hown.out (bs X) (by rw [bs_size]; unfold maxLen; omega) (by rw [bs_size]; omega) hB
  unfold Oper.wp execOp
  simp only [ho, resolve, invoke, builtin, Sem.run_bind, Sem.run_pure, Result.andThen_ok, List.map_toArray, List.map_cons, List.map_nil, hs, hx, hrun]
  rw [bs_size, strCells_bs2] at h1
  exact h v' w' ⟨by simp; exact hown.len, by rw [bvs_append]; exact h1⟩ ((Below.refl _ _).grown h2 hB (fun k hk => (own_block hown.out hk).1))

theorem gap_at2 (w : World) (z : Int) : Calls Tryd.prog 7 #[.int .i64 z] w fun e w' => (∃ (g : List UInt8) (s : ByteArray), e = .returned (.string s) ∧ s = bs g ∧ Gap g ∧ g.length ≤ 16) ∧ Below w.heap.size w w' := by
  refine (gap_any w z).mono fun e w' h => ⟨?_, h.2⟩
  obtain ⟨i, hi, rfl⟩ := h.1
  exact ⟨_, _, rfl, rfl, gap_ok i hi, gaps_len i hi⟩

theorem lexBlanks_long (a : Option Addr) (len cap : Nat) (x y : Int) (h : 1048576 < len) (hl : len ≤ 9223372036854775807) (w : World) : Calls Tryd.prog 3 #[.slice a len cap, .int .i64 x, .int .i64 y] w fun e w' => e = .returned (.bool true) ∧ Below w.heap.size w w' := by
  go_enter Tryd.func3, Tryd.ntmps3
  go_wp2
  go_ret
  exact ⟨rfl, Below.refl _ _⟩

theorem Lexes.posLt {k l ts p e} (h : Lexes k l ts p e) : ∀ i (hi : i < ts.length), k ≤ ts[i].pos ∧ ts[i].pos < k + l.length := by
  induction h with
  | bad h => intro i hi; simp at hi
  | fin h => intro i hi; simp at hi
  | err h1 h2 h3 => intro i hi; simp at hi
  | @tok k l n t m ts p e h1 h2 h3 h4 ih =>
    intro i hi
    have hm := tk_ok h3
    have hlen : n + m ≤ l.length := by have := hm.2; simp at this; omega
    cases i with
    | zero => show k ≤ k + n ∧ k + n < k + l.length; omega
    | succ i =>
      have hi' : i < ts.length := by simpa using hi
      have := ih i hi'
      simp at this
      show k ≤ (ts[i]'hi').pos ∧ (ts[i]'hi').pos < k + l.length
      omega

/-- What comes back with the gap put in. -/
structure Ins (ts ms : List T) (ii d : Nat) : Prop where
  len : ms.length = ts.length
  lo : ∀ j (h : j < ts.length) (h' : j < ms.length), j < ii → ms[j] = ts[j]
  hi : ∀ j (h : j < ts.length) (h' : j < ms.length), ii ≤ j → ms[j] = shift d ts[j]
theorem ins_of (ts : List T) (ii d : Nat) (h : ii < ts.length) : Ins ts (ts.take ii ++ (ts.drop ii).map (shift d)) ii d := by
  refine ⟨by simp; omega, fun j h1 h2 h3 => ?_, fun j h1 h2 h3 => ?_⟩
  · rw [List.getElem_append_left (by simp; omega)]; simp
  · rw [List.getElem_append_right (by simp; omega)]
    simp only [List.getElem_map, List.getElem_drop]
    congr 2
    simp; omega

set_option maxRecDepth 10000 in
set_option maxHeartbeats 4000000 in
theorem lexBlanks_any (w : World) (hTab : Tab w) (ao : Option Addr) (cap n : Nat) (L : List UInt8) (hn : n = L.length) (hT : Txt w ao cap L) (hl : n ≤ 1048576) (wz zz : Int) (hwz : -9223372036854775808 ≤ wz ∧ wz ≤ 9223372036854775807) :
    Calls Tryd.prog 3 #[.slice ao n cap, .int .i64 wz, .int .i64 zz] w fun e w' => e = .returned (.bool true) ∧ Below w.heap.size w w' := by
  have HN : Hid (n = L.length) := hn
  clear hn
  have hc1 : n ≤ cap := by have := hT.1; have := HN.out; omega
  have hc2 := hT.2.1
  go_enter Tryd.func3, Tryd.ntmps3
  go_wp2_with fail
  refine (alive_any _ hTab).mono ?_
  rintro r w1 ⟨rfl, hb1⟩
  have hs1 := hb1.size
  go_wp2_with fail
  refine (tokens_at _ (hTab.below hb1 hTab.1) ao cap n L HN.out (hT.below hb1 (Nat.le_refl _)) (by omega)).mono ?_
  rintro r w2 ⟨ts, p, e, v, hL, rfl, hown, hb2⟩
  have hs2 := hb2.size
  have hb2w : Below w.heap.size w w2 := hb1.trans (hb2.mono hs1)
  obtain ⟨a1, c1, rfl, q1, q2, hv⟩ := hown.view
  by_cases hts : ts = []
  · subst hts
    have h0 : ([] : List T).length = 0 := rfl
    rw [h0]
    go_wp2_with fail
    go_ret
    exact ⟨rfl, hb2w⟩
  · obtain ⟨g1, rfl, hg1, k1⟩ := hv.out hts
    obtain ⟨tl, htl⟩ : ∃ tl, tl = ts.length := ⟨_, rfl⟩
    have htl0 : 0 < tl := by rw [htl]; exact List.length_pos_iff.2 hts
    rw [← htl] at q1 ⊢
    have HTL : Hid (tl = ts.length) := htl
    clear htl
    have hins : ∀ g, Gap g → ∀ i (hi : i < ts.length), 0 ≤ ts[i].pos ∧ ts[i].pos - 0 ≤ L.length ∧ Lexes 0 (L.take (ts[i].pos - 0) ++ (g ++ L.drop (ts[i].pos - 0))) (ts.take i ++ (ts.drop i).map (shift g.length)) (if e = 0 then 0 else p + g.length) e := fun g hg => hL.insert g hg
    have HINS : Hid (∀ g, Gap g → ∀ i (hi : i < ts.length), 0 ≤ ts[i].pos ∧ ts[i].pos - 0 ≤ L.length ∧ Lexes 0 (L.take (ts[i].pos - 0) ++ (g ++ L.drop (ts[i].pos - 0))) (ts.take i ++ (ts.drop i).map (shift g.length)) (if e = 0 then 0 else p + g.length) e) := hins
    have HR : Hid ((e = 0 ∧ p = 0) ∨ ((e = 20 ∨ e = 21 ∨ e = 22) ∧ 0 ≤ p ∧ p < 0 + L.length)) := hL.range
    clear hins
    obtain ⟨rm, hrm⟩ : ∃ rm, wz.tmod (tl : Int) = rm := ⟨_, rfl⟩
    have hrb : -(tl : Int) < rm ∧ rm < (tl : Int) := by
      rw [← hrm]
      have h1 := Int.tmod_lt_of_pos wz (show (0 : Int) < (tl : Int) by omega)
      have h2 : -(tl : Int) < wz.tmod (tl : Int) := by
        have := Int.tmod_lt_of_pos (-wz) (show (0 : Int) < (tl : Int) by omega)
        rw [Int.neg_tmod] at this; omega
      exact ⟨h2, h1⟩
    obtain ⟨hr1, hr2⟩ := hrb
    have hp0 : ∀ i (hi : i < ts.length), ts[i].pos < n := fun i hi => by
      have := (hL.posLt i hi).2; have := HN.out; omega
    have HP0 : Hid (∀ i (hi : i < ts.length), ts[i].pos < n) := hp0
    clear hp0
    have K1 : Hid _ := k1
    clear k1 hL hown
    obtain ⟨ii, hil, hii⟩ : ∃ ii : Nat, ii < tl ∧ ((rm < 0 ∧ rm + (tl : Int) = (ii : Int)) ∨ (0 ≤ rm ∧ rm = (ii : Int))) := by
      by_cases h : rm < 0
      · exact ⟨(rm + tl).toNat, by omega, .inl ⟨h, by omega⟩⟩
      · exact ⟨rm.toNat, by omega, .inr ⟨by omega, by omega⟩⟩
    have hilt : ii < ts.length := by have := HTL.out; omega
    obtain ⟨pp, hpp⟩ : ∃ pp, pp = ts[ii].pos := ⟨_, rfl⟩
    have hppn : pp < n := by rw [hpp]; exact HP0.out ii hilt
    have HPP : Hid (pp = ts[ii].pos) := hpp
    clear hpp
    obtain ⟨b, o, rfl, hA⟩ := hT.at (j := pp) (by have := HN.out; omega)
    rcases hii with ⟨hneg, hii⟩ | ⟨hneg, hii⟩
    all_goals
      go_wp2_with fail
      refine (gap_at2 _ zz).mono ?_
      rintro r w3 ⟨⟨g, gs, rfl, hgs, hG, hgl⟩, hb3⟩
      have hs3 := hb3.size
      have HGS : Hid (gs = bs g) := hgs
      have hgsz : gs.size = g.length := by rw [hgs, bs_size]
      clear hgs
      have hb3w : Below w.heap.size w w3 := hb2w.trans (hb3.mono (by omega))
      have hv3 := hv.below hb3 (Nat.le_refl _)
      obtain ⟨g2, e2, hg2, k2⟩ := hv3.out hts
      cases e2
      have cp := (k2 ii hilt).2.1
      rw [← HPP.out] at cp
      clear k2
      have hA3 := hA.below hb3w hA.1
      have hF := ins_of ts ii g.length hilt
      have f1 : (0 : Int) ≤ (pp : Int) := by omega
      have f2 : (pp : Int) ≤ (cap : Int) := by omega
      have f3 : (pp : Int) ≤ (n : Int) := by omega
      have f4 : (n : Int) ≤ (cap : Int) := by omega
      have f5 : ¬ cap = pp := by omega
      have f6 : pp ≤ cap := by omega
      have f7 : pp ≤ n := by omega
      go_wp2_with fail
      go_region_law (first
        | (refine step_append_bytes rfl _ _ rfl w3.heap.size _ (pp + g.length) (L.take pp ++ g) (by simp [Act.eval]) hown5 (some ⟨b, o + pp, none⟩) (n - pp) (cap - pp) (L.drop pp) (by simp [Act.eval]) (by have := HN.out; simp; omega) (Txt.of_at ((hA3.below hbB hA3.1).drop pp) (by have := HN.out; simp; omega) (by omega)) (by simp) (by omega) hbB.size ?_; intro v6 w6 hown6 hb6)
        | (refine step_append_str rfl _ _ rfl w3.heap.size _ pp (L.take pp) (by simp [Act.eval]) hown4 gs g (by simp [Act.eval]) HGS.out (by omega) hb4.size ?_; intro v5 w5 hown5 hb5; have hbB : Below w3.heap.size w3 w5 := ((below_drewN (Below.refl w3.heap.size w3) 1).trans hb4).trans hb5)
        | (refine step_append_bytes rfl _ _ rfl w3.heap.size _ 0 [] (by simp [Act.eval]) (OwnB.nil _ _) (some ⟨b, o, none⟩) pp cap (L.take pp) (by simp [Act.eval, Act.put]) (by have := HN.out; simp; omega) (Txt.of_at ((hA3.below (below_drewN (Below.refl w3.heap.size w3) 1) hA3.1).take pp) (by simp; omega) hc2) (by simp) (by omega) (by simp) ?_; intro v4 w4 hown4 hb4; simp only [Nat.zero_add, List.nil_append] at hown4))
      have hb6r : Below w3.heap.size w3 w6 := hbB.trans hb6
      have hs6 := hb6r.size
      have hb6w : Below w.heap.size w w6 := hb3w.trans (hb6r.mono (by have := hb3w.size; omega))
      obtain ⟨a6, c6, rfl, _, hT6⟩ := hown6.view
      have hI := (HINS.out g hG ii hilt).2.2
      rw [← HPP.out, Nat.sub_zero, ← List.append_assoc] at hI
      have HI : Hid (Lexes 0 (L.take pp ++ g ++ L.drop pp) (ts.take ii ++ (ts.drop ii).map (shift g.length)) (if e = 0 then 0 else p + g.length) e) := hI
      have HF : Hid (Ins ts (ts.take ii ++ (ts.drop ii).map (shift g.length)) ii g.length) := hF
      have HL6 : Hid (pp + g.length + (n - pp) = (L.take pp ++ g ++ L.drop pp).length) := hown6.len
      have hv6 := hv3.below hb6r (Nat.le_refl _)
      clear hI hF hown4 hown5 hown6 hb4 hb5 hb6 hA3 cp hv3
      go_wp2_with fail
      refine (tokens_at _ (hTab.below hb6w hTab.1) a6 c6 _ (L.take pp ++ g ++ L.drop pp) HL6.out hT6 (by omega)).mono ?_
      rintro r w7 ⟨ms, p7, e7, v7, hL7, rfl, hown7, hb7⟩
      obtain ⟨E1, E2, E3⟩ := HI.out.one hL7
      subst E3
      have hF2 := HF.out
      rw [E1] at hF2
      have HF2 : Hid (Ins ts ms ii g.length) := hF2
      have hs7 := hb7.size
      have hb7w : Below w.heap.size w w7 := hb6w.trans (hb7.mono (by have := hb6w.size; omega))
      obtain ⟨a7, c7, rfl, q7, q8, hv7⟩ := hown7.view
      have hml : ms.length = tl := hF2.len.trans HTL.out.symm
      have HML : Hid (ms.length = tl) := hml
      rw [hml] at q7 ⊢
      have hv7' := hv6.below hb7 (Nat.le_refl _)
      have hmne : ms ≠ [] := by intro e; rw [e] at hml; simp at hml; omega
      have HMNE : Hid (ms ≠ []) := hmne
      have HE2 : Hid ((if e = 0 then 0 else p + g.length) = p7) := E2
      clear hL7 hown7 hF2 E1 E2 hml hmne
      have hcs : (e = 0 ∧ p7 = 0) ∨ (e ≠ 0 ∧ p7 = p + g.length ∧ p < n) := by
        have h1 := HE2.out
        rcases HR.out with ⟨h, _⟩ | ⟨h, _, h2⟩
        · rw [if_pos h] at h1; exact .inl ⟨h, h1.symm⟩
        · rw [if_neg (by omega)] at h1; exact .inr ⟨by omega, h1.symm, by have := HN.out; omega⟩
      rcases hcs with ⟨he, hp7⟩ | ⟨he, hp7, hpn⟩
      rotate_left
      have he1 : ((e : Int) != 0) = true := by simp; omega
      have he0 : ((e : Int) == 0) = false := by simp; omega
      rotate_left
      all_goals
        subst hp7
        try subst he
        go_wp2_with (first | (go_at_call 8; refine (num_any _ _).mono ?_; rintro r w' ⟨rfl, rfl⟩) | fail)
        go_loopw [18] (fun q wr => ∃ j : Nat, j ≤ tl ∧ q = .int .i64 j ∧ Below w.heap.size w wr ∧ TokV wr (some ⟨g1, 0, none⟩) ts ∧ TokV wr a7 ms) (fun q _ => tl - (intOf q).toNat)
        case atStart => exact ⟨0, by omega, rfl, hb7w, hv7', hv7⟩
        case round =>
          obtain ⟨j, hj, rfl, hbr, hvr, hvm⟩ := hrel
          by_cases hlt : j < tl
          · have hjt : j < ts.length := by have := HTL.out; omega
            have hjm : j < ms.length := by have := HML.out; omega
            obtain ⟨t, ht⟩ : ∃ t, t = ts[j] := ⟨_, rfl⟩
            obtain ⟨m7, hm7⟩ : ∃ m7, m7 = ms[j] := ⟨_, rfl⟩
            obtain ⟨ga, ea, hga, ka⟩ := hvr.out hts
            cases ea
            obtain ⟨gm, rfl, hgm, km⟩ := hvm.out HMNE.out
            have kaj := ka j hjt
            have kmj := km j hjm
            rw [← ht] at kaj
            rw [← hm7] at kmj
            obtain ⟨s, hs⟩ : ∃ s, s = bs t.name := ⟨_, rfl⟩
            rw [← hs] at kaj
            obtain ⟨p0, p1, p2, p3⟩ := kaj
            have hpb : t.pos < n := by rw [ht]; exact HP0.out j hjt
            clear ka km
            by_cases hji : ii ≤ j
            · have hmm : m7 = shift g.length t := by rw [hm7, ht]; exact HF2.out.hi j hjt hjm hji
              rw [hmm] at kmj
              simp only [shift] at kmj
              rw [← hs, show ((t.pos + g.length : Nat) : Int) = (t.pos : Int) + (g.length : Int) by omega] at kmj
              obtain ⟨m0, m1, m2, m3⟩ := kmj
              clear hmm hm7 ht hs
              go_wp2_with fail
              go_quiet (fail)
              go_wp2_with fail
              go_roundw
              case rel => exact ⟨j + 1, by omega, by go_num, below_drewN (hbr.alloc hbr.size _) _, hvr.below (below_drewN ((Below.refl _ _).alloc (Nat.le_refl _) _) _) (Nat.le_refl _), hvm.below (below_drewN ((Below.refl _ _).alloc (Nat.le_refl _) _) _) (Nat.le_refl _)⟩
              case measure => simp [intOf]; omega
            · have hmm : m7 = t := by rw [hm7, ht]; exact HF2.out.lo j hjt hjm (by omega)
              rw [hmm, ← hs] at kmj
              obtain ⟨m0, m1, m2, m3⟩ := kmj
              clear hmm hm7 ht hs
              go_wp2_with fail
              go_quiet (fail)
              go_wp2_with fail
              go_roundw
              case rel => exact ⟨j + 1, by omega, by go_num, below_drewN (hbr.alloc hbr.size _) _, hvr.below (below_drewN ((Below.refl _ _).alloc (Nat.le_refl _) _) _) (Nat.le_refl _), hvm.below (below_drewN ((Below.refl _ _).alloc (Nat.le_refl _) _) _) (Nat.le_refl _)⟩
              case measure => simp [intOf]; omega
          · go_wp2_with fail
            go_ret
            exact ⟨rfl, hbr⟩
end Go.Proofs.YtmddjfofedpggabDoor
