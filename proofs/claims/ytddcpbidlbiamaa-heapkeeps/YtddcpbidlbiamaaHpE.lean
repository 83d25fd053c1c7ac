import Derived.Test.YtddcpbidlbiamaaHpD
set_option linter.unusedVariables false
namespace Go.Proofs.Ytddcpbidlbiamaa
open Go.ChangeShapes Go.WideShapes Go.ChangeAt Go.RowKit

theorem rnew_any (w : World) : Calls Try.prog 20 #[] w fun e w' => e = .returned (.pointer (some ⟨w.heap.size, 0, none⟩)) ∧ (∀ B, B ≤ w.heap.size → RH w' B w.heap.size 0 (.slice none 0 0) [] 0) ∧ Below w.heap.size w w' ∧ w'.heap.size = w.heap.size + 1 := by
  go_enter Try.func20, Try.ntmps20
  go_wp2
  go_ret
  exact ⟨rfl, fun B hB => ⟨heap_alloc_new _ _, World.ownsRow_nil _ _ _ _, by simp, by simp [idsOf], hB, by simp, by simp⟩, (Below.refl _ _).alloc (Nat.le_refl _) _, by simp⟩

theorem rwords_any (w : World) {B r tk v L c} (H : RH w B r tk v L c) : Calls Try.prog 26 #[.pointer (some ⟨r, 0, none⟩)] w fun e w' => e = .returned (.int .i64 tk) ∧ w' = w := by
  have c1 := cell_arr (i := 1) H.box rfl
  clear H
  go_enter Try.func26, Try.ntmps26
  go_wp2
  go_ret
  exact ⟨rfl, rfl⟩

/-- What find answers. -/
structure Found (L : List RB) (a : Int) (j : Int) : Prop where
  out : (∃ k, ∃ hk : k < L.length, (L[k]).a = a ∧ j = k) ∨ ((∀ x ∈ L, x.a ≠ a) ∧ j = -1)
structure Mid (L : List RB) (a : Int) (lo hi : Nat) : Prop where
  le : lo ≤ hi
  top : hi ≤ L.length
  l : ∀ k (hk : k < L.length), k < lo → (L[k]).a < a
  r : ∀ k (hk : k < L.length), hi ≤ k → a ≤ (L[k]).a

set_option maxRecDepth 100000 in
theorem find_any (w : World) {B r tk v L c} (H : RH w B r tk v L c) (hL : Lay 0 L tk) (hc : c ≤ 1000000000) (a : Int) :
    Calls Try.prog 28 #[.pointer (some ⟨r, 0, none⟩), .int .i64 a] w fun e w' => w' = w ∧ ∃ j, e = .returned (.int .i64 j) ∧ Found L a j := by
  by_cases h0 : L.length = 0
  · have c0 := cell_arr (i := 0) H.box rfl
    obtain ⟨ao, cp, rfl, _, _⟩ := own_slice H.row
    have hn : Hid (∀ x ∈ L, x.a ≠ a) := by
      have : L = [] := List.length_eq_zero_iff.1 h0
      rw [this]
      intro x hx
      simp at hx
    rw [h0] at c0
    clear H hL
    go_enter Try.func28, Try.ntmps28
    go_wp2_with fail
    refine wp_loop_rounds 1 ?_
    rw [rounds_succ]
    go_wp2_with fail
    go_ret
    exact ⟨rfl, -1, rfl, ⟨.inr ⟨hn, rfl⟩⟩⟩
  · have c0 := cell_arr (i := 0) H.box rfl
    have hlen := H.len
    obtain ⟨g, cp, rfl, hc1, hc2, _, _⟩ := own_some H.row (Nat.pos_of_ne_zero h0)
    obtain ⟨n, hn⟩ : ∃ n, n = L.length := ⟨_, rfl⟩
    rw [← hn] at c0 hc1 hlen
    have HC : Hid (∀ k (hk : k < L.length), w.cell? ⟨g, k * 5, none⟩ = some (.int .i64 (L[k]).a)) := fun k hk => (H.cells rfl hk).1
    have HN := show Hid (n = L.length) from hn
    have HL := show Hid (Lay 0 L tk) from hL
    have hn1 : n ≤ 1000000000 := by omega
    have hpos : 0 < n := by omega
    clear H hL hn h0
    go_enter Try.func28, Try.ntmps28
    go_wp2_with fail
    go_loopw [5, 6] (fun lo hi wr => ∃ l h : Nat, lo = .int .i64 l ∧ hi = .int .i64 h ∧ wr = w ∧ Mid L a l h) (fun lo hi _ => (intOf hi).toNat - (intOf lo).toNat)
    case atStart => exact ⟨0, n, rfl, rfl, rfl, ⟨by omega, by rw [HN.out]; exact Nat.le_refl _, fun k _ h => by omega, fun k hk h => by have := HN.out; omega⟩⟩
    case round =>
      obtain ⟨l, h, rfl, rfl, rfl, HM⟩ := hrel
      have hh : h ≤ n := by rw [HN.out]; exact HM.top
      have hlh : l ≤ h := HM.le
      by_cases hlt : l < h
      · obtain ⟨m, hm⟩ : ∃ m : Nat, m = (l + h) / 2 := ⟨_, rfl⟩
        have hm1 : l ≤ m := by omega
        have hm2 : m < h := by omega
        have hmq : ((l : Int) + h).tdiv 2 = (m : Int) := by rw [hm, Int.tdiv_eq_ediv_of_nonneg (by omega)]; omega
        have hmL : m < L.length := by have := HN.out; omega
        have q0 := HC.out m hmL
        have HMa := show Hid (∀ k (hk : k < L.length), m < k → (L[m]).a < (L[k]).a) from fun k hk h => HL.out.mono_a h hk
        have HMb := show Hid (∀ k (hk : k < L.length), k < m → (L[k]).a < (L[m]).a) from fun k hk h => HL.out.mono_a h hmL
        generalize hx : (L[m]).a = x at q0
        have HX := show Hid ((L[m]).a = x) from hx
        clear hx hm
        by_cases hxa : x < a
        · go_wp2_with fail
          go_roundw
          case rel => exact ⟨m + 1, h, by go_num, rfl, trivial, ⟨by omega, HM.top, fun k hk h1 => by
            rcases Nat.lt_or_ge k m with h2 | h2
            · have := HMb.out k hk h2; have := HX.out; omega
            · have : k = m := by omega
              subst this
              have := HX.out; omega, HM.r⟩⟩
          case measure => simp [intOf]; omega
        · go_wp2_with fail
          go_roundw
          case rel => exact ⟨l, m, rfl, rfl, trivial, ⟨hm1, by omega, HM.l, fun k hk h1 => by
            rcases Nat.eq_or_lt_of_le h1 with h2 | h2
            · subst h2
              have := HX.out; omega
            · have := HMa.out k hk h2; have := HX.out; omega⟩⟩
          case measure => simp [intOf]; omega
      · have hle : l = h := by omega
        subst hle
        by_cases hln : l < n
        · have hlL : l < L.length := by have := HN.out; omega
          have q0 := HC.out l hlL
          generalize hx : (L[l]).a = x at q0
          have HX := show Hid ((L[l]).a = x) from hx
          clear hx
          by_cases hxa : x = a
          · subst hxa
            go_wp2_with fail
            go_ret
            exact ⟨rfl, _, rfl, ⟨.inl ⟨l, hlL, HX.out, rfl⟩⟩⟩
          · go_wp2_with fail
            go_ret
            refine ⟨rfl, _, rfl, ⟨.inr ⟨fun y hy e => ?_, rfl⟩⟩⟩
            obtain ⟨k, hk, rfl⟩ := List.getElem_of_mem hy
            have hxx := HX.out
            rcases Nat.lt_trichotomy k l with h2 | h2 | h2
            · have := HM.l k hk h2; omega
            · subst h2; omega
            · have := HL.out.mono_a h2 hk
              have := HM.r l hlL (Nat.le_refl _)
              omega
        · go_wp2_with fail
          go_ret
          refine ⟨rfl, _, rfl, ⟨.inr ⟨fun y hy e => ?_, rfl⟩⟩⟩
          obtain ⟨k, hk, rfl⟩ := List.getElem_of_mem hy
          have := HM.l k hk (by have := HN.out; omega)
          omega

/-- Where a word is asked for: in block k, within it. -/
theorem inB_some {L : List RB} {tk : Int} (hL : Lay 0 L tk) {k : Nat} (hk : k < L.length) (i : Int) : inB (lnOf L) (L[k]).a i ↔ 0 ≤ i ∧ i < (L[k]).n := by
  unfold inB
  rw [lnOf_some hL hk]
  rfl
theorem inB_none {L : List RB} {a : Int} (h : ∀ x ∈ L, x.a ≠ a) (i : Int) : ¬ inB (lnOf L) a i := by
  unfold inB
  rw [lnOf_none h]
  simp

theorem rlen_zero (w : World) (r : Nat) : Calls Try.prog 24 #[.pointer (some ⟨r, 0, none⟩), .int .i64 0] w fun e w' => e = .returned (.tuple #[.int .i64 0, .bool true]) ∧ w' = w := by
  go_enter Try.func24, Try.ntmps24
  go_wp2
  go_ret2
  exact ⟨rfl, rfl⟩

theorem rlen_any (w : World) {B r tk v L c} (H : RH w B r tk v L c) (hL : Lay 0 L tk) (hc : c ≤ 1000000000) (a : Int) (h0 : ¬ a = 0) :
    Calls Try.prog 24 #[.pointer (some ⟨r, 0, none⟩), .int .i64 a] w fun e w' => e = .returned (.tuple #[.int .i64 ((lnOf L a).getD 0), .bool (lnOf L a).isSome]) ∧ w' = w := by
  have hf := find_any w H hL hc a
  have c0 := cell_arr (i := 0) H.box rfl
  have HH := show Hid (RH w B r tk v L c) from H
  have HL := show Hid (Lay 0 L tk) from hL
  clear H hL
  go_enter Try.func24, Try.ntmps24
  go_wp2_with fail
  refine hf.mono ?_
  rintro e u ⟨rfl, j, rfl, hF⟩
  clear hf
  rcases hF.out with ⟨k, hk, ha, rfl⟩ | ⟨hn, rfl⟩
  · have hpos : 0 < L.length := by omega
    have hlen := HH.out.len
    obtain ⟨g, cp, rfl, hc1, hc2, _, _⟩ := own_some HH.out.row hpos
    obtain ⟨_, q1, _⟩ := HH.out.cells rfl hk
    have HE := show Hid (lnOf L a = some (L[k]).n) from by rw [← ha]; exact lnOf_some HL.out hk
    generalize (L[k]).n = x at q1 HE
    clear ha hF
    go_wp2_with fail
    go_ret2
    exact ⟨by rw [HE.out]; rfl, rfl⟩
  · have HE := show Hid (lnOf L a = none) from lnOf_none hn
    clear hn hF
    go_wp2_with fail
    go_ret2
    exact ⟨by rw [HE.out]; rfl, rfl⟩

theorem rget_no (w : World) {B r tk v L c} (H : RH w B r tk v L c) (hL : Lay 0 L tk) (hc : c ≤ 1000000000) (a i : Int) (hin : ¬ inB (lnOf L) a i) :
    Calls Try.prog 25 #[.pointer (some ⟨r, 0, none⟩), .int .i64 a, .int .i64 i] w fun e w' => e = .returned (.tuple #[.int .i64 0, .bool false]) ∧ w' = w := by
  have hf := find_any w H hL hc a
  have c0 := cell_arr (i := 0) H.box rfl
  have HH := show Hid (RH w B r tk v L c) from H
  have HL := show Hid (Lay 0 L tk) from hL
  have HI := show Hid (¬ inB (lnOf L) a i) from hin
  clear H hL hin
  go_enter Try.func25, Try.ntmps25
  go_wp2_with fail
  refine hf.mono ?_
  rintro e u ⟨rfl, j, rfl, hF⟩
  clear hf
  rcases hF.out with ⟨k, hk, ha, rfl⟩ | ⟨hn, rfl⟩
  · have hpos : 0 < L.length := by omega
    have hlen := HH.out.len
    obtain ⟨g, cp, rfl, hc1, hc2, _, _⟩ := own_some HH.out.row hpos
    obtain ⟨_, q1, _⟩ := HH.out.cells rfl hk
    have hno : ¬ (0 ≤ i ∧ i < (L[k]).n) := by rw [← inB_some HL.out hk, ha]; exact HI.out
    generalize (L[k]).n = x at q1 hno
    clear ha hF
    by_cases hi : i < 0
    · clear hno
      go_wp2_with fail
      go_ret2
      exact ⟨rfl, rfl⟩
    · have hx : x ≤ i := by omega
      clear hno
      go_wp2_with fail
      go_ret2
      exact ⟨rfl, rfl⟩
  · clear hn hF
    go_wp2_with fail
    go_ret2
    exact ⟨rfl, rfl⟩

theorem look_at {i : Int} : ∀ (ks ws : List Int), ks.length = ws.length → ∀ (j : Nat) (hj : j < ks.length) (hw : j < ws.length), (∀ l (hl : l < ks.length), l < j → ¬ ks[l] = i) → ks[j] = i → look ks ws i = ws[j] := by
  intro ks
  induction ks with
  | nil => intro ws h j hj; simp at hj
  | cons k ks ih =>
    intro ws h j hj hw hno he
    cases ws with
    | nil => simp at h
    | cons x ws =>
      cases j with
      | zero => simp at he; simp [look, he]
      | succ j =>
        have h0 := hno 0 (by simp) (by omega)
        simp at h0
        simp only [look, h0, if_false]
        exact ih ws (by simpa using h) j (by simpa using hj) (by simpa using hw) (fun l hl hlj => by have := hno (l + 1) (by simpa using hl) (by omega); simpa using this) (by simpa using he)
theorem look_no {i : Int} : ∀ (ks ws : List Int), (∀ l (hl : l < ks.length), ¬ ks[l] = i) → look ks ws i = 0 := by
  intro ks
  induction ks with
  | nil => intro ws _; simp [look]
  | cons k ks ih =>
    intro ws hno
    cases ws with
    | nil => simp [look]
    | cons x ws =>
      have h0 := hno 0 (by simp)
      simp at h0
      simp only [look, h0, if_false]
      exact ih ws (fun l hl => by have := hno (l + 1) (by simpa using hl); simpa using this)

theorem OwnI.cell {w B g n cp l} (h : OwnI w B (.slice (some ⟨g, 0, none⟩) n cp) n l) {q : Nat} (hq : q < l.length) : w.cell? ⟨g, q, none⟩ = some (.int .i64 l[q]) := by
  have hl := h.len
  rw [own_cell h.out q (by omega)]
  simp [ivs, hq]

structure Past (l : List Int) (i : Int) (j : Nat) : Prop where
  out : ∀ q (hq : q < l.length), q < j → ¬ l[q] = i

set_option maxHeartbeats 2000000 in
set_option maxRecDepth 100000 in
theorem rget_yes (w : World) {B r tk v L c} (H : RH w B r tk v L c) (hL : Lay 0 L tk) (hc : c ≤ 1000000000) (k : Nat) (hk : k < L.length) (he : (L[k]).ks.length = (L[k]).ws.length) (i : Int) (hi0 : 0 ≤ i) (hi1 : i < (L[k]).n) :
    Calls Try.prog 25 #[.pointer (some ⟨r, 0, none⟩), .int .i64 (L[k]).a, .int .i64 i] w fun e w' => e = .returned (.tuple #[.int .i64 ((L[k]).val i), .bool true]) ∧ w' = w := by
  have hf := find_any w H hL hc (L[k]).a
  have c0 := cell_arr (i := 0) H.box rfl
  have hpos : 0 < L.length := by omega
  have hlen := H.len
  obtain ⟨g, cp, rfl, hc1, hc2, _, _⟩ := own_some H.row hpos
  obtain ⟨_, q1, q2, q3, q4⟩ := H.cells rfl hk
  have HO := show Hid (RBo w B L[k]) from H.own _ (List.getElem_mem hk)
  have hbd := H.bd _ (List.getElem_mem hk)
  have hkk : Hid (∀ j, Found L (L[k]).a j → j = k) := by
    intro j hF
    rcases hF.out with ⟨k', hk', ha, rfl⟩ | ⟨hn, rfl⟩
    · rw [hL.inj hk' hk ha]
    · exact absurd rfl (hn _ (List.getElem_mem hk))
  clear H hL
  generalize L[k] = x at *
  obtain ⟨xa, xn, vn, va, vf, ns, ks, ws⟩ := x
  obtain ⟨on, ok, of⟩ := HO.out
  have oe := he
  clear he
  simp only at hf c0 q1 q2 q3 q4 hbd hkk on ok of oe hi1 ⊢
  obtain ⟨b1, b2, _⟩ := hbd
  generalize L.length = n at *
  have hcc : c ≤ 1000000000 := hc
  by_cases hnear : i < 4096
  · obtain ⟨m, rfl⟩ : ∃ m : Nat, i = m := ⟨i.toNat, by omega⟩
    by_cases hm : m < ns.length
    · obtain ⟨gn, cn, rfl, n1, n2, _, _⟩ := own_some on.out (by omega)
      have p := on.cell hm
      have e : RB.val ⟨xa, xn, .slice (some ⟨gn, 0, none⟩) ns.length cn, va, vf, ns, ks, ws⟩ m = ns[m] := by simp [RB.val, hnear, hm]
      rw [e]
      generalize ns[m] = y at p ⊢
      clear e HO on ok of oe
      generalize ns.length = nl at *
      go_enter Try.func25, Try.ntmps25
      go_wp2_with fail
      refine hf.mono ?_
      rintro e u ⟨rfl, j, rfl, hF⟩
      obtain rfl := hkk.out j hF
      clear hf hF hkk
      go_wp2_with fail
      go_ret2
      exact ⟨rfl, rfl⟩
    · obtain ⟨an, cn, rfl, n1, n2⟩ := own_slice on.out
      have e : RB.val ⟨xa, xn, .slice an ns.length cn, va, vf, ns, ks, ws⟩ m = 0 := by simp [RB.val, hnear, hm]
      rw [e]
      clear e HO on ok of oe
      generalize ns.length = nl at *
      go_enter Try.func25, Try.ntmps25
      go_wp2_with fail
      refine hf.mono ?_
      rintro e u ⟨rfl, j, rfl, hF⟩
      obtain rfl := hkk.out j hF
      clear hf hF hkk
      go_wp2_with fail
      go_ret2
      exact ⟨rfl, rfl⟩
  · have HV : Hid (RB.val ⟨xa, xn, vn, va, vf, ns, ks, ws⟩ i = look ks ws i) := by
      show RB.val _ _ = _
      simp [RB.val, hnear]
    obtain ⟨ak, ck, rfl, k1, k2⟩ := own_slice ok.out
    obtain ⟨af, cf, rfl, f1, f2⟩ := own_slice of.out
    obtain ⟨kl, hkl⟩ : ∃ kl, kl = ks.length := ⟨_, rfl⟩
    have hwl : ws.length = kl := by omega
    rw [← hkl] at q3 k1 b2
    rw [hwl] at q4 f1
    have OK := show Hid (∀ q (hq : q < ks.length), ∃ gk, ak = some ⟨gk, 0, none⟩ ∧ w.cell? ⟨gk, q, none⟩ = some (.int .i64 ks[q])) from fun q hq => by
      obtain ⟨gk, ck', e, _⟩ := own_some ok.out (by omega)
      cases e
      exact ⟨gk, rfl, ok.cell hq⟩
    have OF := show Hid (∀ q (hq : q < ws.length), ∃ gk, af = some ⟨gk, 0, none⟩ ∧ w.cell? ⟨gk, q, none⟩ = some (.int .i64 ws[q])) from fun q hq => by
      obtain ⟨gk, ck', e, _⟩ := own_some of.out (by omega)
      cases e
      exact ⟨gk, rfl, of.cell hq⟩
    have HKL := show Hid (kl = ks.length ∧ ws.length = kl) from ⟨hkl, hwl⟩
    clear HO on ok of oe hkl hwl
    go_enter Try.func25, Try.ntmps25
    go_wp2_with fail
    refine hf.mono ?_
    rintro e u ⟨rfl, j, rfl, hF⟩
    obtain rfl := hkk.out j hF
    clear hf hF hkk
    go_wp2_with fail
    go_loopw [9] (fun jv wr => ∃ j : Nat, j ≤ kl ∧ jv = .int .i64 j ∧ wr = u ∧ Past ks i j) (fun jv _ => kl - (intOf jv).toNat)
    case atStart => exact ⟨0, by omega, rfl, rfl, ⟨fun q _ h => by omega⟩⟩
    case round =>
      obtain ⟨j, hj, rfl, rfl, HP⟩ := hrel
      by_cases hlt : j < kl
      · have hjk : j < ks.length := by have := HKL.out; omega
        have hjw : j < ws.length := by have := HKL.out; omega
        obtain ⟨gk, rfl, p1⟩ := OK.out j hjk
        obtain ⟨gf, rfl, p2⟩ := OF.out j hjw
        by_cases he : ks[j] = i
        · have HR := show Hid (look ks ws i = ws[j]) from look_at ks ws (by have := HKL.out; omega) j hjk hjw HP.out he
          rw [he] at p1
          generalize ws[j] = y at p2 HR
          clear he
          go_wp2_with fail
          go_ret2
          exact ⟨by rw [HV.out, HR.out]; rfl, rfl⟩
        · have HE := show Hid (¬ ks[j] = i) from he
          generalize ks[j] = y at p1 he
          go_wp2_with fail
          go_roundw
          case rel => exact ⟨j + 1, by omega, by go_num, trivial, ⟨fun q hq h1 => by
            rcases Nat.lt_succ_iff_lt_or_eq.1 h1 with h2 | rfl
            · exact HP.out q hq h2
            · exact HE.out⟩⟩
          case measure => simp [intOf]; omega
      · have HR := show Hid (look ks ws i = 0) from look_no ks ws (fun l hl => HP.out l hl (by have := HKL.out; omega))
        go_wp2_with fail
        go_ret2
        exact ⟨by rw [HV.out, HR.out]; rfl, rfl⟩
end Go.Proofs.Ytddcpbidlbiamaa
