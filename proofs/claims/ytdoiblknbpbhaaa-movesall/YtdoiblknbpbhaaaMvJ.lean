import Derived.Test.YtdoiblknbpbhaaaMvI
set_option linter.unusedVariables false
set_option linter.unusedSimpArgs false
namespace Go.Proofs.Ytdoiblknbpbhaaa
open Go.ChangeShapes Go.WideShapes Go.ChangeAt Go.RowKit Go.Maps

/-- The sequence among its circles: D what the document has left. -/
structure CiS (t : Lc) (w wr : World) (B sb gb sm rm : Nat) (la : Option Addr) (ln lc : Nat) (ov : Value) (l A D out : List Mv) : Prop where
  q : SQ wr B sb gb sm rm la ln lc ov l A A out
  f : Lf t l A
  d : ∃ n, dn t n (lft l, []) = (D, out)
  k : Kp B w wr
theorem CiS.keep {t w wr w' B sb gb sm rm la ln lc ov l A D out} (H : CiS t w wr B sb gb sm rm la ln lc ov l A D out) (hB : B ≤ w.heap.size) (hb : Below wr.heap.size wr w') : CiS t w w' B sb gb sm rm la ln lc ov l A D out :=
  ⟨H.q.keep hb, H.f, H.d, H.k.trans (Kp.below (by have := H.k.bel.size; omega) hb)⟩
/-- A circle on its way: m its first move, a the place that is to be set next. -/
structure CiI (t : Lc) (w wr : World) (B sb gb sm rm : Nat) (la : Option Addr) (ln lc : Nat) (ov : Value) (l A out : List Mv) (m : Mv) (a : Lc) (k : Nat) : Prop where
  s : CiS t w wr B sb gb sm rm la ln lc ov l (m :: A) ((m.1, t) :: A) out
  c : Cy A m a
  o : out.length + 2 * (m :: A).length ≤ 2 * ln + 1
  n : ∀ j, ∀ hj : j < l.length, j < k → l[j] ∉ A
theorem CiI.keep {t w wr w' B sb gb sm rm la ln lc ov l A out m a k} (H : CiI t w wr B sb gb sm rm la ln lc ov l A out m a k) (hB : B ≤ w.heap.size) (hb : Below wr.heap.size wr w') : CiI t w w' B sb gb sm rm la ln lc ov l A out m a k :=
  ⟨H.s.keep hB hb, H.c, H.o, H.n⟩
theorem CiI.put {t w wr w' B sb gb sm rm la ln lc ov ov' l A out m k} {x : Mv} (H : CiI t w wr B sb gb sm rm la ln lc ov l A out m x.1 k) (hx : x ∈ A) (hq : SQ w' B sb gb sm rm la ln lc ov' l ((m :: A).erase x) ((m :: A).erase x) (out ++ [x])) (hk : Kp B wr w') :
    CiI t w w' B sb gb sm rm la ln lc ov' l (A.erase x) (out ++ [x]) m x.2 k := by
  obtain ⟨n, hn⟩ := H.s.d
  obtain ⟨h1, h2⟩ := circle_put (out := out) H.s.f H.c hx
  have hmx : m ≠ x := fun e => (List.nodup_cons.1 H.s.f.nodup).1 (e ▸ hx)
  have he : (m :: A).erase x = m :: A.erase x := List.erase_cons_tail (by simpa using hmx)
  rw [he] at hq
  have h3 := List.length_erase_of_mem hx
  have h4 := List.length_pos_of_mem hx
  have h5 := H.o
  simp only [List.length_cons] at h5
  refine ⟨⟨hq, by rw [← he]; exact H.s.f.erase x, ⟨n + 1, (dn_step hn).trans h1⟩, H.s.k.trans hk⟩, h2, by simp; omega, fun j hj hjk hm => H.n j hj hjk (List.mem_of_mem_erase hm)⟩
theorem CiI.last {t w wr w' B sb gb sm rm la ln lc ov ov' l A out m k} (H : CiI t w wr B sb gb sm rm la ln lc ov l A out m m.1 k) (hq : SQ w' B sb gb sm rm la ln lc ov' l ((m :: A).erase m) ((m :: A).erase m) (out ++ [(m.1, t)])) (hk : Kp B wr w') :
    CiS t w w' B sb gb sm rm la ln lc ov' l A A (out ++ [(m.1, t)]) ∧ Bal A ∧ (out ++ [(m.1, t)]).length + 2 * A.length ≤ 2 * ln := by
  obtain ⟨n, hn⟩ := H.s.d
  obtain ⟨h1, h2⟩ := circle_last (out := out) H.s.f H.c
  rw [List.erase_cons_head] at hq
  have h5 := H.o
  simp only [List.length_cons] at h5
  have hf := H.s.f.erase m
  rw [List.erase_cons_head] at hf
  exact ⟨⟨hq, hf, ⟨n + 1, (dn_step hn).trans h1⟩, H.s.k.trans hk⟩, h2, by simp; omega⟩
set_option maxRecDepth 100000 in
set_option maxHeartbeats 8000000 in
theorem circles_any (w : World) {t : Lc} (hft : FitL t) {B sb gb sm rm la ln lc ov l A out} (H : CiS t w w B sb gb sm rm la ln lc ov l A A out) (hbal : Bal A) (hol : out.length + 2 * A.length ≤ 2 * ln) (hB : B ≤ w.heap.size) :
    Calls Try.prog 25 #[.pointer (some ⟨sb, 0, none⟩), .agg #[.int .i64 t.1, .int .i64 t.2]] w fun e w' => e = .returned (.tuple #[]) ∧ ∃ ov' out', CiS t w w' B sb gb sm rm la ln lc ov' l [] [] out' := by
  obtain ⟨t1, t2⟩ := t
  obtain ⟨wt, hwt⟩ : ∃ W, W = w.alloc (.cells #[.int .i64 t1, .int .i64 t2] 24) := ⟨_, rfl⟩
  obtain ⟨tb, htb⟩ : ∃ s, s = w.heap.size := ⟨_, rfl⟩
  have HKW : Hid (Kp B w wt) := by rw [hwt]; exact Kp.below hB (below_new _ _)
  have HTB : Hid (wt.heap[tb]? = some (.cells #[.int .i64 t1, .int .i64 t2] 24 (0, 0))) := by rw [hwt, htb]; exact heap_alloc_new _ _
  have HBB : Hid (B ≤ wt.heap.size) := by have := HKW.out.bel.size; show _ ≤ _; omega
  have hbw : Below w.heap.size w wt := by rw [hwt]; exact below_new _ _
  have HH : Hid (∃ ov A out, CiS (t1, t2) wt wt B sb gb sm rm la ln lc ov l A A out ∧ Bal A ∧ out.length + 2 * A.length ≤ 2 * ln ∧ ∀ j, ∀ hj : j < l.length, j < 0 → l[j] ∉ A) := ⟨ov, A, out, ⟨H.q.keep hbw, H.f, H.d, Kp.refl _ _⟩, hbal, hol, fun j _ h => by omega⟩
  have HN : Hid (ln = l.length) := H.q.n
  have HFT : Hid (FitL (t1, t2)) := hft
  have hz := H.q.sz
  have x0 : wt.cell? ⟨sb, 0, none⟩ = some (.slice la ln lc) := cell_arr (H.q.keep hbw).box rfl
  clear H hB hbal hol hft hbw
  simp only
  go_enter Try.func25, Try.ntmps25
  subst hwt
  go_wp2_with fail
  obtain ⟨wt, hwt⟩ : ∃ W, W = w.alloc (.cells #[.int .i64 t1, .int .i64 t2] 24) := ⟨_, rfl⟩
  rw [← hwt] at HKW HTB HBB HH ⊢
  rw [← htb]
  clear x0 htb hwt
  go_loopw [12] (fun v wr => ∃ k : Nat, k ≤ ln ∧ v = .int .i64 k ∧ Hid (∃ ov A out, CiS (t1, t2) wt wr B sb gb sm rm la ln lc ov l A A out ∧ Bal A ∧ out.length + 2 * A.length ≤ 2 * ln ∧ ∀ j, ∀ hj : j < l.length, j < k → l[j] ∉ A)) (fun v _ => ln - (intOf v).toNat)
  case atStart => exact ⟨0, by omega, rfl, HH⟩
  case round =>
    clear HH
    obtain ⟨k, hk, rfl, HC⟩ := hrel
    by_cases hlt : k < ln
    · have hkf : k < l.length := by have := HN.out; omega
      have hne : l ≠ [] := by rintro rfl; simp at hkf
      obtain ⟨ov1, A1, out1, hC, hbal, hol, hno⟩ := HC.out
      have HCC : Hid (CiS (t1, t2) wt wr B sb gb sm rm la ln lc ov1 l A1 A1 out1) := hC
      have HBL : Hid (Bal A1) := hbal
      have HO1 : Hid (out1.length + 2 * A1.length ≤ 2 * ln) := hol
      have HNO : Hid (∀ j, ∀ hj : j < l.length, j < k → l[j] ∉ A1) := hno
      clear hbal hol hno HC
      obtain ⟨b, o, rfl, hbB, hAt⟩ := hC.q.ar hne
      obtain ⟨c0, c1, c2, c3⟩ := hAt.cell k hkf
      have hbl := hAt.lt
      have hfm := (hC.q.fit _ (List.getElem_mem hkf))
      have hsb : sb < wr.heap.size := (Array.getElem?_eq_some_iff.1 hC.q.box).1
      have hgb : gb < wr.heap.size := hC.q.lf.lt
      have y1 : wr.cell? ⟨sb, 1, none⟩ = some (.slice (some ⟨gb, 0, none⟩) ln ln) := cell_arr hC.q.box rfl
      have yl := hC.q.lf.cell (i := k) (by simp [lftB]; omega)
      simp only [lftB, List.getElem_map] at yl
      obtain ⟨m, hmi⟩ : ∃ m, l[k] = m := ⟨_, rfl⟩
      have HLK : Hid (l[k] = m) := hmi
      rw [hmi] at c0 c1 c2 c3 hfm yl
      obtain ⟨⟨m1, m2⟩, ⟨m3, m4⟩⟩ := m
      simp only at c0 c1 c2 c3
      have HFF : Hid (FitL (m3, m4)) := hfm.f
      have hca := hC.q.ca
      clear hC hAt hmi hfm
      by_cases hin : ((m1, m2), (m3, m4)) ∈ A1
      · have hdi : decide (((m1, m2), (m3, m4)) ∈ A1) = true := by simpa using hin
        rw [hdi] at yl
        have HIN : Hid (((m1, m2), (m3, m4)) ∈ A1) := hin
        clear hin hdi
        have HHD : Hid (A1 = ((m1, m2), (m3, m4)) :: A1.erase ((m1, m2), (m3, m4))) := by
          have := head_of HCC.out.f hkf (by rw [HLK.out]; exact HIN.out) (fun j hj => HNO.out j (by omega) hj)
          rw [HLK.out] at this
          exact this
        go_wp2_with fail
        obtain ⟨W1, hW1⟩ : ∃ W, W = wr.alloc (.cells #[.int .i64 m1, .int .i64 m2, .int .i64 m3, .int .i64 m4] 36) := ⟨_, rfl⟩
        obtain ⟨mbx, hmb⟩ : ∃ s, s = wr.heap.size := ⟨_, rfl⟩
        have hb1 : Below wr.heap.size wr W1 := by rw [hW1]; exact below_new _ _
        have HC1 : Hid (CiS (t1, t2) wt W1 B sb gb sm rm (some ⟨b, o, none⟩) ln lc ov1 l A1 A1 out1) := HCC.out.keep HBB.out hb1
        have HK1 : Hid (W1.heap[mbx]? = some (.cells #[.int .i64 m1, .int .i64 m2, .int .i64 m3, .int .i64 m4] 36)) := by rw [hW1, hmb]; exact heap_alloc_new _ _
        have hovx : ov1.ownBlock ≠ some mbx := fun e => by have := (own_block HCC.out.q.ou.out e).2; omega
        rw [← hW1, ← hmb]
        clear hW1 hmb hb1 c0 c1 c2 c3 y1 yl hbl hsb hgb HCC
        obtain ⟨oa, oc, rfl, _, _⟩ := own_slice HC1.out.q.ou.out
        have x4 : W1.cell? ⟨sb, 4, none⟩ = some (.slice oa out1.length oc) := cell_arr HC1.out.q.box rfl
        have htb1 := HC1.out.k.bx _ _ HTB.out
        have u0 : W1.cell? ⟨tb, 0, none⟩ = some (.int .i64 t1) := cell_arr htb1 rfl
        have u1 : W1.cell? ⟨tb, 1, none⟩ = some (.int .i64 t2) := cell_arr htb1 rfl
        have u2 : W1.cell? ⟨mbx, 2, none⟩ = some (.int .i64 m3) := cell_arr HK1.out rfl
        have u3 : W1.cell? ⟨mbx, 3, none⟩ = some (.int .i64 m4) := cell_arr HK1.out rfl
        have HB1 : Hid (B ≤ W1.heap.size) := by have := HC1.out.k.bel.size; have := HBB.out; show _ ≤ _; omega
        have HFM : Hid (FitM ((t1, t2), (m3, m4))) := ⟨HFT.out, HFF.out⟩
        have HOL : Hid (out1.length ≤ 10000000) := by have := HO1.out; show _ ≤ _; omega
        have hbw : Below W1.heap.size W1 (W1.drew.alloc (.cells #[.int .i64 t1, .int .i64 t2, .int .i64 m3, .int .i64 m4] 36)) := by
          repeat (first | refine Below.alloc ?_ (by first | omega | (simp; done) | (simp; omega)) _ | refine Below.drew ?_ | exact Below.refl _ _)
        have HOW : Hid (OwnM (W1.drew.alloc (.cells #[.int .i64 t1, .int .i64 t2, .int .i64 m3, .int .i64 m4] 36)) B (.slice oa out1.length oc) out1.length out1) := HC1.out.q.ou.keep hbw
        have S0 : (fun w' : World => w'.cell? ⟨sb, 4, none⟩ = some (.slice oa out1.length oc) ∧ w'.cell? ⟨tb, 0, none⟩ = some (.int .i64 t1) ∧ w'.cell? ⟨tb, 1, none⟩ = some (.int .i64 t2) ∧ w'.cell? ⟨mbx, 2, none⟩ = some (.int .i64 m3) ∧ w'.cell? ⟨mbx, 3, none⟩ = some (.int .i64 m4)) W1.drew := ⟨x4, u0, u1, u2, u3⟩
        have S1 : (fun w' : World => w'.cell? ⟨sb, 4, none⟩ = some (.slice oa out1.length oc) ∧ w'.cell? ⟨tb, 0, none⟩ = some (.int .i64 t1) ∧ w'.cell? ⟨tb, 1, none⟩ = some (.int .i64 t2) ∧ w'.cell? ⟨mbx, 2, none⟩ = some (.int .i64 m3) ∧ w'.cell? ⟨mbx, 3, none⟩ = some (.int .i64 m4)) (W1.drew.alloc (.cells #[.int .i64 t1, .int .i64 t2, .int .i64 m3, .int .i64 m4] 36)) := ⟨cellA x4, cellA u0, cellA u1, cellA u2, cellA u3⟩
        have HPU : Hid (∀ v7 w7, OwnM w7 B v7 (out1.length + 1) (out1 ++ [((t1, t2), (m3, m4))]) → GI B (W1.drew.alloc (.cells #[.int .i64 t1, .int .i64 t2, .int .i64 m3, .int .i64 m4] 36)) w7 (.slice oa out1.length oc) v7 → (fun w' : World => w'.cell? ⟨sb, 4, none⟩ = some (.slice oa out1.length oc) ∧ w'.cell? ⟨tb, 0, none⟩ = some (.int .i64 t1) ∧ w'.cell? ⟨tb, 1, none⟩ = some (.int .i64 t2) ∧ w'.cell? ⟨mbx, 2, none⟩ = some (.int .i64 m3) ∧ w'.cell? ⟨mbx, 3, none⟩ = some (.int .i64 m4)) w7 ∧ Hid ((SQ (w7.setCell ⟨sb, 4, none⟩ v7) B sb gb sm rm (some ⟨b, o, none⟩) ln lc v7 l A1 A1 (out1 ++ [((t1, t2), (m3, m4))]) ∧ Only (SF sb gb rm (.slice oa out1.length oc)) W1 (w7.setCell ⟨sb, 4, none⟩ v7)) ∧ w7.frozen? ⟨sb, 4, none⟩ = false ∧ (w7.setCell ⟨sb, 4, none⟩ v7).heap[mbx]? = W1.heap[mbx]?)) := fun v7 w7 h7 g7 => by
          obtain ⟨q1, q2, q3⟩ := HC1.out.q.put1 hbw h7 g7
          have hab := HC1.out.q.apart
          have kk : ∀ {a : Addr} {u : Value}, (W1.drew.alloc (.cells #[.int .i64 t1, .int .i64 t2, .int .i64 m3, .int .i64 m4] 36)).cell? a = some u → (Value.slice oa out1.length oc).ownBlock ≠ some a.block → w7.cell? a = some u := fun {a u} h1 h2 => (World.cell?_of_block (g7.blk a.block (block_lt_of_cell h1) h2)).trans h1
          have nt : (Value.slice oa out1.length oc).ownBlock ≠ some tb := own_not HC1.out.q.ou.out htb1 (by decide)
          have hms : mbx ≠ sb := by
            rintro rfl
            have h1 := HK1.out
            rw [HC1.out.q.box] at h1
            injection h1 with h1; injection h1 with _ h1 _; exact absurd h1 (by decide)
          exact ⟨⟨kk S1.1 hab.2.2.2.2.2.1, kk S1.2.1 nt, kk S1.2.2.1 nt, kk S1.2.2.2.1 hovx, kk S1.2.2.2.2 hovx⟩, ⟨q1, q2⟩, fz_of (q3.trans HC1.out.q.box), q2.block mbx (Array.getElem?_eq_some_iff.1 HK1.out).1 (fun h => by
            rcases h with h | h | h | h
            · exact hms h
            · have h1 := HK1.out
              rw [h, HC1.out.q.lf.out] at h1
              injection h1 with h1; injection h1 with _ h1 _; exact absurd h1 (by decide)
            · obtain ⟨nr, hh, _, hR⟩ := HC1.out.q.rd
              obtain ⟨es, cl, e⟩ := hR.isMap
              have h1 := HK1.out
              rw [h, e] at h1
              cases h1
            · exact hovx h)⟩
        clear hbw x4 htb1 u0 u1 u2 u3 hovx
        refine led_start (S := fun w' : World => w'.cell? ⟨sb, 4, none⟩ = some (.slice oa out1.length oc) ∧ w'.cell? ⟨tb, 0, none⟩ = some (.int .i64 t1) ∧ w'.cell? ⟨tb, 1, none⟩ = some (.int .i64 t2) ∧ w'.cell? ⟨mbx, 2, none⟩ = some (.int .i64 m3) ∧ w'.cell? ⟨mbx, 3, none⟩ = some (.int .i64 m4)) (z := 13) (by kernel_rfl) ?_
        show led _ _ _ _ _ 14 _ _ _
        refine led_take (i := 0) (v := ?v0) rfl (by kernel_rfl) (by kernel_rfl) (by kernel_rfl) (by kernel_rfl) (fun _ _ _ h => h) (.inl ⟨by rfl, ?hy0⟩) S0 ?rest0
        case hy0 =>
          rintro w' ⟨h1, h2, h3, h4, h5⟩
          go_simp
          all_goals with_reducible rfl
        try simp only [Act.put, List.setIfInBounds_toArray, List.set_cons_zero, List.set_cons_succ]
        refine led_take (i := 1) (v := ?v1) rfl (by kernel_rfl) (by kernel_rfl) (by kernel_rfl) (by kernel_rfl) (fun _ _ _ h => h) (.inl ⟨by rfl, ?hy1⟩) S0 ?rest1
        case hy1 =>
          rintro w' ⟨h1, h2, h3, h4, h5⟩
          go_simp
          all_goals with_reducible rfl
        try simp only [Act.put, List.setIfInBounds_toArray, List.set_cons_zero, List.set_cons_succ]
        refine led_take (i := 2) (v := ?v2) rfl (by kernel_rfl) (by kernel_rfl) (by kernel_rfl) (by kernel_rfl) (fun _ _ _ h => h) (.inl ⟨by rfl, ?hy2⟩) S0 ?rest2
        case hy2 =>
          rintro w' ⟨h1, h2, h3, h4, h5⟩
          go_simp
          all_goals with_reducible rfl
        try simp only [Act.put, List.setIfInBounds_toArray, List.set_cons_zero, List.set_cons_succ]
        refine led_take (i := 3) (v := ?v3) rfl (by kernel_rfl) (by kernel_rfl) (by kernel_rfl) (by kernel_rfl) (fun _ _ _ h => h) (.inl ⟨by rfl, ?hy3⟩) S0 ?rest3
        case hy3 =>
          rintro w' ⟨h1, h2, h3, h4, h5⟩
          go_simp
          all_goals with_reducible rfl
        try simp only [Act.put, List.setIfInBounds_toArray, List.set_cons_zero, List.set_cons_succ]
        refine led_take (i := 4) (v := ?v4) rfl (by kernel_rfl) (by kernel_rfl) (by kernel_rfl) (by kernel_rfl) (fun _ _ _ h => h) (.inl ⟨by rfl, ?hy4⟩) S0 ?rest4
        case hy4 =>
          rintro w' ⟨h1, h2, h3, h4, h5⟩
          go_simp
          all_goals with_reducible rfl
        try simp only [Act.put, List.setIfInBounds_toArray, List.set_cons_zero, List.set_cons_succ]
        refine led_take (i := 5) (v := ?v5) rfl (by kernel_rfl) (by kernel_rfl) (by kernel_rfl) (by kernel_rfl) (fun _ _ _ h => h) (.inl ⟨by rfl, ?hy5⟩) S0 ?rest5
        case hy5 =>
          rintro w' ⟨h1, h2, h3, h4, h5⟩
          go_simp
          all_goals with_reducible rfl
        try simp only [Act.put, List.setIfInBounds_toArray, List.set_cons_zero, List.set_cons_succ]
        refine led_take (i := 6) (v := ?v6) rfl (by kernel_rfl) (by kernel_rfl) (by kernel_rfl) (by kernel_rfl) (fun _ _ _ h => h) (.inl ⟨by rfl, ?hy6⟩) S0 ?rest6
        case hy6 =>
          rintro w' ⟨h1, h2, h3, h4, h5⟩
          go_simp
          all_goals with_reducible rfl
        try simp only [Act.put, List.setIfInBounds_toArray, List.set_cons_zero, List.set_cons_succ]
        refine led_take (i := 7) (v := ?v7) rfl (by kernel_rfl) (by kernel_rfl) (by kernel_rfl) (by kernel_rfl) (fun _ _ _ h => h) (.inl ⟨by rfl, ?hy7⟩) S0 ?rest7
        case hy7 =>
          rintro w' ⟨h1, h2, h3, h4, h5⟩
          go_simp
          all_goals with_reducible rfl
        try simp only [Act.put, List.setIfInBounds_toArray, List.set_cons_zero, List.set_cons_succ]
        refine led_take (i := 8) (v := ?v8) rfl (by kernel_rfl) (by kernel_rfl) (by kernel_rfl) (by kernel_rfl) (fun _ _ _ h => h) (.inl ⟨by rfl, ?hy8⟩) S0 ?rest8
        case hy8 =>
          rintro w' ⟨h1, h2, h3, h4, h5⟩
          go_simp
          all_goals with_reducible rfl
        try simp only [Act.put, List.setIfInBounds_toArray, List.set_cons_zero, List.set_cons_succ]
        refine led_one (i := 9) rfl (by kernel_rfl) ?_
        intro K15 hK15
        rw [if_pos (by rfl)]
        go_simp
        refine hK15 _ _ (fun _ => S1) ?_
        clear hK15
        try simp only [Act.put, List.setIfInBounds_toArray, List.set_cons_zero, List.set_cons_succ]
        refine led_one (i := 10) rfl (by kernel_rfl) ?_
        intro K16 hK16
        refine step_append_mv rfl _ _ rfl B (.slice oa out1.length oc) out1.length out1 t1 t2 m3 m4 (by simp [Act.eval]) HOW.out HFM.out W1.drew.heap.size (by simp [Act.eval]) (cell_arr (heap_alloc_new _ _) rfl) (cell_arr (heap_alloc_new _ _) rfl) (cell_arr (heap_alloc_new _ _) rfl) (cell_arr (heap_alloc_new _ _) rfl) (by have := HOL.out; omega) (by simp; have := HB1.out; omega) ?_
        intro v7 w7 h7 g7
        obtain ⟨S7, HP7⟩ := HPU.out v7 w7 h7 g7
        refine hK16 _ _ (fun _ => S7) ?_
        clear hK16
        obtain ⟨a7, k7, e7, _, _⟩ := own_slice h7.out
        subst e7
        try simp only [Act.put, List.setIfInBounds_toArray, List.set_cons_zero, List.set_cons_succ]
        refine led_one (i := 11) rfl (by kernel_rfl) ?_
        intro K17 hK17
        rw [if_pos (by rfl)]
        go_simp
        refine hK17 _ _ (fun _ => S7) ?_
        clear hK17
        try simp only [Act.put, List.setIfInBounds_toArray, List.set_cons_zero, List.set_cons_succ]
        refine led_one (i := 12) rfl (by kernel_rfl) ?_
        intro K18 hK18
        rw [if_pos (by rfl)]
        go_simp
        refine hK18 _ _ (fun _ => S7) ?_
        clear hK18
        try simp only [Act.put, List.setIfInBounds_toArray, List.set_cons_zero, List.set_cons_succ]
        refine led_one (i := 13) rfl (by kernel_rfl) ?_
        intro K19 hK19
        rw [if_pos (by rfl)]
        obtain ⟨q7, _⟩ := S7
        have p7 := HP7.out.2.1
        go_simp
        refine hK19 _ _ (fun h => absurd rfl h) ?_
        clear hK19 S0 S1 q7 p7
        refine led_done (by kernel_rfl) ?_
        obtain ⟨W8, hW8⟩ : ∃ W, W = w7.setCell ⟨sb, 4, none⟩ (.slice a7 (out1.length + 1) k7) := ⟨_, rfl⟩
        rw [← hW8] at HP7 ⊢
        obtain ⟨A2, hA2⟩ : ∃ A2, A1.erase ((m1, m2), (m3, m4)) = A2 := ⟨_, rfl⟩
        have HA1 : Hid (A1 = ((m1, m2), (m3, m4)) :: A2) := by rw [← hA2]; exact HHD.out
        have HI0 : Hid (CiI (t1, t2) wt W8 B sb gb sm rm (some ⟨b, o, none⟩) ln lc (.slice a7 (out1.length + 1) k7) l A2 (out1 ++ [((t1, t2), (m3, m4))]) ((m1, m2), (m3, m4)) (m3, m4) k) := by
          have hq := HP7.out.1.1
          have hk8 := HC1.out.q.kp HB1.out HP7.out.1.2
          have hbl := HBL.out
          have hf1 := HC1.out.f
          have hd1 := HC1.out.d
          have ho1 := HO1.out
          have hn1 := HNO.out
          rw [HA1.out] at hq hbl hf1 hd1 ho1 hn1
          obtain ⟨n, hd⟩ := hd1
          obtain ⟨e1, e2⟩ := circle_start (t := (t1, t2)) (out := out1) hbl
          exact ⟨⟨hq, hf1, ⟨n + 1, (dn_step hd).trans e1⟩, HC1.out.k.trans hk8⟩, e2, by simp only [List.length_append, List.length_cons, List.length_nil] at ho1 ⊢; omega, fun j hj hjk hm => hn1 j hj hjk (List.mem_cons_of_mem _ hm)⟩
        have hbx8 : W8.heap[mbx]? = some (.cells #[.int .i64 m1, .int .i64 m2, .int .i64 m3, .int .i64 m4] 36) := HP7.out.2.2.trans HK1.out
        have u2 : W8.cell? ⟨mbx, 2, none⟩ = some (.int .i64 m3) := cell_arr hbx8 rfl
        have u3 : W8.cell? ⟨mbx, 3, none⟩ = some (.int .i64 m4) := cell_arr hbx8 rfl
        have v2 : W8.cell? ⟨sb, 2, none⟩ = some (.map (some sm)) := cell_arr HI0.out.s.q.box rfl
        obtain ⟨s, hs, es1, es2⟩ := circle_next HI0.out.s.f HI0.out.c
        have hlk : ∀ k, _ := fun k => (HI0.out.s.q.st.move (w' := W8.drewN k) rfl).look HFF.out
        obtain ⟨s', hs', es3, es4⟩ := ix_some (l := l) (p := (m3, m4)) (by rw [← es1]; exact List.mem_map_of_mem (List.getElem_mem hs))
        have ess : s' = s := HI0.out.s.f.gd.inj hs' hs (by rw [es4, es1])
        subst ess
        rw [es3] at hlk
        simp only at hlk
        have HI1 : Hid (∃ A2 out2 ov2, CiI (t1, t2) wt W8 B sb gb sm rm (some ⟨b, o, none⟩) ln lc ov2 l A2 out2 l[k] l[s'].1 k ∧ (s' = k ∨ l[s'] ∈ A2)) := by
          rw [HLK.out, es1]
          refine ⟨_, _, _, HI0.out, ?_⟩
          rcases es2 with e | e
          · exact .inl (HI0.out.s.f.gd.inj hs hkf (by rw [e, HLK.out]))
          · exact .inr e
        clear hW8 h7 g7 HP7 HPU HOW HI0 hbx8 es1 es2 es3 es4 HA1 hA2 HK1 HC1 HHD HBL HO1 HNO HIN HB1 HFM HOL
        go_wp2_with fail
        go_quiet (fail)
        obtain ⟨A2', out2', ov2', hI1, hI2⟩ := HI1.out
        have HI2 : Hid (CiI (t1, t2) wt W8 B sb gb sm rm (some ⟨b, o, none⟩) ln lc ov2' l A2' out2' l[k] l[s'].1 k ∧ (s' = k ∨ l[s'] ∈ A2')) := ⟨hI1, hI2⟩
        clear hI1 hI2 HI1 u2 u3 v2 hlk
        go_wp2_with fail
        go_loopg [6] A2'.length (fun G v wr => ∃ (i : Nat) (A2 out2 : List Mv) (ov2 : Value), v = .int .i64 i ∧ G = A2.length ∧ ∃ hi : i < l.length, Hid (CiI (t1, t2) wt wr B sb gb sm rm (some ⟨b, o, none⟩) ln lc ov2 l A2 out2 l[k] l[i].1 k ∧ (i = k ∨ l[i] ∈ A2)))
        case atStart => exact ⟨s', A2', out2', ov2', rfl, rfl, hs', HI2.out.1.keep HBB.out (below_drewN0 _ _), HI2.out.2⟩
        case round =>
          clear HI2
          obtain ⟨i, A3, out3, ov3, rfl, rfl, hif, HI⟩ := hrel
          have hsx : sb < wr.heap.size := (Array.getElem?_eq_some_iff.1 HI.out.1.s.q.box).1
          by_cases hik : i = k
          · subst hik
            have hd1 : ((i : Int) == (i : Int)) = true := by simp
            have htb2 := HI.out.1.s.k.bx _ _ HTB.out
            have u0 : wr.cell? ⟨tb, 0, none⟩ = some (.int .i64 t1) := cell_arr htb2 rfl
            have u1 : wr.cell? ⟨tb, 1, none⟩ = some (.int .i64 t2) := cell_arr htb2 rfl
            have HPT : Hid (Calls Try.prog 34 #[.pointer (some ⟨sb, 0, none⟩), .int .i64 i, .agg #[.int .i64 t1, .int .i64 t2]] wr fun e w' => e = .returned (.tuple #[]) ∧ ∃ ov A out, CiS (t1, t2) wt w' B sb gb sm rm (some ⟨b, o, none⟩) ln lc ov l A A out ∧ Bal A ∧ out.length + 2 * A.length ≤ 2 * ln ∧ ∀ j, ∀ hj : j < l.length, j < i + 1 → l[j] ∉ A) := by
              have hI := HI.out.1
              have hB2 : B ≤ wr.heap.size := by have := hI.s.k.bel.size; have := HBB.out; omega
              refine (put_any wr hI.s.q hB2 (by have := hI.o; simp only [List.length_cons] at this; omega) hI.s.f.nodup hI.s.f.gd.nodup i hif (by simp) (t1, t2) HFT.out).mono ?_
              rintro e w' ⟨rfl, ov', hq, ho⟩
              obtain ⟨p1, p2, p3⟩ := hI.last hq (hI.s.q.kp hB2 ho)
              refine ⟨rfl, ov', A3, _, p1, p2, p3, fun j hj hjk hm => ?_⟩
              by_cases e : j = i
              · subst e
                exact (List.nodup_cons.1 hI.s.f.nodup).1 hm
              · exact hI.n j hj (by omega) hm
            clear htb2
            go_wp2_with (first
              | (go_at_call 34; refine HPT.out.mono ?_; rintro e w2 ⟨rfl, hN2⟩; have HN2 : Hid _ := hN2; clear hN2))
            go_roundw
            case rel => exact ⟨i + 1, by omega, by go_num, HN2⟩
            case measure => simp [intOf]; omega
          · have hd1 : ((i : Int) == (k : Int)) = false := by simp; omega
            have hiln : i < ln := by have := HN.out; omega
            have hmA : l[i] ∈ A3 := by
              rcases HI.out.2 with h | h
              · exact absurd h hik
              · exact h
            have HMA : Hid (l[i] ∈ A3) := hmA
            have hat : AtM wr b o l := by
              obtain ⟨b2, o2, e2, _, h2⟩ := HI.out.1.s.q.ar hne
              cases e2
              exact h2
            have hbl := hat.lt
            obtain ⟨_, _, c2, c3⟩ := hat.cell i hif
            obtain ⟨x, hx⟩ : ∃ x, l[i] = x := ⟨_, rfl⟩
            have HLI : Hid (l[i] = x) := hx
            have hfx := (HI.out.1.s.q.fit _ (List.getElem_mem hif)).f
            rw [hx] at c2 c3 hfx
            obtain ⟨⟨x1, x2⟩, ⟨x3, x4⟩⟩ := x
            simp only at c2 c3 hfx
            have HFX : Hid (FitL (x3, x4)) := hfx
            have x0 : wr.cell? ⟨sb, 0, none⟩ = some (.slice (some ⟨b, o, none⟩) ln lc) := cell_arr HI.out.1.s.q.box rfl
            have HPT : Hid (Calls Try.prog 34 #[.pointer (some ⟨sb, 0, none⟩), .int .i64 i, .agg #[.int .i64 x3, .int .i64 x4]] wr fun e w' => e = .returned (.tuple #[]) ∧ ∃ ov, CiI (t1, t2) wt w' B sb gb sm rm (some ⟨b, o, none⟩) ln lc ov l (A3.erase l[i]) (out3 ++ [l[i]]) l[k] l[i].2 k) := by
              have hI := HI.out.1
              have hB2 : B ≤ wr.heap.size := by have := hI.s.k.bel.size; have := HBB.out; omega
              refine (put_any wr hI.s.q hB2 (by have := hI.o; simp only [List.length_cons] at this; omega) hI.s.f.nodup hI.s.f.gd.nodup i hif (List.mem_cons_of_mem _ hmA) (x3, x4) hfx).mono ?_
              rintro e w' ⟨rfl, ov', hq, ho⟩
              have e1 : (l[i].1, ((x3, x4) : Lc)) = l[i] := by rw [HLI.out]
              rw [e1] at hq
              exact ⟨rfl, ov', hI.put hmA hq (hI.s.q.kp hB2 ho)⟩
            clear hat hx hfx hmA
            go_wp2_with (first
              | (go_at_call 34; refine HPT.out.mono ?_; rintro e w2 ⟨rfl, ov4, hI4⟩
                 have HI4 : Hid (CiI (t1, t2) wt w2 B sb gb sm rm (some ⟨b, o, none⟩) ln lc ov4 l (A3.erase l[i]) (out3 ++ [l[i]]) l[k] l[i].2 k) := hI4
                 have z0 : w2.cell? ⟨sb, 0, none⟩ = some (.slice (some ⟨b, o, none⟩) ln lc) := cell_arr hI4.s.q.box rfl
                 have z2 : w2.cell? ⟨sb, 2, none⟩ = some (.map (some sm)) := cell_arr hI4.s.q.box rfl
                 have hat4 : AtM w2 b o l := by
                   obtain ⟨b2, o2, e2, _, h2⟩ := hI4.s.q.ar hne
                   cases e2
                   exact h2
                 obtain ⟨_, _, z3, z4⟩ := hat4.cell i hif
                 rw [HLI.out] at z3 z4
                 simp only at z3 z4
                 have hlk : ∀ k, _ := fun k => (hI4.s.q.st.move (w' := w2.drewN k) rfl).look HFX.out
                 simp only at hlk
                 clear hI4 hat4))
            obtain ⟨s, hs2, es1, es2⟩ := circle_next HI4.out.s.f HI4.out.c
            obtain ⟨s2, hs3, es3, es4⟩ := ix_some (l := l) (p := (x3, x4)) (by have h5 := List.mem_map_of_mem (f := Prod.fst) (List.getElem_mem hs2); rw [es1, HLI.out] at h5; exact h5)
            have ess : s2 = s := HI4.out.s.f.gd.inj hs3 hs2 (by rw [es4, es1, HLI.out])
            subst ess
            rw [es3] at hlk
            have HNX : Hid (CiI (t1, t2) wt w2 B sb gb sm rm (some ⟨b, o, none⟩) ln lc ov4 l (A3.erase l[i]) (out3 ++ [l[i]]) l[k] l[s2].1 k ∧ (s2 = k ∨ l[s2] ∈ A3.erase l[i])) := by
              refine ⟨by rw [es1]; exact HI4.out, ?_⟩
              rcases es2 with e | e
              · exact .inl (HI4.out.s.f.gd.inj hs2 hkf (by rw [e]))
              · exact .inr e
            clear es1 es2 es3 es4
            go_quiet (fail)
            go_wp2_with fail
            go_roundg (A3.erase l[i]).length
            case rel => exact ⟨s2, _, _, ov4, by first | rfl | go_num, rfl, hs2, HNX.out.1.keep HBB.out (below_drewN0 _ _), HNX.out.2⟩
            case measure => have h1 := List.length_erase_of_mem HMA.out; have h2 := List.length_pos_of_mem HMA.out; omega
      · have hdi : decide (((m1, m2), (m3, m4)) ∈ A1) = false := by simpa using hin
        rw [hdi] at yl
        have HIN : Hid (((m1, m2), (m3, m4)) ∉ A1) := hin
        clear hin hdi
        go_wp2_with fail
        go_roundw
        case rel =>
          refine ⟨k + 1, by omega, by go_num, ⟨ov1, A1, out1, HCC.out.keep HBB.out (by repeat (first | refine Below.alloc ?_ (by first | omega | (simp; done) | (simp; omega)) _ | refine Below.drew ?_ | exact Below.refl _ _)), HBL.out, HO1.out, fun j hj hjk hm => ?_⟩⟩
          by_cases e : j = k
          · subst e
            exact HIN.out (by rw [← HLK.out]; exact hm)
          · exact HNO.out j hj (by omega) hm
        case measure => simp [intOf]; omega
    · obtain rfl : k = ln := by omega
      go_wp2_with fail
      refine bodyPost_end (v := .tuple #[]) (by simp [results, Try.results25, go_sem]) rfl ?_
      obtain ⟨ov1, A1, out1, hC1, _, _, hno⟩ := HC.out
      have hA : A1 = [] := by
        cases A1 with
        | nil => rfl
        | cons a A =>
          obtain ⟨j, hj, e⟩ := List.getElem_of_mem (hC1.f.sub.subset (by simp : a ∈ a :: A))
          exact absurd (by rw [e]; simp) (hno j hj (by have := HN.out; omega))
      subst hA
      exact ⟨rfl, ov1, out1, ⟨hC1.q, hC1.f, hC1.d, HKW.out.trans hC1.k⟩⟩
end Go.Proofs.Ytdoiblknbpbhaaa
