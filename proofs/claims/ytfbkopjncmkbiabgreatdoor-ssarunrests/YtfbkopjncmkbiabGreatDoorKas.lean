import Derived.Test.YtfbkopjncmkbiabGreatDoorKar
set_option linter.unusedVariables false
set_option linter.unusedSimpArgs false
namespace Go.Proofs.YtfbkopjncmkbiabGreatDoor
open Go.ChangeShapes Go.WideShapes Go.ChangeAt Go.RowKit Go.Maps
theorem pvs_set2 (L : List (Int × Int)) (i : Nat) (b : Int) (h : i < L.length) : pvs (L.set i (L[i].1, b)) = (pvs L).set (i * 2 + 1) (.int .i64 b) := by
 rw [pvs_set L i _ b h]
 have := (pvs_at L i h).1
 have e : (pvs L).set (i * 2) (.int .i64 L[i].1) = pvs L := by
  apply List.ext_getElem?
  intro j
  rw [List.getElem?_set]
  split
  ·next q => subst q; rw [this]; split <;> simp_all
  ·rfl
 rw [e]
theorem Pl.put2 {w : World} {g n t L} (h : Pl w g n t L) {i : Nat} (hi : i < n) (b : Int) : Pl (w.setCell ⟨g, i * 2 + 1, none⟩ (.int .i64 b)) g n t (L.set i ((gp L i).1, b)) := by
 have hi' : i < L.length := by have := h.len; omega
 refine ⟨?_, by simpa using h.len⟩
 have h2 := heap_set_at (i := i * 2 + 1) (v := .int .i64 b) h.row
 have e : gp L (i : Int) = L[i] := by simp [gp, hi']
 rw [h2, e, pvs_set2 L i b hi']
 simp
theorem Pl.at2 {w : World} {g n t L} (h : Pl w g n t L) {i : Nat} (hi : i < n) : w.cell? ⟨g, i * 2 + 1, none⟩ = some (.int .i64 (gp L i).2) := by
 have hi' : i < L.length := by have := h.len; omega
 have e : gp L (i : Int) = L[i] := by simp [gp, hi']
 rw [e]
 exact cell_arr h.row (by simpa using (pvs_at L i hi').2)
theorem line_pos {T D rk} (t : TreeOK T D rk) : 0 < (lineP T).length := by
 obtain ⟨i, hi, _⟩ := (lineP_places t).all 0 t.ne
 omega
set_option maxRecDepth 100000 in
set_option maxHeartbeats 4000000 in
theorem regions_any (w : World) (ao : Option Addr) (n c : Nat) (T : List Int) (hn : n = T.length) (hT : Ints w ao c T) {D : Int -> Int -> Prop} {rk : Int -> Nat} (t : TreeOK T D rk) (hsz : n <= 1000000) :
 Calls Tryz.prog 100 #[.slice ao n c] w fun e w' => ∃ g, e = .returned (.slice (some ⟨g, 0, none⟩) n n) /\ Pl w' g n 160 (regP T) /\ Below w.heap.size w w' := by
 have hmk := run_regions n (by omega)
 obtain ⟨g, hg⟩ : ∃ g, g = w.heap.size := ⟨_, rfl⟩
 obtain ⟨w2, hw2⟩ : ∃ w2, w2 = w.alloc (.cells (pvs (List.replicate n (0, 0))).toArray 160) := ⟨_, rfl⟩
 have b2 : Below w.heap.size w w2 := by rw [hw2]; exact below_new _ _
 have s2 : w2.heap.size = g + 1 := by rw [hw2, hg]; simp
 have p2 : Pl w2 g n 160 (List.replicate n (0, 0)) := by
  refine ⟨?_, by simp⟩
  rw [hw2, hg]
  exact heap_alloc_new _ _
 have HO : Hid _ := outer_any w2 ao n c T hn (hT.below b2 (Nat.le_refl _)) t hsz
 have HT : Hid (Ints w ao c T) := hT
 have HN : Hid (n = T.length) := hn
 have HOK : Hid (TreeOK T D rk) := t
 have HLP : Hid (LP T D (lineP T)) := lineP_places t
 have hlp := line_pos t
 have hln : (lineP T).length <= n := by have := (lineP_inv t).few; simp at this; omega
 obtain ⟨line, hline⟩ : ∃ line, line = lineP T := ⟨_, rfl⟩
 have HLI : Hid (line = lineP T) := hline
 rw [<- hline] at HO HLP hlp hln
 obtain ⟨ll, hll⟩ : ∃ ll, ll = line.length := ⟨_, rfl⟩
 rw [<- hll] at HO hlp hln
 have HLL : Hid (ll = line.length) := hll
 have HG : Hid (g = w.heap.size) := hg
 have HP2 : Hid _ := p2
 have HB2 : Hid _ := b2
 have HS2 : Hid _ := s2
 clear hT hn t p2 b2 s2 hline hll
 go_enter Tryz.func100, Tryz.ntmps100
 go_wp2_with fail
 rw [<- hw2]
 clear hw2 hmk
 go_wp2_with (go_at_call 135; refine Calls.mono HO.out ?_; rintro e w3 ⟨v, rfl, hv, hb3⟩; obtain ⟨la, lc, e3, _, _⟩ := own_slice hv.out; subst e3)
 rw [<- hg]
 clear hg HO
 obtain ⟨la', lc', e4, hLI⟩ := hv.ints
 cases e4
 have HLN : Hid (∀ wr, Only (fun k => k = g) w3 wr -> Ints wr la lc line) := by
  intro wr h
  refine ⟨hLI.le, hLI.mx, fun hne => ?_⟩
  obtain ⟨b, o, e, hA⟩ := hLI.out hne
  obtain ⟨g', c', e5, h1, h2, h3, h4⟩ := own_some hv.out (by omega)
  rw [e] at e5
  simp only [Value.slice.injEq, Option.some.injEq, Addr.mk.injEq] at e5
  have hgb : b ≠ g := by have := HS2.out; omega
  have hblk := h.block b hA.lt hgb
  refine ⟨b, o, e, ⟨by have := h.size; have := hA.lt; omega, fun i hi => ?_⟩⟩
  have e2 := hA.cell i hi
  simp only [World.cell?, hblk] at e2 ⊢
  exact e2
 have HTR : Hid (∀ wr, Only (fun k => k = g) w3 wr -> Ints wr ao c T /\ Below w.heap.size w wr) := by
  intro wr h
  have h1 : Below w.heap.size w w3 := HB2.out.trans (hb3.mono (by have := HS2.out; have := HG.out; omega))
  have h2 : Below w.heap.size w wr := h1.trans (h.below (by have := h1.size; omega) fun k e => by have := HG.out; omega)
  exact ⟨HT.out.below h2 (Nat.le_refl _), h2⟩
 have HP3 : Hid (Pl w3 g n 160 (List.replicate n (0, 0))) := HP2.out.keep hb3
 clear hv hb3 hLI HP2 HB2
 go_loopw [17] (fun v wr => ∃ k : Nat, k <= ll /\ v = .int .i64 k /\ Hid (Pl wr g n 160 (nmN n line k)) /\ Hid (Only (fun k => k = g) w3 wr)) (fun v _ => ll - (intOf v).toNat)
 case atStart => exact ⟨0, by omega, rfl, HP3.out, Only.refl _ _⟩
 case round =>
  clear HP3
  obtain ⟨k, hk, rfl, HP, HO⟩ := hrel
  by_cases hlt : k < ll
  ·have hk2 : k < line.length := by have := HLL.out; omega
   obtain ⟨b1, o1, e6, kx⟩ := (HLN.out wr HO.out).at hk2
   have hx := HLP.out.rng k hk2
   have hgk := gn_at hk2
   obtain ⟨p, hp⟩ : ∃ p : Nat, gn line k = p := ⟨(gn line k).toNat, by omega⟩
   have hpv : p < n := by have := HN.out; omega
   have HNEXT : Hid (nmN n line (k + 1) = (nmN n line k).set p ((k : Int), (k : Int) + 1)) := by show _ = _; simp only [nmN]; rw [hp, Int.toNat_natCast]
   rw [<- hgk, hp] at kx
   obtain ⟨⟨z1, q1⟩, ⟨z2, q2⟩, q3, q4, q5⟩ := HP.out.cell hpv
   have HP2 : Hid _ := HP.out.put hpv (k : Int) ((k : Int) + 1)
   have HO2 : Hid (Only (fun k => k = g) w3 ((wr.setCell ⟨g, p * 2, none⟩ (.int .i64 (k : Int))).setCell ⟨g, p * 2 + 1, none⟩ (.int .i64 ((k : Int) + 1)))) := (HO.out.trans (Only.of_set _ _ _) (fun i _ h => h)).trans (Only.of_set _ _ _) (fun i _ h => h)
   subst e6
   clear hx hgk hp HP HO
   go_wp2_with fail
   go_roundw
   case rel => exact ⟨k + 1, by omega, by go_num, by rw [HNEXT.out]; exact HP2.out, HO2.out⟩
   case measure => simp [intOf]; omega
  ·have hkn : k = ll := by omega
   subst hkn
   have HP0 : Hid (Pl wr g n 160 (enN T line 0)) := by have := HP.out; rw [HLL.out, HN.out] at this; rw [HN.out]; exact this
   have HO0 : Hid _ := HO.out
   clear HP HO
   go_wp2_with fail
   go_loopw [33] (fun v wr => ∃ i : Nat, i <= k - 1 /\ v = .int .i64 i /\ Hid (Pl wr g n 160 (enN T line i)) /\ Hid (Only (fun k => k = g) w3 wr)) (fun v _ => k - 1 - (intOf v).toNat)
   case atStart => exact ⟨0, by omega, rfl, HP0.out, HO0.out⟩
   case round =>
    clear HP0 HO0
    obtain ⟨i, hi, rfl, HP, HO⟩ := hrel
    by_cases hil : i < k - 1
    ·obtain ⟨j, hj⟩ : ∃ j, k = j + 1 + i + 1 := ⟨k - 2 - i, by omega⟩
     have hj2 : j + 1 < line.length := by have := HLL.out; omega
     obtain ⟨b1, o1, e6, kx⟩ := (HLN.out wr HO.out).at hj2
     have hx := HLP.out.rng (j + 1) hj2
     have hgk := gn_at hj2
     obtain ⟨b, hb⟩ : ∃ b : Nat, gn line (j + 1) = b := ⟨(gn line (j + 1)).toNat, by omega⟩
     have hbn : b < n := by have := HN.out; omega
     have hbT : b < T.length := by have := HN.out; omega
     rw [<- hgk, hb] at kx
     have hpar := HOK.out.parI (c := (b : Int)) (by omega) (by rw [<- hb]; exact HLP.out.nz hj2 (by omega))
     rw [Int.toNat_natCast] at hpar
     obtain ⟨b2, o2, e7, ky⟩ := (HTR.out wr HO.out).1.at hbT
     have hgt := gn_at hbT
     obtain ⟨t, ht⟩ : ∃ t : Nat, gn T b = t := ⟨(gn T b).toNat, by omega⟩
     rw [<- hgt, ht] at ky
     have htn : t < n := by have := HN.out; omega
     have HNEXT : Hid (enN T line (i + 1) = (enN T line i).set t ((gp (enN T line i) t).1, max (gp (enN T line i) t).2 (gp (enN T line i) b).2)) := by
      show _ = _
      simp only [enN, enS]
      rw [show line.length - 1 - i = j + 1 by have := HLL.out; omega, hb, Int.toNat_natCast, ht, Int.toNat_natCast]
     have k1 := HP.out.at2 htn
     have k2 := HP.out.at2 hbn
     have fz : wr.frozen? ⟨g, t * 2 + 1, none⟩ = false := fz_of HP.out.row
     have hgl : g < wr.heap.size := (gl HP.out.row)
     obtain ⟨e1, he1⟩ : ∃ e1, e1 = (gp (enN T line i) t).2 := ⟨_, rfl⟩
     obtain ⟨e2, he2⟩ : ∃ e2, e2 = (gp (enN T line i) b).2 := ⟨_, rfl⟩
     rw [<- he1] at k1
     rw [<- he2] at k2
     have HPN : Hid (∀ e, e = max e1 e2 -> Pl (wr.setCell ⟨g, t * 2 + 1, none⟩ (.int .i64 e)).drew g n 160 (enN T line (i + 1))) := by
      intro e he
      rw [HNEXT.out, <- he1, <- he2, he]
      exact (HP.out.put2 htn (max e1 e2)).keep (Below.refl _ _).drew
     have HON : Hid (∀ e, Only (fun k => k = g) w3 (wr.setCell ⟨g, t * 2 + 1, none⟩ (.int .i64 e)).drew) := fun e => (HO.out.trans (Only.of_set _ _ _) (fun i _ h => h)).trans (Only.of_below (Below.refl _ _).drew (fun k => k = g)) (fun i _ h => h)
     have S0 : (fun w' : World => w'.cell? ⟨g, t * 2 + 1, none⟩ = some (.int .i64 e1) /\ w'.cell? ⟨g, b * 2 + 1, none⟩ = some (.int .i64 e2)) wr.drew := ⟨cellD k1, cellD k2⟩
     subst e6
     subst e7
     have hji : (k : Int) - 1 - (i : Int) = ((j + 1 : Nat) : Int) := by omega
     have hjk : j + 1 < k := by omega
     clear hx hgk hb hpar hgt ht he1 he2 HP HO
     clear hj
     go_wp2_with fail
     refine led_start (S := fun w' : World => w'.cell? ⟨g, t * 2 + 1, none⟩ = some (.int .i64 e1) /\ w'.cell? ⟨g, b * 2 + 1, none⟩ = some (.int .i64 e2)) (z := 13) (by kernel_rfl) ?_
     refine led_n 0 S0 ?_
     refine led_n 1 S0 ?_
     refine led_n 2 S0 ?_
     refine led_n 3 S0 ?_
     refine led_n 4 S0 ?_
     refine led_n 5 S0 ?_
     refine led_n 6 S0 ?_
     refine led_n 7 S0 ?_
     refine led_n 8 S0 ?_
     refine led_n 9 S0 ?_
     refine led_n 10 S0 ?_
     refine led_one (i := 11) rfl (by kernel_rfl) ?_
     intro K11 hK11
     rw [if_pos (by rfl)]
     go_simp
     refine hK11 _ _ (fun _ => S0) ?_
     clear hK11
     try simp only [Act.put, zi, zz, zs]
     refine led_one (i := 12) rfl (by kernel_rfl) ?_
     intro K12 hK12
     rw [if_pos (by rfl)]
     go_simp
     refine hK12 _ _ (fun _ => S0) ?_
     clear hK12
     try simp only [Act.put, zi, zz, zs]
     refine led_one (i := 13) rfl (by kernel_rfl) ?_
     intro K3 hK3
     rw [if_pos (by rfl)]
     go_simp
     refine hK3 _ _ (fun h => absurd rfl h) ?_
     clear hK3 S0
     refine led_done (by kernel_rfl) ?_
     go_wp2_with fail
     all_goals
      go_roundw
      case rel => exact ⟨i + 1, by omega, by go_num, HPN.out _ (by omega), HON.out _⟩
      case measure => simp [intOf]; omega
    ·have hin : i = k - 1 := by omega
     subst hin
     have HR : Hid (Pl wr g n 160 (regP T)) := by have := HP.out; unfold regP; rw [<- HLI.out, <- HLL.out]; exact this
     have HL : Hid _ := (HTR.out wr HO.out).2
     clear HP HO
     go_wp2_with fail
     go_ret
     exact ⟨_, rfl, HR.out, HL.out⟩
def useA (P R : List (Int × Int)) (preds : List Int) (i : Nat) (arg : Int) : Bool := thereP P R arg (gn preds i)
def useP (f : Fu) (P R : List (Int × Int)) (preds : List Int) (phi : Int) : Bool := evr (useA P R preds) 0 (gv f phi).args
def useV (f : Fu) (P R : List (Int × Int)) (b at_ : Nat) (v : Int) : Bool := (gv f v).args.all (fun arg => aheadP P R arg b at_)
def useB (f : Fu) (P R : List (Int × Int)) (b : Nat) (k : Bk) : Bool := k.phis.all (useP f P R k.preds) && (evr (useV f P R b) 0 k.body && (decide (k.val = -1) || thereP P R k.val b))
structure UC (w : World) (ub : Nat) (qa : Option Addr) (qn qc : Nat) (ra : Option Addr) (rn rc : Nat) (P R : List (Int × Int)) : Prop where
 box : w.heap[ub]? = some (.cells #[.slice qa qn qc, .slice ra rn rc] 131 (0, 0))
 eq : qn = P.length
 er : rn = R.length
 hP : Prs w qa qc P
 hR : Prs w ra rc R
 ok : ∀ v, v < qn -> (P.getD v (0, 0)).1 = -1 \/ (0 <= (P.getD v (0, 0)).1 /\ (P.getD v (0, 0)).1 < rn)
theorem UC.below {w w' : World} {ub qa qn qc ra rn rc P R} (h : UC w ub qa qn qc ra rn rc P R) (hb : Below w.heap.size w w') : UC w' ub qa qn qc ra rn rc P R :=
 ⟨(hb.block _ (gl h.box)).trans h.box, h.eq, h.er, h.hP.below hb (Nat.le_refl _), h.hR.below hb (Nat.le_refl _), h.ok⟩
theorem UC.there {w : World} {ub qa qn qc ra rn rc P R} (h : UC w ub qa qn qc ra rn rc P R) (v k : Int) (hv : wi qn v = true) (hk : wi rn k = true) (T : Bool) (hT : thereP P R v k = T) :
 Calls Tryz.prog 105 #[.agg #[.slice qa qn qc, .slice ra rn rc], .int .i64 v, .int .i64 k] w fun e w' => e = .returned (.bool T) /\ Below w.heap.size w w' := by
 subst hT
 simp only [wi, decide_eq_true_eq] at hv hk
 obtain ⟨i, rfl⟩ : ∃ i : Nat, v = i := ⟨v.toNat, by omega⟩
 obtain ⟨j, rfl⟩ : ∃ j : Nat, k = j := ⟨k.toNat, by omega⟩
 exact isThere_any w qa qn qc ra rn rc P R h.eq h.er h.hP h.hR i j (by omega) (by omega) (h.ok i (by omega))
theorem UC.ahead {w : World} {ub qa qn qc ra rn rc P R} (h : UC w ub qa qn qc ra rn rc P R) (v : Int) (k : Nat) (at_ : Int) (hv : wi qn v = true) (hk : k < rn) (T : Bool) (hT : aheadP P R v k at_ = T) :
 Calls Tryz.prog 108 #[.agg #[.slice qa qn qc, .slice ra rn rc], .int .i64 v, .agg #[.int .i64 (k : Int), .int .i64 at_]] w fun e w' => e = .returned (.bool T) /\ Below w.heap.size w w' := by
 subst hT
 simp only [wi, decide_eq_true_eq] at hv
 obtain ⟨i, rfl⟩ : ∃ i : Nat, v = i := ⟨v.toNat, by omega⟩
 exact isAhead_any w qa qn qc ra rn rc P R h.eq h.er h.hP h.hR i k at_ (by omega) (by omega) (h.ok i (by omega))
theorem opens_u1 : Opens 102 := Opens.of Tryz.func102 (by kernel_rfl) rfl
theorem opens_u11 : Opens 103 := Opens.of Tryz.func103 (by kernel_rfl) rfl
theorem opens_u111 : Opens 104 := Opens.of Tryz.func104 (by kernel_rfl) rfl
theorem opens_u12 : Opens 106 := Opens.of Tryz.func106 (by kernel_rfl) rfl
theorem opens_u121 : Opens 107 := Opens.of Tryz.func107 (by kernel_rfl) rfl
set_option maxRecDepth 100000 in
set_option maxHeartbeats 2000000 in
theorem uses111_any (w : World) {ub kb : Nat} {qa : Option Addr} {qn qc : Nat} {ra : Option Addr} {rn rc : Nat} {P R : List (Int × Int)} (U : UC w ub qa qn qc ra rn rc P R) {ka : Option Addr} {kl kc : Nat} {la : Option Addr} {ll lc : Nat} {kd vl : Int} {ma : Option Addr} {ml mc : Nat} {na : Option Addr} {nl nc : Nat} (hk : w.heap[kb]? = some (.cells #[.slice ka kl kc, .slice la ll lc, .int .i64 kd, .int .i64 vl, .slice ma ml mc, .slice na nl nc] 30 (0, 0))) (N : List Int) (hN : nl = N.length) (hI : Ints w na nc N) (hNr : ∀ x ∈ N, wi rn x = true) (i : Nat) (hi : i < nl) (x : Int) (hx : wi qn x = true) :
 Calls Tryz.prog 104 #[.int .i64 i, .int .i64 x, .pointer (some ⟨ub, 0, none⟩), .pointer (some ⟨kb, 0, none⟩)] w fun e w' => e = .returned (.bool (useA P R N i x)) /\ Below w.heap.size w w' := by
 have hi' : i < N.length := by omega
 have hlu := (gl U.box)
 have hlk := (gl hk)
 have u0 : w.cell? ⟨ub, 0, none⟩ = some (.slice qa qn qc) := cell_arr U.box rfl
 have u1 : w.cell? ⟨ub, 1, none⟩ = some (.slice ra rn rc) := cell_arr U.box rfl
 obtain ⟨b0, b1, b2, b3, b4, b5⟩ := bcells hk
 obtain ⟨nb, no, rfl, ky⟩ := hI.at hi'
 have hln := block_lt_of_cell ky
 have hy := hNr N[i] (List.getElem_mem hi')
 have ey : gn N i = N[i] := gn_at hi'
 unfold useA
 rw [ey]
 obtain ⟨y, hyy⟩ : ∃ y, y = N[i] := ⟨_, rfl⟩
 rw [<- hyy] at ky hy ⊢
 have hnx : nl <= 9223372036854775807 := by have := hI.le; have := hI.mx; omega
 generalize hT : thereP P R x y = T
 have hd : Below w.heap.size w w.drew := (Below.refl _ _).drew
 have HU : Hid (UC w.drew ub qa qn qc ra rn rc P R) := U.below hd
 have S0 : (fun w' : World => w'.cell? ⟨ub, 0, none⟩ = some (.slice qa qn qc) /\ w'.cell? ⟨ub, 1, none⟩ = some (.slice ra rn rc) /\ w'.cell? ⟨kb, 5, none⟩ = some (.slice (some ⟨nb, no, none⟩) nl nc) /\ w'.cell? ⟨nb, no + i, none⟩ = some (.int .i64 y)) w.drew := ⟨u0, u1, b5, ky⟩
 have HS : Hid (∀ w1, Below w.drew.heap.size w.drew w1 -> (fun w' : World => w'.cell? ⟨ub, 0, none⟩ = some (.slice qa qn qc) /\ w'.cell? ⟨ub, 1, none⟩ = some (.slice ra rn rc) /\ w'.cell? ⟨kb, 5, none⟩ = some (.slice (some ⟨nb, no, none⟩) nl nc) /\ w'.cell? ⟨nb, no + i, none⟩ = some (.int .i64 y)) w1) := fun w1 hb1 => ⟨(hb1.cell (p := ⟨ub, 0, none⟩) hlu).trans u0, (hb1.cell (p := ⟨ub, 1, none⟩) hlu).trans u1, (hb1.cell (p := ⟨kb, 5, none⟩) hlk).trans b5, (hb1.cell (p := ⟨nb, no + i, none⟩) hln).trans ky⟩
 clear U hI hNr hk hN hyy ey hi' hln b0 b1 b2 b3 b4
 go_enter Tryz.func104, Tryz.ntmps104
 go_wp2_with fail
 go_region_held (fun w' => w'.cell? ⟨ub, 0, none⟩ = some (.slice qa qn qc) /\ w'.cell? ⟨ub, 1, none⟩ = some (.slice ra rn rc) /\ w'.cell? ⟨kb, 5, none⟩ = some (.slice (some ⟨nb, no, none⟩) nl nc) /\ w'.cell? ⟨nb, no + i, none⟩ = some (.int .i64 y)) (first | exact S0 | exact S1)
  (first | (go_at_call 105; refine (HU.out.there _ _ hx hy _ hT).mono ?_; rintro e w1 ⟨rfl, hb1⟩; have S1 := HS.out w1 hb1))
 all_goals go_wp2_with fail
 all_goals go_ret
 all_goals first | exact ⟨rfl, hd.trans hb1⟩ | exact ⟨rfl, below_drawn (hd.trans hb1) _⟩
theorem everyU111_at (w : World) {ub kb : Nat} {qa : Option Addr} {qn qc : Nat} {ra : Option Addr} {rn rc : Nat} {P R : List (Int × Int)} (U : UC w ub qa qn qc ra rn rc P R) {ka : Option Addr} {kl kc : Nat} {la : Option Addr} {ll lc : Nat} {kd vl : Int} {ma : Option Addr} {ml mc : Nat} {na : Option Addr} {nl nc : Nat} (hk : w.heap[kb]? = some (.cells #[.slice ka kl kc, .slice la ll lc, .int .i64 kd, .int .i64 vl, .slice ma ml mc, .slice na nl nc] 30 (0, 0))) (N : List Int) (hN : nl = N.length) (hI : Ints w na nc N) (hNr : ∀ x ∈ N, wi rn x = true) (ao : Option Addr) (n c : Nat) (L : List Int) (hn : n = L.length) (hL : Ints w ao c L) (hLr : ∀ x ∈ L, wi qn x = true) (hle : n <= nl) (T : Bool) (hT : evr (useA P R N) 0 L = T) :
 Calls Tryz.prog 78 #[.slice ao n c, .func (.func 104) #[] #[.pointer (some ⟨ub, 0, none⟩), .pointer (some ⟨kb, 0, none⟩)]] w fun e w' => e = .returned (.bool T) /\ Below w.heap.size w w' := by
 subst hT
 refine everyI_any w ao c n L hn hL _ _ _ opens_u111 _ (Asks.two fun W i x hi hb hv => ?_)
 obtain rfl := hv.out
 exact uses111_any W (U.below hb) ((hb.block _ (gl hk)).trans hk) N hN (hI.below hb (Nat.le_refl _)) hNr i (by omega) L[i] (hLr _ (List.getElem_mem hi))
set_option maxRecDepth 100000 in
set_option maxHeartbeats 2000000 in
theorem uses11_any (w : World) {s : ByteArray} {pa : Option Addr} {pn pc : Nat} {r : Int} {va : Option Addr} {vn vc : Nat} {ba : Option Addr} {bn bc : Nat} {fa : Option Addr} {fn fc : Nat} {f : Fu} {FS : List Fu} (C : Ctx w s pa pn pc r va vn vc ba bn bc fa fn fc f FS) (fb : Nat) (hf : w.heap[fb]? = some (.cells #[.string s, .slice pa pn pc, .int .i64 r, .slice va vn vc, .slice ba bn bc, .slice fa fn fc] 77 (0, 0))) {ub kb : Nat} {qa : Option Addr} {qc : Nat} {ra : Option Addr} {rn rc : Nat} {P R : List (Int × Int)} (U : UC w ub qa vn qc ra rn rc P R) {ka : Option Addr} {kl kc : Nat} {la : Option Addr} {ll lc : Nat} {kd vl : Int} {ma : Option Addr} {ml mc : Nat} {na : Option Addr} {nl nc : Nat} (hk : w.heap[kb]? = some (.cells #[.slice ka kl kc, .slice la ll lc, .int .i64 kd, .int .i64 vl, .slice ma ml mc, .slice na nl nc] 30 (0, 0))) (N : List Int) (hN : nl = N.length) (hI : Ints w na nc N) (hNr : ∀ x ∈ N, wi rn x = true) (i : Nat) (x : Int) (hx : wi vn x = true) (hxr : ∀ y ∈ (gv f x).args, wi vn y = true) (hxl : (gv f x).args.length = nl) :
 Calls Tryz.prog 103 #[.int .i64 i, .int .i64 x, .pointer (some ⟨fb, 0, none⟩), .pointer (some ⟨ub, 0, none⟩), .pointer (some ⟨kb, 0, none⟩)] w fun e w' => e = .returned (.bool (useP f P R N x)) /\ Below w.heap.size w w' := by
 obtain ⟨f0, f1, f2, f3, f4, f5⟩ := fcells hf
 obtain ⟨j, b, o, xa, xl, xc, rfl, hj, hvn, rfl, hlt, c0, c1, c2, c3, hkl, hA⟩ := C.val hx
 unfold useP
 have HE : Hid _ := everyU111_at w U hk N hN hI hNr xa xl xc (gv f (j : Int)).args hkl hA hxr (by omega) _ rfl
 generalize evr (useA P R N) 0 (gv f (j : Int)).args = T at HE
 clear C hf U hk hI hNr hxr hxl hkl hA hx hN c0 c1 c2
 go_enter Tryz.func103, Tryz.ntmps103
 go_wp2_with (go_at_call 78; refine Calls.mono HE.out ?_; rintro e w1 ⟨rfl, hb1⟩)
 go_ret
 exact ⟨rfl, hb1⟩
theorem uses121_any (w : World) {ub bb ab : Nat} {qa : Option Addr} {qn qc : Nat} {ra : Option Addr} {rn rc : Nat} {P R : List (Int × Int)} (U : UC w ub qa qn qc ra rn rc P R) (k at_ : Nat) (hb : w.heap[bb]? = some (.cells #[.int .i64 (k : Int)] 3 (0, 0))) (ha : w.heap[ab]? = some (.cells #[.int .i64 (at_ : Int)] 3 (0, 0))) (hk : k < rn) (i : Nat) (x : Int) (hx : wi qn x = true) :
 Calls Tryz.prog 107 #[.int .i64 i, .int .i64 x, .pointer (some ⟨ub, 0, none⟩), .pointer (some ⟨bb, 0, none⟩), .pointer (some ⟨ab, 0, none⟩)] w fun e w' => e = .returned (.bool (aheadP P R x k at_)) /\ Below w.heap.size w w' := by
 have u0 : w.cell? ⟨ub, 0, none⟩ = some (.slice qa qn qc) := cell_arr U.box rfl
 have u1 : w.cell? ⟨ub, 1, none⟩ = some (.slice ra rn rc) := cell_arr U.box rfl
 have k0 : w.cell? ⟨bb, 0, none⟩ = some (.int .i64 (k : Int)) := cell_arr hb rfl
 have a0 : w.cell? ⟨ab, 0, none⟩ = some (.int .i64 (at_ : Int)) := cell_arr ha rfl
 have HE : Hid _ := U.ahead x k at_ hx hk _ rfl
 generalize aheadP P R x k at_ = T at HE
 clear U hb ha hx hk
 go_enter Tryz.func107, Tryz.ntmps107
 go_wp2_with (go_at_call 108; refine Calls.mono HE.out ?_; rintro e w1 ⟨rfl, hb1⟩)
 go_ret
 exact ⟨rfl, hb1⟩
theorem everyU121_at (w : World) {ub bb ab : Nat} {qa : Option Addr} {qn qc : Nat} {ra : Option Addr} {rn rc : Nat} {P R : List (Int × Int)} (U : UC w ub qa qn qc ra rn rc P R) (k at_ : Nat) (hb : w.heap[bb]? = some (.cells #[.int .i64 (k : Int)] 3 (0, 0))) (ha : w.heap[ab]? = some (.cells #[.int .i64 (at_ : Int)] 3 (0, 0))) (hk : k < rn) (ao : Option Addr) (n c : Nat) (L : List Int) (hn : n = L.length) (hL : Ints w ao c L) (hLr : ∀ x ∈ L, wi qn x = true) (T : Bool) (hT : L.all (fun arg => aheadP P R arg k at_) = T) :
 Calls Tryz.prog 78 #[.slice ao n c, .func (.func 107) #[] #[.pointer (some ⟨ub, 0, none⟩), .pointer (some ⟨bb, 0, none⟩), .pointer (some ⟨ab, 0, none⟩)]] w fun e w' => e = .returned (.bool T) /\ Below w.heap.size w w' := by
 subst hT
 rw [<- evr_plain (fun arg => aheadP P R arg k at_) L 0]
 refine everyI_any w ao c n L hn hL _ _ _ opens_u121 _ (Asks.three fun W i x hi hbW hv => ?_)
 obtain rfl := hv.out
 exact uses121_any W (U.below hbW) k at_ ((hbW.block _ (gl hb)).trans hb) ((hbW.block _ (gl ha)).trans ha) hk i L[i] (hLr _ (List.getElem_mem hi))
set_option maxRecDepth 100000 in
set_option maxHeartbeats 2000000 in
theorem uses12_any (w : World) {s : ByteArray} {pa : Option Addr} {pn pc : Nat} {r : Int} {va : Option Addr} {vn vc : Nat} {ba : Option Addr} {bn bc : Nat} {fa : Option Addr} {fn fc : Nat} {f : Fu} {FS : List Fu} (C : Ctx w s pa pn pc r va vn vc ba bn bc fa fn fc f FS) (fb : Nat) (hf : w.heap[fb]? = some (.cells #[.string s, .slice pa pn pc, .int .i64 r, .slice va vn vc, .slice ba bn bc, .slice fa fn fc] 77 (0, 0))) {ub bb : Nat} {qa : Option Addr} {qc : Nat} {ra : Option Addr} {rn rc : Nat} {P R : List (Int × Int)} (U : UC w ub qa vn qc ra rn rc P R) (k : Nat) (hb : w.heap[bb]? = some (.cells #[.int .i64 (k : Int)] 3 (0, 0))) (hk : k < rn) (i : Nat) (x : Int) (hx : wi vn x = true) (hxr : ∀ y ∈ (gv f x).args, wi vn y = true) :
 Calls Tryz.prog 106 #[.int .i64 i, .int .i64 x, .pointer (some ⟨fb, 0, none⟩), .pointer (some ⟨ub, 0, none⟩), .pointer (some ⟨bb, 0, none⟩)] w fun e w' => e = .returned (.bool (useV f P R k i x)) /\ Below w.heap.size w w' := by
 have A0 : Af1 w (.cells #[.int .i64 (i : Int)] 3) (w.alloc (.cells #[.int .i64 (i : Int)] 3)) := Af1.refl _ _
 have hf' := (A0.low.block _ (gl hf)).trans hf
 obtain ⟨f0, f1, f2, f3, f4, f5⟩ := fcells hf'
 obtain ⟨j, b, o, xa, xl, xc, rfl, hj, hvn, rfl, hlt, c0, c1, c2, c3, hkl, hA⟩ := (C.below A0.low (Nat.le_refl _)).val hx
 unfold useV
 have HE : Hid _ := everyU121_at _ (U.below A0.low) k i ((A0.low.block _ (gl hb)).trans hb) A0.one hk xa xl xc (gv f (j : Int)).args hkl hA hxr _ rfl
 generalize (gv f (j : Int)).args.all (fun arg => aheadP P R arg k i) = T at HE
 clear C hf U hb hxr hkl hA hx c0 c1 c2 hf'
 go_enter Tryz.func106, Tryz.ntmps106
 go_wp2_with (go_at_call 78; refine Calls.mono HE.out ?_; rintro e w1 ⟨rfl, hb1⟩)
 go_ret
 exact ⟨rfl, (A0.next hb1).low⟩
theorem everyU11_at (w : World) {s : ByteArray} {pa : Option Addr} {pn pc : Nat} {r : Int} {va : Option Addr} {vn vc : Nat} {ba : Option Addr} {bn bc : Nat} {fa : Option Addr} {fn fc : Nat} {f : Fu} {FS : List Fu} (C : Ctx w s pa pn pc r va vn vc ba bn bc fa fn fc f FS) (fb : Nat) (hf : w.heap[fb]? = some (.cells #[.string s, .slice pa pn pc, .int .i64 r, .slice va vn vc, .slice ba bn bc, .slice fa fn fc] 77 (0, 0))) {ub kb : Nat} {qa : Option Addr} {qc : Nat} {ra : Option Addr} {rn rc : Nat} {P R : List (Int × Int)} (U : UC w ub qa vn qc ra rn rc P R) {ka : Option Addr} {kl kc : Nat} {la : Option Addr} {ll lc : Nat} {kd vl : Int} {ma : Option Addr} {ml mc : Nat} {na : Option Addr} {nl nc : Nat} (hk : w.heap[kb]? = some (.cells #[.slice ka kl kc, .slice la ll lc, .int .i64 kd, .int .i64 vl, .slice ma ml mc, .slice na nl nc] 30 (0, 0))) (N : List Int) (hN : nl = N.length) (hI : Ints w na nc N) (hNr : ∀ x ∈ N, wi rn x = true) (ao : Option Addr) (n c : Nat) (L : List Int) (hn : n = L.length) (hL : Ints w ao c L) (hLr : ∀ x ∈ L, wi vn x = true /\ (∀ y ∈ (gv f x).args, wi vn y = true) /\ (gv f x).args.length = nl) (T : Bool) (hT : L.all (useP f P R N) = T) :
 Calls Tryz.prog 78 #[.slice ao n c, .func (.func 103) #[] #[.pointer (some ⟨fb, 0, none⟩), .pointer (some ⟨ub, 0, none⟩), .pointer (some ⟨kb, 0, none⟩)]] w fun e w' => e = .returned (.bool T) /\ Below w.heap.size w w' := by
 subst hT
 rw [<- evr_plain (useP f P R N) L 0]
 refine everyI_any w ao c n L hn hL _ _ _ opens_u11 _ (Asks.three fun W i x hi hb hv => ?_)
 obtain rfl := hv.out
 have h := hLr L[i] (List.getElem_mem hi)
 exact uses11_any W (C.below hb (Nat.le_refl _)) fb ((hb.block _ (gl hf)).trans hf) (U.below hb) ((hb.block _ (gl hk)).trans hk) N hN (hI.below hb (Nat.le_refl _)) hNr i L[i] h.1 h.2.1 h.2.2
theorem everyU12_at (w : World) {s : ByteArray} {pa : Option Addr} {pn pc : Nat} {r : Int} {va : Option Addr} {vn vc : Nat} {ba : Option Addr} {bn bc : Nat} {fa : Option Addr} {fn fc : Nat} {f : Fu} {FS : List Fu} (C : Ctx w s pa pn pc r va vn vc ba bn bc fa fn fc f FS) (fb : Nat) (hf : w.heap[fb]? = some (.cells #[.string s, .slice pa pn pc, .int .i64 r, .slice va vn vc, .slice ba bn bc, .slice fa fn fc] 77 (0, 0))) {ub bb : Nat} {qa : Option Addr} {qc : Nat} {ra : Option Addr} {rn rc : Nat} {P R : List (Int × Int)} (U : UC w ub qa vn qc ra rn rc P R) (k : Nat) (hb : w.heap[bb]? = some (.cells #[.int .i64 (k : Int)] 3 (0, 0))) (hk : k < rn) (ao : Option Addr) (n c : Nat) (L : List Int) (hn : n = L.length) (hL : Ints w ao c L) (hLr : ∀ x ∈ L, wi vn x = true /\ (∀ y ∈ (gv f x).args, wi vn y = true)) (T : Bool) (hT : evr (useV f P R k) 0 L = T) :
 Calls Tryz.prog 78 #[.slice ao n c, .func (.func 106) #[] #[.pointer (some ⟨fb, 0, none⟩), .pointer (some ⟨ub, 0, none⟩), .pointer (some ⟨bb, 0, none⟩)]] w fun e w' => e = .returned (.bool T) /\ Below w.heap.size w w' := by
 subst hT
 refine everyI_any w ao c n L hn hL _ _ _ opens_u12 _ (Asks.three fun W i x hi hbW hv => ?_)
 obtain rfl := hv.out
 have h := hLr L[i] (List.getElem_mem hi)
 exact uses12_any W (C.below hbW (Nat.le_refl _)) fb ((hbW.block _ (gl hf)).trans hf) (U.below hbW) k ((hbW.block _ (gl hb)).trans hb) hk i L[i] h.1 h.2
set_option maxRecDepth 100000 in
set_option maxHeartbeats 4000000 in
theorem uses1_any (w : World) {s : ByteArray} {pa : Option Addr} {pn pc : Nat} {r : Int} {va : Option Addr} {vn vc : Nat} {ba : Option Addr} {bn bc : Nat} {fa : Option Addr} {fn fc : Nat} {f : Fu} {FS : List Fu} (C : Ctx w s pa pn pc r va vn vc ba bn bc fa fn fc f FS) (fb : Nat) (hf : w.heap[fb]? = some (.cells #[.string s, .slice pa pn pc, .int .i64 r, .slice va vn vc, .slice ba bn bc, .slice fa fn fc] 77 (0, 0))) {ub : Nat} {qa : Option Addr} {qc : Nat} {ra : Option Addr} {rn rc : Nat} {P R : List (Int × Int)} (U : UC w ub qa vn qc ra rn rc P R) (i : Nat) (hi : i < rn) (ka : Option Addr) (kl kc : Nat) (la : Option Addr) (ll lc : Nat) (kd vl : Int) (ma : Option Addr) (ml mc : Nat) (na : Option Addr) (nl nc : Nat) (A B M N : List Int) (e1 : kl = A.length) (h1 : Ints w ka kc A) (e2 : ll = B.length) (h2 : Ints w la lc B) (e4 : nl = N.length) (h4 : Ints w na nc N) (hNr : ∀ x ∈ N, wi rn x = true)
 (hA : ∀ x ∈ A, wi vn x = true /\ (∀ y ∈ (gv f x).args, wi vn y = true) /\ (gv f x).args.length = nl) (hB : ∀ x ∈ B, wi vn x = true /\ (∀ y ∈ (gv f x).args, wi vn y = true)) (hvl : ¬ vl = -1 -> wi vn vl = true) :
 Calls Tryz.prog 102 #[.int .i64 i, .agg #[.slice ka kl kc, .slice la ll lc, .int .i64 kd, .int .i64 vl, .slice ma ml mc, .slice na nl nc], .pointer (some ⟨fb, 0, none⟩), .pointer (some ⟨ub, 0, none⟩)] w fun e w' => e = .returned (.bool (useB f P R i ⟨A, B, kd, vl, M, N⟩)) /\ Below w.heap.size w w' := by
 have hlf := (gl hf)
 have hlu := (gl U.box)
 have A0 : Aft w (.cells #[.int .i64 (i : Int)] 3) (.cells #[.slice ka kl kc, .slice la ll lc, .int .i64 kd, .int .i64 vl, .slice ma ml mc, .slice na nl nc] 30) ((w.alloc (.cells #[.int .i64 (i : Int)] 3)).alloc (.cells #[.slice ka kl kc, .slice la ll lc, .int .i64 kd, .int .i64 vl, .slice ma ml mc, .slice na nl nc] 30)) := Aft.refl _ _ _
 have HQ1 : Hid (∀ w', Aft w (.cells #[.int .i64 (i : Int)] 3) (.cells #[.slice ka kl kc, .slice la ll lc, .int .i64 kd, .int .i64 vl, .slice ma ml mc, .slice na nl nc] 30) w' -> ∀ T, A.all (useP f P R N) = T -> Calls Tryz.prog 78 #[.slice ka kl kc, .func (.func 103) #[] #[.pointer (some ⟨fb, 0, none⟩), .pointer (some ⟨ub, 0, none⟩), .pointer (some ⟨w.heap.size + 1, 0, none⟩)]] w' fun e w'' => e = .returned (.bool T) /\ Below w'.heap.size w' w'') := fun w' h T hT =>
  everyU11_at w' (C.below h.low (Nat.le_refl _)) fb ((h.low.block _ hlf).trans hf) (U.below h.low) h.two N e4 (h4.below h.low (Nat.le_refl _)) hNr ka kl kc A e1 (h1.below h.low (Nat.le_refl _)) hA T hT
 have HQ2 : Hid (∀ w', Aft w (.cells #[.int .i64 (i : Int)] 3) (.cells #[.slice ka kl kc, .slice la ll lc, .int .i64 kd, .int .i64 vl, .slice ma ml mc, .slice na nl nc] 30) w' -> ∀ T, evr (useV f P R i) 0 B = T -> Calls Tryz.prog 78 #[.slice la ll lc, .func (.func 106) #[] #[.pointer (some ⟨fb, 0, none⟩), .pointer (some ⟨ub, 0, none⟩), .pointer (some ⟨w.heap.size, 0, none⟩)]] w' fun e w'' => e = .returned (.bool T) /\ Below w'.heap.size w' w'') := fun w' h T hT =>
  everyU12_at w' (C.below h.low (Nat.le_refl _)) fb ((h.low.block _ hlf).trans hf) (U.below h.low) i h.one hi la ll lc B e2 (h2.below h.low (Nat.le_refl _)) hB T hT
 have HQ3 : Hid (∀ w', Aft w (.cells #[.int .i64 (i : Int)] 3) (.cells #[.slice ka kl kc, .slice la ll lc, .int .i64 kd, .int .i64 vl, .slice ma ml mc, .slice na nl nc] 30) w' -> ¬ vl = -1 -> ∀ T, thereP P R vl i = T -> Calls Tryz.prog 105 #[.agg #[.slice qa vn qc, .slice ra rn rc], .int .i64 vl, .int .i64 (i : Int)] w' fun e w'' => e = .returned (.bool T) /\ Below w'.heap.size w' w'') := fun w' h hn T hT =>
  (U.below h.low).there vl i (hvl hn) (by simp [wi]; omega) T hT
 have HQ4 : Hid (∀ w', Aft w (.cells #[.int .i64 (i : Int)] 3) (.cells #[.slice ka kl kc, .slice la ll lc, .int .i64 kd, .int .i64 vl, .slice ma ml mc, .slice na nl nc] 30) w' -> w'.cell? ⟨ub, 0, none⟩ = some (.slice qa vn qc) /\ w'.cell? ⟨ub, 1, none⟩ = some (.slice ra rn rc) /\ w'.cell? ⟨w.heap.size, 0, none⟩ = some (.int .i64 (i : Int))) := fun w' h => ⟨cell_arr (U.below h.low).box rfl, cell_arr (U.below h.low).box rfl, cell_arr h.one rfl⟩
 unfold useB
 simp only
 clear C hf U h1 h2 h4 hNr hA hB hvl e1 e2 e4 hlf hlu hi
 cases q1 : A.all (useP f P R N) with
 | false =>
   go_enter Tryz.func102, Tryz.ntmps102
   go_wp2_with (go_at_call 78; refine (HQ1.out _ A0 _ q1).mono ?_; rintro e w1 ⟨rfl, hb1⟩)
   go_ret
   exact ⟨rfl, (A0.next hb1).low⟩
 | true =>
 cases q2 : evr (useV f P R i) 0 B with
 | false =>
   go_enter Tryz.func102, Tryz.ntmps102
   go_wp2_with (first
    | (go_at_call 78; refine (HQ2.out w1 A1 _ q2).mono ?_; rintro e w2 ⟨rfl, hb2⟩)
    | (go_at_call 78; refine (HQ1.out _ A0 _ q1).mono ?_; rintro e w1 ⟨rfl, hb1⟩; have A1 := A0.next hb1; obtain ⟨v0, v1, v2, v3, v4, v5⟩ := bcells A1.two))
   go_ret
   exact ⟨rfl, (A1.next hb2).low⟩
 | true =>
 by_cases hv : vl = -1
 ·subst hv
  go_enter Tryz.func102, Tryz.ntmps102
  go_wp2_with (first
   | (go_at_call 78; refine (HQ2.out w1 A1 _ q2).mono ?_; rintro e w2 ⟨rfl, hb2⟩; have A2 := A1.next hb2; obtain ⟨x0, x1, x2, x3, x4, x5⟩ := bcells A2.two)
   | (go_at_call 78; refine (HQ1.out _ A0 _ q1).mono ?_; rintro e w1 ⟨rfl, hb1⟩; have A1 := A0.next hb1; obtain ⟨v0, v1, v2, v3, v4, v5⟩ := bcells A1.two))
  go_ret
  exact ⟨rfl, A2.low⟩
 ·generalize q3 : thereP P R vl i = T
  have hv' : (vl == -1) = false := by simp [hv]
  have HV : Hid (¬ vl = -1) := hv
  rw [decide_eq_false hv]
  clear hv
  go_enter Tryz.func102, Tryz.ntmps102
  go_wp2_with (first
   | (go_at_call 105; refine (HQ3.out w2 A2 HV.out _ q3).mono ?_; rintro e w3 ⟨rfl, hb3⟩)
   | (go_at_call 78; refine (HQ2.out w1 A1 _ q2).mono ?_; rintro e w2 ⟨rfl, hb2⟩; have A2 := A1.next hb2; obtain ⟨x0, x1, x2, x3, x4, x5⟩ := bcells A2.two; obtain ⟨y0, y1, y2⟩ := HQ4.out w2 A2)
   | (go_at_call 78; refine (HQ1.out _ A0 _ q1).mono ?_; rintro e w1 ⟨rfl, hb1⟩; have A1 := A0.next hb1; obtain ⟨v0, v1, v2, v3, v4, v5⟩ := bcells A1.two))
  go_ret
  exact ⟨by simp, (A2.next hb3).low⟩
end Go.Proofs.YtfbkopjncmkbiabGreatDoor
