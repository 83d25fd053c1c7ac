import Derived.Deep.RegionHeld
import Derived.Test.YtdbkjjelaipcfaaGreatDoorJbb
set_option linter.unusedVariables false
set_option linter.unusedSimpArgs false
namespace Go.Proofs.YtdbkjjelaipcfaaGreatDoor
open Go.ChangeShapes Go.WideShapes Go.ChangeAt Go.RowKit Go.Maps
structure WyV (w : World) (f : Fu) (k : Nat) (vs : List Value) : Prop where
 len : vs.length = k
 at' : ∀ i (h : i < f.blks.length), i < k -> ∃ (ma : Option Addr) (mc : Nat), vs[i]? = some (.slice ma f.blks[i].ways.length mc) /\ Ints w ma mc f.blks[i].ways
theorem WyV.nil (w : World) (f : Fu) : WyV w f 0 [] := ⟨rfl, fun i _ hi => by omega⟩
theorem WyV.more {w f k vs} (h : WyV w f k vs) (hk : k < f.blks.length) {ma : Option Addr} {mc : Nat} (hI : Ints w ma mc f.blks[k].ways) : WyV w f (k + 1) (vs ++ [.slice ma f.blks[k].ways.length mc]) :=
 ⟨by simp [h.len], fun i hi hlt => by
  rcases Nat.lt_succ_iff_lt_or_eq.1 hlt with h1 | rfl
  ·obtain ⟨ma', mc', h2, h3⟩ := h.at' i hi h1
   exact ⟨ma', mc', by rw [List.getElem?_append_left (by rw [h.len]; exact h1)]; exact h2, h3⟩
  ·exact ⟨ma, mc, by rw [List.getElem?_append_right (by rw [h.len]; exact Nat.le_refl _), h.len]; simp, hI⟩⟩
theorem WyV.row {w w' f vs B v} (h : WyV w f f.blks.length vs) (ho : OwnV w' B v vs) (hb : Below w.heap.size w w') : ∃ ao c, v = .slice ao f.blks.length c /\ IRow w' ao c (waysP f) := by
 have hl : (waysP f).length = f.blks.length := by simp [waysP]
 have hoo := ho.out
 rw [h.len] at hoo
 rcases Nat.eq_zero_or_pos f.blks.length with h0 | h0
 ·obtain ⟨ao, c, e, h1, h2⟩ := own_slice hoo
  exact ⟨ao, c, e, by rw [hl]; exact h1, h2, fun hne => absurd (List.length_eq_zero_iff.1 (by rw [hl]; exact h0)) hne⟩
 ·obtain ⟨g, c, e, h1, h2, h3, h4⟩ := own_some hoo h0
  subst e
  refine ⟨_, c, rfl, by rw [hl]; exact h1, h2, fun _ => ⟨g, 0, rfl, h4, fun i hi => ?_⟩⟩
  have hi' : i < f.blks.length := by rw [<- hl]; exact hi
  obtain ⟨ma, mc, h5, h6⟩ := h.at' i hi' hi'
  have e7 : (waysP f)[i] = f.blks[i].ways := by simp [waysP]
  rw [e7, Nat.zero_add]
  exact ⟨ma, mc, by rw [own_cell hoo i (by omega)]; exact h5, h6.below hb (Nat.le_refl _)⟩
set_option maxRecDepth 100000 in
set_option maxHeartbeats 4000000 in
theorem rWays_any (w : World) {s : ByteArray} {pa : Option Addr} {pn pc : Nat} {r : Int} {va : Option Addr} {vn vc : Nat} {ba : Option Addr} {bn bc : Nat} {f : Fu} (eb : bn = f.blks.length) (hbk : Bks w ba bc f.blks) (hn : bn <= 1000000) :
 Calls Tryz.prog 44 #[.agg #[.string s, .slice pa pn pc, .int .i64 r, .slice va vn vc, .slice ba bn bc]] w fun e w' => ∃ ao c, e = .returned (.slice ao f.blks.length c) /\ IRow w' ao c (waysP f) /\ Below w.heap.size w w' := by
 have A0 : Af1 w (.cells #[.string s, .slice pa pn pc, .int .i64 r, .slice va vn vc, .slice ba bn bc] 38) (w.alloc (.cells #[.string s, .slice pa pn pc, .int .i64 r, .slice va vn vc, .slice ba bn bc] 38)) := ⟨Below.refl _ _⟩
 have HB : Hid (bn = f.blks.length) := eb
 have hbx : bn <= bc /\ bc <= 9223372036854775807 := by have := hbk.le; have := hbk.mx; omega
 have HK : Hid (Bks w ba bc f.blks) := hbk
 clear hbk eb
 go_enter Tryz.func44, Tryz.ntmps44
 go_wp2_with fail
 go_loopw [3, 4] (fun lv v wr => ∃ (k : Nat) (vs : List Value), k <= bn /\ v = .int .i64 k /\ Hid (OwnV wr (w.heap.size + 1) lv vs) /\ Hid (WyV w f k vs) /\ Hid (Af1 w (.cells #[.string s, .slice pa pn pc, .int .i64 r, .slice va vn vc, .slice ba bn bc] 38) wr)) (fun _ v _ => bn - (intOf v).toNat)
 case atStart => exact ⟨0, [], by omega, rfl, OwnV.nil _ _, WyV.nil _ _, A0⟩
 case round =>
  obtain ⟨k, vs, hk, rfl, HO, HV, HA⟩ := hrel
  have x4 : wr.cell? ⟨w.heap.size, 4, none⟩ = some (.slice ba bn bc) := cell_arr HA.out.one rfl
  have xs : w.heap.size < wr.heap.size := by have := HA.out.size; omega
  by_cases hlt : k < bn
  ·have hkf : k < f.blks.length := by have := HB.out; omega
   obtain ⟨b', o', ka, kc, la, lc, ma, mc, na, nc, rfl, hlt', c0, c1, c2, c3, c4, c5, g1, g2, g3, g4⟩ := HK.out.at hkf
   have c4' : wr.cell? ⟨b', o' + k * 6 + 4, none⟩ = some (.slice ma f.blks[k].ways.length mc) := by rw [HA.out.low.cell (p := ⟨b', o' + k * 6 + 4, none⟩) hlt']; exact c4
   have HV' : Hid (WyV w f (k + 1) (vs ++ [.slice ma f.blks[k].ways.length mc])) := HV.out.more hkf g3
   generalize f.blks[k].ways.length = rl at c4' HV'
   have hbr : b' < wr.heap.size := by omega
   clear c0 c1 c2 c3 c4 c5 g1 g2 g3 g4
   obtain ⟨av, cv, ev, _, _⟩ := own_slice HO.out.out
   subst ev
   have HLK : Hid (vs.length = k) := HV.out.len
   have hlp : vs.length + 1 <= 1759218604441 := by rw [HLK.out]; omega
   have hsB : w.heap.size + 1 <= wr.heap.size := by omega
   obtain ⟨vl, hvl⟩ : ∃ vl, vl = vs.length := ⟨_, rfl⟩
   have HO2 := HO.out
   rw [<- hvl] at HO2
   have HVL : Hid (vl = vs.length) := hvl
   simp only [<- hvl]
   have HO3 : Hid _ := HO2
   have HLP : Hid (vs.length + 1 <= 1759218604441) := hlp
   clear HO HO2 hvl hlp
   go_wp2_with (first
    | (at_builtin; refine wpList_append_slG (w0 := wr) rfl _ _ rfl (w.heap.size + 1) (.slice av vl cv) vs ma rl mc rfl HO3.out rfl HLP.out hsB ?_; intro v6 w6 h6 g6
       obtain ⟨a6, c6, e6, _, _⟩ := own_slice h6.out
       subst e6
       have HO6 : Hid _ := h6
       have HA6 : Hid (Af1 w (.cells #[.string s, .slice pa pn pc, .int .i64 r, .slice va vn vc, .slice (some ⟨b', o', none⟩) bn bc] 38) w6) := ⟨HA.out.b.trans g6.bel⟩
       clear h6 g6)
    | go_in)
   go_roundw
   case rel => exact ⟨k + 1, vs ++ [.slice ma rl mc], by omega, by go_num, by have := HO6.out; rw [List.length_append, List.length_singleton] at this; exact this, HV', HA6⟩
   case measure => simp [intOf]; omega
  ·obtain rfl : k = bn := by omega
   have HV2 : Hid (WyV w f f.blks.length vs) := by rw [<- HB.out]; exact HV
   go_wp2_with fail
   go_ret
   obtain ⟨ao, c, e, hI⟩ := HV2.out.row HO.out HA.out.low
   subst e
   exact ⟨ao, c, rfl, hI, HA.out.low⟩
def rpP (f : Fu) : Bool := (decide (∀ i (h : i < f.blks.length), f.blks[i].preds = ldN (i : Int) (waysP f) f.blks.length)) && decide (((f.blks.map Bk.preds).getD 0 []).length = 0)
structure PT (f : Fu) (j : Nat) (R : Bool) : Prop where
 res : R = rpP f
 ok : ∀ i (h : i < f.blks.length), i < j -> f.blks[i].preds = ldN (i : Int) (waysP f) f.blks.length
theorem PT.hit {f j R} (h : PT f j R) (hj : j < f.blks.length) (hf : ¬ f.blks[j].preds = ldN (j : Int) (waysP f) f.blks.length) : false = R := by
 rw [h.res]
 symm
 unfold rpP
 rw [decide_eq_false (fun ha => hf (ha j hj))]
 rfl
theorem PT.fin {f j R} (h : PT f j R) (hj : f.blks.length <= j) : decide (((f.blks.map Bk.preds).getD 0 []).length = 0) = R := by
 rw [h.res]
 unfold rpP
 rw [decide_eq_true (fun i hi => h.ok i hi (by omega))]
 simp
theorem PT.more {f j R} (h : PT f j R) (hj : j < f.blks.length) (hf : f.blks[j].preds = ldN (j : Int) (waysP f) f.blks.length) : PT f (j + 1) R :=
 ⟨h.res, fun i hi hlt => by
  rcases Nat.lt_succ_iff_lt_or_eq.1 hlt with h1 | rfl
  ·exact h.ok i hi h1
  ·exact hf⟩
set_option maxRecDepth 100000 in
set_option maxHeartbeats 4000000 in
theorem rPreds_any (w : World) {s : ByteArray} {pa : Option Addr} {pn pc : Nat} {r : Int} {va : Option Addr} {vn vc : Nat} {ba : Option Addr} {bn bc : Nat} {f : Fu} (eb : bn = f.blks.length) (hbk : Bks w ba bc f.blks) (h2 : ∀ l ∈ waysP f, l.length <= 2) (hn : bn <= 1000000) (hpos : 0 < bn) :
 Calls Tryz.prog 42 #[.agg #[.string s, .slice pa pn pc, .int .i64 r, .slice va vn vc, .slice ba bn bc]] w fun e w' => e = .returned (.bool (rpP f)) /\ Below w.heap.size w w' := by
 obtain ⟨R, hR⟩ : ∃ R, R = rpP f := ⟨_, rfl⟩
 rw [<- hR]
 have HR : Hid (PT f 0 R) := ⟨hR, fun i _ hi => by omega⟩
 have A0 : Af1 w (.cells #[.string s, .slice pa pn pc, .int .i64 r, .slice va vn vc, .slice ba bn bc] 38) (w.alloc (.cells #[.string s, .slice pa pn pc, .int .i64 r, .slice va vn vc, .slice ba bn bc] 38)) := ⟨Below.refl _ _⟩
 have HB : Hid (bn = f.blks.length) := eb
 have hbx : bn <= bc /\ bc <= 9223372036854775807 := by have := hbk.le; have := hbk.mx; omega
 have HK : Hid (Bks w ba bc f.blks) := hbk
 have HLD : Hid (∀ w', Below w.heap.size w w' -> ∀ b : Int, Calls Tryz.prog 87 #[.agg #[.string s, .slice pa pn pc, .int .i64 r, .slice va vn vc, .slice ba bn bc], .int .i64 b] w' fun e w'' => ∃ la lc, e = .returned (.slice la (ldN b (waysP f) f.blks.length).length lc) /\ Ints w'' la lc (ldN b (waysP f) f.blks.length) /\ Below w'.heap.size w' w'') := fun w' hw b =>
  (rLeads_any w' eb (hbk.below hw (Nat.le_refl _)) h2 hn b).mono fun e w'' ⟨v, he, ho, hb⟩ => by
   obtain ⟨ao, c, ev, hI⟩ := ho.ints
   subst ev
   exact ⟨ao, c, he, hI, hb⟩
 clear hbk eb hR h2
 go_enter Tryz.func42, Tryz.ntmps42
 go_wp2_with fail
 go_loopw [3] (fun v wr => ∃ k : Nat, k <= bn /\ v = .int .i64 k /\ Hid (PT f k R) /\ Hid (Af1 w (.cells #[.string s, .slice pa pn pc, .int .i64 r, .slice va vn vc, .slice ba bn bc] 38) wr)) (fun v _ => bn - (intOf v).toNat)
 case atStart => exact ⟨0, by omega, rfl, HR, A0⟩
 case round =>
  obtain ⟨k, hk, rfl, HP, HA⟩ := hrel
  have x0 : wr.cell? ⟨w.heap.size, 0, none⟩ = some (.string s) := cell_arr HA.out.one rfl
  have x1 : wr.cell? ⟨w.heap.size, 1, none⟩ = some (.slice pa pn pc) := cell_arr HA.out.one rfl
  have x2 : wr.cell? ⟨w.heap.size, 2, none⟩ = some (.int .i64 r) := cell_arr HA.out.one rfl
  have x3 : wr.cell? ⟨w.heap.size, 3, none⟩ = some (.slice va vn vc) := cell_arr HA.out.one rfl
  have x4 : wr.cell? ⟨w.heap.size, 4, none⟩ = some (.slice ba bn bc) := cell_arr HA.out.one rfl
  have xs : w.heap.size < wr.heap.size := by have := HA.out.size; omega
  by_cases hlt : k < bn
  ·have hkf : k < f.blks.length := by have := HB.out; omega
   have hI4 := (HK.out.below HA.out.low (Nat.le_refl _)).at hkf
   obtain ⟨b', o', ka, kc, la, lc, ma, mc, na, nc, rfl, hlt', c0, c1, c2, c3, c4, c5, g1, g2, g3, g4⟩ := hI4
   obtain ⟨pr, hpr⟩ : ∃ pr, pr = f.blks[k].preds := ⟨_, rfl⟩
   obtain ⟨rl, hrl⟩ : ∃ rl, rl = pr.length := ⟨_, rfl⟩
   rw [<- hpr, <- hrl] at c5
   rw [<- hpr] at g4
   obtain ⟨L, hL⟩ : ∃ L, L = ldN (k : Int) (waysP f) f.blks.length := ⟨_, rfl⟩
   obtain ⟨ll, hll⟩ : ∃ ll, ll = L.length := ⟨_, rfl⟩
   have hd : Below wr.heap.size wr wr.drew := (Below.refl _ _).drew
   have HLE : Hid (∀ w', Below wr.heap.size wr w' -> Calls Tryz.prog 87 #[.agg #[.string s, .slice pa pn pc, .int .i64 r, .slice va vn vc, .slice (some ⟨b', o', none⟩) bn bc], .int .i64 (k : Int)] w' fun e w'' => ∃ la lc, e = .returned (.slice la ll lc) /\ Ints w'' la lc L /\ Below w'.heap.size w' w'') := fun w' hw' => by
    have := HLD.out w' (HA.out.low.trans (hw'.mono HA.out.low.size)) (k : Int)
    rw [<- hL, <- hll] at this
    exact this
   have HSM : Hid (∀ w' la lc, Below wr.heap.size wr w' -> Ints w' la lc L -> Calls Tryz.prog 86 #[.slice na rl nc, .slice la ll lc] w' fun e w'' => e = .returned (.bool (decide (pr = L))) /\ Below w'.heap.size w' w'') := fun w' la lc hb hI => rSame_any w' na la nc lc rl ll pr L hrl hll (g4.below hb (Nat.le_refl _)) hI
   have HNX : Hid (decide (pr = L) = true -> PT f (k + 1) R) := fun e => HP.out.more hkf (by rw [<- hpr, <- hL]; exact of_decide_eq_true e)
   have HNO : Hid (decide (pr = L) = false -> false = R) := fun e => HP.out.hit hkf (by rw [<- hpr, <- hL]; exact of_decide_eq_false e)
   have S0 : (fun w' : World => w'.cell? ⟨w.heap.size, 0, none⟩ = some (.string s) /\ w'.cell? ⟨w.heap.size, 1, none⟩ = some (.slice pa pn pc) /\ w'.cell? ⟨w.heap.size, 2, none⟩ = some (.int .i64 r) /\ w'.cell? ⟨w.heap.size, 3, none⟩ = some (.slice va vn vc) /\ w'.cell? ⟨w.heap.size, 4, none⟩ = some (.slice (some ⟨b', o', none⟩) bn bc) /\ w'.cell? ⟨b', o' + k * 6 + 5, none⟩ = some (.slice na rl nc)) wr.drew := ⟨x0, x1, x2, x3, x4, c5⟩
   have HS : Hid (∀ w1, Below wr.heap.size wr w1 -> (fun w' : World => w'.cell? ⟨w.heap.size, 0, none⟩ = some (.string s) /\ w'.cell? ⟨w.heap.size, 1, none⟩ = some (.slice pa pn pc) /\ w'.cell? ⟨w.heap.size, 2, none⟩ = some (.int .i64 r) /\ w'.cell? ⟨w.heap.size, 3, none⟩ = some (.slice va vn vc) /\ w'.cell? ⟨w.heap.size, 4, none⟩ = some (.slice (some ⟨b', o', none⟩) bn bc) /\ w'.cell? ⟨b', o' + k * 6 + 5, none⟩ = some (.slice na rl nc)) w1) := fun w1 hb1 => ⟨(hb1.cell (p := ⟨w.heap.size, 0, none⟩) xs).trans x0, (hb1.cell (p := ⟨w.heap.size, 1, none⟩) xs).trans x1, (hb1.cell (p := ⟨w.heap.size, 2, none⟩) xs).trans x2, (hb1.cell (p := ⟨w.heap.size, 3, none⟩) xs).trans x3, (hb1.cell (p := ⟨w.heap.size, 4, none⟩) xs).trans x4, (hb1.cell (p := ⟨b', o' + k * 6 + 5, none⟩) hlt').trans c5⟩
   clear c0 c1 c2 c3 c4 g1 g2 g3 g4 hpr hrl hL hll HLD
   generalize decide (pr = L) = E at HSM HNX HNO
   cases E
   all_goals
    go_wp2_with fail
    go_region_held (fun w' : World => w'.cell? ⟨w.heap.size, 0, none⟩ = some (.string s) /\ w'.cell? ⟨w.heap.size, 1, none⟩ = some (.slice pa pn pc) /\ w'.cell? ⟨w.heap.size, 2, none⟩ = some (.int .i64 r) /\ w'.cell? ⟨w.heap.size, 3, none⟩ = some (.slice va vn vc) /\ w'.cell? ⟨w.heap.size, 4, none⟩ = some (.slice (some ⟨b', o', none⟩) bn bc) /\ w'.cell? ⟨b', o' + k * 6 + 5, none⟩ = some (.slice na rl nc)) (first | exact S0 | exact S1 | exact S2)
     (first
      | (go_at_call 86; refine (HSM.out _ _ _ (hd.trans (hb1.mono hd.size)) hI1).mono ?_; rintro e w2 ⟨rfl, hb2⟩; have hb3 := (hd.trans (hb1.mono hd.size)).trans (hb2.mono ((hd.trans (hb1.mono hd.size)).size)); have S2 := HS.out w2 hb3)
      | (go_at_call 87; refine (HLE.out _ hd).mono ?_; rintro e w1 ⟨la1, lc1, rfl, hI1, hb1⟩; have S1 := HS.out w1 (hd.trans (hb1.mono hd.size))))
    go_wp2_with fail
   ·go_ret
    exact ⟨ret_bl (HNO.out (by first | trivial | rfl)), by first | exact (HA.out.next hb3).low | exact below_drawn (HA.out.next hb3).low _⟩
   ·go_roundw
    case rel => exact ⟨k + 1, by omega, by go_num, HNX.out (by first | trivial | rfl), by first | exact HA.out.next hb3 | exact (HA.out.next hb3).drawn _⟩
    case measure => simp [intOf]; omega
  ·obtain rfl : k = bn := by omega
   have h0f : 0 < f.blks.length := by have := HB.out; omega
   obtain ⟨b', o', ka, kc, la, lc, ma, mc, na, nc, rfl, hlt', c0, c1, c2, c3, c4, c5, g1, g2, g3, g4⟩ := (HK.out.below HA.out.low (Nat.le_refl _)).at h0f
   have c5' : wr.cell? ⟨b', o' + 5, none⟩ = some (.slice na (f.blks[0]'h0f).preds.length nc) := by simpa using c5
   have HE : Hid (decide ((f.blks[0]'h0f).preds.length = 0) = R) := by
    have := HP.out.fin (by have := HB.out; omega)
    show _ = R
    rw [<- this]
    simp [h0f]
   generalize (f.blks[0]'h0f).preds.length = m at c5' HE
   clear c0 c1 c2 c3 c4 c5 g1 g2 g3 g4 HLD
   go_wp2_with fail
   go_ret
   exact ⟨ret_bl (by rw [<- HE.out]; by_cases hm : m = 0 <;> simp [hm]), HA.out.low⟩
end Go.Proofs.YtdbkjjelaipcfaaGreatDoor
namespace Go.Proofs.YtdbkjjelaipcfaaGreatDoor
theorem frIn_size (k : Nat) : ∀ (row : List Int) (S : List (List Int)), (frIn k row S).length = S.length
 | [], S => rfl
 | x :: row, S => by
   have := frIn_size k row (S.set x.toNat (S.getD x.toNat [] ++ [(k : Int)]))
   rw [List.length_set] at this
   exact this
theorem frIn_get (k n b : Nat) (hb : b < n) : ∀ (row : List Int) (S : List (List Int)), S.length = n -> (∀ x ∈ row, 0 <= x) -> (frIn k row S).getD b [] = ldIn k (b : Int) row (S.getD b [])
 | [], S, _, _ => rfl
 | x :: row, S, hS, hx => by
   have h0 := hx x (by simp)
   have ih := frIn_get k n b hb row (S.set x.toNat (S.getD x.toNat [] ++ [(k : Int)])) (by rw [List.length_set]; exact hS) fun y hy => hx y (by simp [hy])
   show (frIn k row (S.set x.toNat (S.getD x.toNat [] ++ [(k : Int)]))).getD b [] = ldIn k (b : Int) row (if x = (b : Int) then S.getD b [] ++ [(k : Int)] else S.getD b [])
   rw [ih]
   congr 1
   by_cases e : x = (b : Int)
   ·rw [if_pos e]
    have e2 : x.toNat = b := by omega
    rw [e2]
    have hbS : b < S.length := by rw [hS]; exact hb
    simp [List.getD, hbS]
   ·rw [if_neg e]
    have e2 : ¬ x.toNat = b := by omega
    simp only [List.getD, List.getElem?_set, if_neg e2]
theorem frN_size (n : Nat) (Ls : List (List Int)) : ∀ k, (frN n Ls k).length = n
 | 0 => by simp [frN]
 | k + 1 => by rw [frN, frIn_size]; exact frN_size n Ls k
theorem frN_get (n b : Nat) (hb : b < n) (Ls : List (List Int)) (hL : ∀ l ∈ Ls, ∀ x ∈ l, (0 : Int) <= x) : ∀ k, (frN n Ls k).getD b [] = ldN (b : Int) Ls k
 | 0 => by simp [frN, ldN, hb]
 | k + 1 => by
   rw [frN, ldN, frIn_get k n b hb _ _ (frN_size n Ls k), frN_get n b hb Ls hL k]
   by_cases hk : k < Ls.length
   ·simp only [List.getD, List.getElem?_eq_getElem hk, Option.getD_some]
    exact hL _ (List.getElem_mem hk)
   ·simp [List.getD, List.getElem?_eq_none (Nat.le_of_not_lt hk)]
theorem rpP_eq {f : Fu} (hpos : 0 < f.blks.length) (hw : ∀ b ∈ f.blks, ∀ x ∈ b.ways, wi f.blks.length x = true) : rpP f = predsP f := by
 have hL : ∀ l ∈ waysP f, ∀ x ∈ l, (0 : Int) <= x := by
  intro l hl x hx
  obtain ⟨b, hb, rfl⟩ := List.mem_map.1 hl
  have := hw b hb x hx
  simp [wi] at this
  exact this.1
 have hg : ∀ b, b < f.blks.length -> (frP f).getD b [] = ldN (b : Int) (waysP f) f.blks.length := fun b hb => frN_get _ b hb _ hL _
 rw [Bool.eq_iff_iff]
 simp only [rpP, predsP, Bool.and_eq_true, decide_eq_true_eq]
 rw [evr_iff]
 have h0 : (f.blks.map Bk.preds).getD 0 [] = f.blks[0].preds := by simp [hpos]
 rw [h0]
 constructor
 ·rintro ⟨h1, h2⟩
  refine ⟨?_, fun i hi => ?_⟩
  ·rw [hg 0 hpos, <- h1 0 hpos]; exact h2
  ·rw [Nat.zero_add]
   exact decide_eq_true (by rw [hg i hi]; exact h1 i hi)
 ·rintro ⟨h1, h2⟩
  have h3 : ∀ i (h : i < f.blks.length), f.blks[i].preds = ldN (i : Int) (waysP f) f.blks.length := fun i hi => by
   have := h2 i hi
   rw [Nat.zero_add] at this
   rw [of_decide_eq_true this, hg i hi]
  exact ⟨h3, by rw [h3 0 hpos, <- hg 0 hpos]; exact h1⟩
def rbP (f : Fu) (b : Bk) : Bool := b.phis.all (wi f.vals.length) && (b.body.all (wi f.vals.length) && (b.preds.all (wi f.blks.length) && (termP f b.kind b.val b.ways && (b.phis.all (fun x => !decide ((gv f x).op = 33)) && b.body.all (fun x => !decide ((gv f x).op = 33))))))
theorem all_split {α : Type} (p q : α -> Bool) (L : List α) : L.all (fun x => p x && q x) = (L.all p && L.all q) := by
 induction L with
 | nil => rfl
 | cons x L ih => simp only [List.all_cons, ih]; cases p x <;> cases q x <;> cases L.all p <;> cases L.all q <;> rfl
theorem rbP_eq (f : Fu) (b : Bk) : rbP f b = blockP f b := by
 unfold rbP blockP
 have h : ∀ L : List Int, L.all (mayP f) = (L.all (wi f.vals.length) && L.all (fun x => !decide ((gv f x).op = 33))) := fun L => all_split _ _ L
 rw [h, h]
 generalize b.phis.all (wi f.vals.length) = a1
 generalize b.body.all (wi f.vals.length) = a2
 generalize b.preds.all (wi f.blks.length) = a3
 generalize termP f b.kind b.val b.ways = a4
 generalize (b.phis.all fun x => !decide ((gv f x).op = 33)) = a5
 generalize (b.body.all fun x => !decide ((gv f x).op = 33)) = a6
 cases a1 <;> cases a2 <;> cases a3 <;> cases a4 <;> cases a5 <;> cases a6 <;> rfl
def rfP (FS : List Fu) (f : Fu) : Bool :=
 decide (f.params.length <= 8) && (decide (f.vals.length <= 262143) && (decide (1 <= f.blks.length) && (decide (0 <= f.result) && (decide (f.result <= 3) && (f.params.all (wi f.vals.length)
  && (f.vals.all (valueP f FS) && (evr (fun i x => decide ((gv f x).op = 33) && decide ((gv f x).imm = i)) 0 f.params && f.blks.all (rbP f))))))))
theorem evr_split {α : Type} (p : α -> Bool) (q : Nat -> α -> Bool) (L : List α) : ∀ k, evr (fun i x => p x && q i x) k L = (L.all p && evr q k L) := by
 induction L with
 | nil => intro k; rfl
 | cons x L ih =>
   intro k
   simp only [evr, List.all_cons, ih]
   cases p x <;> cases q k x <;> cases L.all p <;> cases evr q (k + 1) L <;> rfl
theorem rfP_eq (FS : List Fu) (f : Fu) : rfP FS f = formP FS f := by
 have h1 : evr (paramP f) 0 f.params = (f.params.all (wi f.vals.length) && evr (fun i x => decide ((gv f x).op = 33) && decide ((gv f x).imm = i)) 0 f.params) :=
  evr_split (wi f.vals.length) (fun (i : Nat) x => decide ((gv f x).op = 33) && decide ((gv f x).imm = i)) f.params 0
 have h2 : f.blks.all (rbP f) = f.blks.all (blockP f) := by
  have : rbP f = blockP f := funext (rbP_eq f)
  rw [this]
 have h3 : isTn f.result = (decide (0 <= f.result) && decide (f.result <= 3)) := by simp [isTn]
 have h4 : decide (f.vals.length <= 262143) = decide (f.vals.length < 262144) := by rw [decide_eq_decide]; omega
 have h5 : decide (1 <= f.blks.length) = decide (0 < f.blks.length) := rfl
 unfold rfP formP
 rw [h1, h2, h3, h4, h5]
 generalize decide (f.params.length <= 8) = a1
 generalize decide (f.vals.length < 262144) = a2
 generalize decide (0 < f.blks.length) = a3
 generalize decide (0 <= f.result) = a4
 generalize decide (f.result <= 3) = a5
 generalize f.params.all (wi f.vals.length) = a6
 generalize f.vals.all (valueP f FS) = a7
 generalize evr (fun i x => decide ((gv f x).op = 33) && decide ((gv f x).imm = i)) 0 f.params = a8
 generalize f.blks.all (blockP f) = a9
 cases a1 <;> cases a2 <;> cases a3 <;> cases a4 <;> cases a5 <;> cases a6 <;> cases a7 <;> cases a8 <;> rfl
end Go.Proofs.YtdbkjjelaipcfaaGreatDoor
namespace Go.Proofs.YtdbkjjelaipcfaaGreatDoor
open Go.ChangeShapes Go.WideShapes Go.ChangeAt Go.RowKit Go.Maps
def fstF (pn vn bn : Nat) (r : Int) (Ax : Bool) : Bool := decide (pn <= 8) && (decide (vn <= 262143) && (decide (1 <= bn) && (decide (0 <= r) && (decide (r <= 3) && Ax))))
set_option maxRecDepth 100000 in
set_option maxHeartbeats 4000000 in
theorem rFunc_no (w : World) {fa : Option Addr} {fn fc : Nat} {mn : Int} {s : ByteArray} {pa : Option Addr} {pn pc : Nat} {r : Int} {va : Option Addr} {vn vc : Nat} {ba : Option Addr} {bn bc : Nat} (Ax : Bool) (HW : Hid (∀ w', Aft w (.cells #[.slice fa fn fc, .int .i64 mn] 24) (.cells #[.string s, .slice pa pn pc, .int .i64 r, .slice va vn vc, .slice ba bn bc] 38) w' -> Calls Tryz.prog 83 #[.slice pa pn pc, .int .i64 vn] w' fun e w'' => e = .returned (.bool Ax) /\ w'' = w')) (hf : fstF pn vn bn r Ax = false) :
 Calls Tryz.prog 41 #[.agg #[.slice fa fn fc, .int .i64 mn], .agg #[.string s, .slice pa pn pc, .int .i64 r, .slice va vn vc, .slice ba bn bc]] w fun e w' => e = .returned (.bool false) /\ Below w.heap.size w w' := by
 have A0 : Aft w (.cells #[.slice fa fn fc, .int .i64 mn] 24) (.cells #[.string s, .slice pa pn pc, .int .i64 r, .slice va vn vc, .slice ba bn bc] 38) ((w.alloc (.cells #[.slice fa fn fc, .int .i64 mn] 24)).alloc (.cells #[.string s, .slice pa pn pc, .int .i64 r, .slice va vn vc, .slice ba bn bc] 38)) := Aft.refl _ _ _
 by_cases h1 : 8 < pn
 ·have g1 : decide ((8 : Int) < pn) = true := by simp; omega
  clear hf h1
  go_enter Tryz.func41, Tryz.ntmps41
  go_wp2_with fail
  go_ret
  exact ⟨rfl, A0.low⟩
 have g1 : decide ((8 : Int) < pn) = false := by simp; omega
 by_cases h2 : 262143 < vn
 ·have g2 : decide ((262143 : Int) < vn) = true := by simp; omega
  clear hf h1 h2
  go_enter Tryz.func41, Tryz.ntmps41
  go_wp2_with fail
  go_ret
  exact ⟨rfl, A0.low⟩
 have g2 : decide ((262143 : Int) < vn) = false := by simp; omega
 by_cases h3 : bn < 1
 ·have g3 : decide ((bn : Int) < 1) = true := by simp; omega
  clear hf h1 h2 h3
  go_enter Tryz.func41, Tryz.ntmps41
  go_wp2_with fail
  go_ret
  exact ⟨rfl, A0.low⟩
 have g3 : decide ((bn : Int) < 1) = false := by simp; omega
 by_cases h4 : r < 0
 ·have g4 : decide (r < 0) = true := by simp; omega
  clear hf h1 h2 h3
  go_enter Tryz.func41, Tryz.ntmps41
  go_wp2_with fail
  go_ret
  exact ⟨rfl, A0.low⟩
 have g4 : decide (r < 0) = false := by simp; omega
 by_cases h5 : 3 < r
 ·have g5 : decide (3 < r) = true := by simp; omega
  clear hf h1 h2 h3
  go_enter Tryz.func41, Tryz.ntmps41
  go_wp2_with fail
  go_ret
  exact ⟨rfl, A0.low⟩
 have g5 : decide (3 < r) = false := by simp; omega
 cases Ax
 case true =>
  exfalso
  simp [fstF] at hf
  have := hf (by omega) (by omega) (by omega) (by omega)
  omega
 case false =>
  clear hf h1 h2 h3
  go_enter Tryz.func41, Tryz.ntmps41
  go_wp2_with (go_at_call 83; refine (HW.out _ A0).mono ?_; rintro e w1 ⟨rfl, rfl⟩)
  go_ret
  exact ⟨rfl, A0.low⟩
def qlK (f : Fu) : Nat -> List (Int × Int)
 | 0 => plL (-1, -1) f.params (List.replicate f.vals.length (-2, -1))
 | k + 1 => plS k (f.blks.getD k noB) (qlK f k)
structure Sm (a b : Int × Int) : Prop where
 out : a = b \/ (a.1 = -1 /\ b.1 = -1)
structure QP (n : Nat) (Q P : List (Int × Int)) (O : List Int) : Prop where
 lq : Q.length = n
 lp : P.length = n
 lo : O.length = n
 out : ∀ x, 0 <= O.getD x 0 /\ (O.getD x 0 = 0 \/ Sm (Q.getD x (0, 0)) (P.getD x (0, 0)))
theorem QP.put {n Q P O} (h : QP n Q P O) (i : Nat) {a b : Int × Int} (hs : Sm a b) : QP n (Q.set i a) (P.set i b) (O.set i (O.getD i 0 + 1)) := by
 refine ⟨by simp [h.lq], by simp [h.lp], by simp [h.lo], fun x => ?_⟩
 have hx := h.out x
 have hi := h.out i
 by_cases e : i = x
 ·subst e
  by_cases hlt : i < n
  ·have h1 : (O.set i (O.getD i 0 + 1)).getD i 0 = O.getD i 0 + 1 := by simp [List.getD_eq_getElem?_getD, h.lo, hlt]
   have h2 : (Q.set i a).getD i (0, 0) = a := by simp [List.getD_eq_getElem?_getD, h.lq, hlt]
   have h3 : (P.set i b).getD i (0, 0) = b := by simp [List.getD_eq_getElem?_getD, h.lp, hlt]
   rw [h1, h2, h3]
   exact ⟨by omega, .inr hs⟩
  ·rw [List.set_eq_of_length_le (by rw [h.lo]; omega), List.set_eq_of_length_le (by rw [h.lq]; omega), List.set_eq_of_length_le (by rw [h.lp]; omega)]
   exact hx
 ·have h1 : (O.set i (O.getD i 0 + 1)).getD x 0 = O.getD x 0 := by simp [List.getD_eq_getElem?_getD, List.getElem?_set, e]
  have h2 : (Q.set i a).getD x (0, 0) = Q.getD x (0, 0) := by simp [List.getD_eq_getElem?_getD, List.getElem?_set, e]
  have h3 : (P.set i b).getD x (0, 0) = P.getD x (0, 0) := by simp [List.getD_eq_getElem?_getD, List.getElem?_set, e]
  rw [h1, h2, h3]
  exact hx
theorem QP.plL {n a b} (hs : Sm a b) : ∀ (L : List Int) {Q P : List (Int × Int)} {O : List Int}, QP n Q P O -> QP n (plL a L Q) (plL b L P) (cntL O L)
 | [], _, _, _, h => h
 | x :: L, _, _, _, h => QP.plL hs L (h.put x.toNat hs)
theorem QP.plB {n : Nat} (b : Int) (L : List Int) {Q P : List (Int × Int)} {O : List Int} (h : QP n Q P O) : ∀ k, k <= L.length -> QP n (plB b L k Q) (plB b L k P) (cntL O (L.take k))
 | 0, _ => by simpa [_root_.Go.Proofs.YtdbkjjelaipcfaaGreatDoor.plB, cntL] using h
 | k + 1, hk => by
   have ih := QP.plB b L h k (by omega)
   rw [cntL_take O L (by omega : k < L.length)]
   have e : gn L k = L[k]'(by omega) := by simp [gn, List.getD_eq_getElem?_getD, show k < L.length by omega]
   show QP n ((Go.Proofs.YtdbkjjelaipcfaaGreatDoor.plB b L k Q).set (gn L k).toNat (b, (k : Int))) ((Go.Proofs.YtdbkjjelaipcfaaGreatDoor.plB b L k P).set (gn L k).toNat (b, (k : Int))) _
   rw [e]
   exact ih.put _ ⟨.inl rfl⟩
theorem qp_all (f : Fu) : ∀ k, k <= f.blks.length -> QP f.vals.length (qlK f k) (plK f k) (cntK f k)
 | 0, _ => by
   have h0 : QP f.vals.length (List.replicate f.vals.length (-2, -1)) (List.replicate f.vals.length (0, 0)) (List.replicate f.vals.length 0) := by
    refine ⟨by simp, by simp, by simp, fun x => ?_⟩
    have : (List.replicate f.vals.length (0 : Int)).getD x 0 = 0 := by
     rw [List.getD_eq_getElem?_getD, List.getElem?_replicate]; split <;> rfl
    rw [this]; exact ⟨by omega, .inl rfl⟩
   have := QP.plL (a := (-1, -1)) (b := (-1, 0)) ⟨.inr ⟨rfl, rfl⟩⟩ f.params h0
   simpa [qlK, plK, cntK] using this
 | k + 1, hk => by
   have ih := qp_all f k (by omega)
   rw [cntK_next f (by omega : k < f.blks.length)]
   have e : f.blks.getD k noB = f.blks[k]'(by omega) := by simp [List.getD_eq_getElem?_getD, show k < f.blks.length by omega]
   show QP _ (plS k (f.blks.getD k noB) (qlK f k)) (plS k (f.blks.getD k noB) (plK f k)) _
   rw [e]
   unfold plS cntB
   have h1 := QP.plL (a := ((k : Int), -1)) (b := ((k : Int), -1)) ⟨.inl rfl⟩ (f.blks[k]'(by omega)).phis ih
   have h2 := QP.plB (k : Int) (f.blks[k]'(by omega)).body h1 (f.blks[k]'(by omega)).body.length (Nat.le_refl _)
   rw [List.take_of_length_le (Nat.le_refl _)] at h2
   exact h2
theorem places_same {f : Fu} (h : onceP f = true) (x : Nat) (hx : x < f.vals.length) : Sm ((qlK f f.blks.length).getD x (0, 0)) ((placesP f).getD x (0, 0)) := by
 have q := qp_all f f.blks.length (Nat.le_refl _)
 rcases (q.out x).2 with h0 | h0
 ·exfalso
  unfold onceP at h
  rw [List.all_eq_true] at h
  have hl : x < (cntAll f).length := by unfold cntAll; rw [q.lo]; exact hx
  have := h _ (List.getElem_mem hl)
  have e : (cntK f f.blks.length).getD x 0 = (cntAll f)[x]'hl := by
   rw [List.getD_eq_getElem?_getD, List.getElem?_eq_getElem (by rw [q.lo]; exact hx)]; rfl
  rw [e] at h0
  rw [h0] at this
  simp at this
 ·exact h0
def rtP (f : Fu) (v k : Int) : Bool := if ((qlK f f.blks.length).getD v.toNat (0, 0)).1 = -1 then true else !decide (k ∈ woP (waysP f) ((qlK f f.blks.length).getD v.toNat (0, 0)).1)
def rahP (f : Fu) (v : Int) (b at_ : Int) : Bool := if ((qlK f f.blks.length).getD v.toNat (0, 0)).1 = b then decide (((qlK f f.blks.length).getD v.toNat (0, 0)).2 < at_) else rtP f v b
def rub (f : Fu) (b : Nat) (k : Bk) : Bool := k.phis.all (fun phi => evr (fun i arg => rtP f arg (gn k.preds i)) 0 (gv f phi).args) && (evr (fun (at_ : Nat) v => (gv f v).args.all (fun arg => rahP f arg b at_)) 0 k.body && (decide (k.val < 0) || rtP f k.val b))
def ruP (f : Fu) : Bool := evr (rub f) 0 f.blks
theorem rt_there {f : Fu} {FS : List Fu} (hf : formP FS f = true) (hr : reachedP f = true) (ho : onceP f = true) {v k : Int} (hv : wi f.vals.length v = true) (hk : wi f.blks.length k = true) : thereP (placesP f) (regP (treeF f)) v k = rtP f v k := by
 have hg := ways_good hf
 have h0 := (formP_blocks hf).1
 have hall := reached_all hr h0 hg
 have hlen := waysP_len f
 have tk := tree_ok hg hall
 have ht : (treeP (waysP f)).length = f.blks.length := by rw [treeP_len hg, hlen]
 simp only [wi, decide_eq_true_eq] at hv hk
 have hs := places_same ho v.toNat (by omega)
 have hok := (plK_ok (f := f) h0 f.blks.length (Nat.le_refl _)).ok v.toNat
 have hk' : (k.toNat : Int) = k := Int.toNat_of_nonneg hk.1
 unfold thereP rtP
 unfold placesP at hs ⊢
 generalize (qlK f f.blks.length).getD v.toNat (0, 0) = q at hs ⊢
 generalize (plK f f.blks.length).getD v.toNat (0, 0) = p at hs hok ⊢
 rcases hs.out with rfl | ⟨h1, h2⟩
 ·by_cases e : q.1 = -1
  ·rw [if_pos e, if_pos e]
  ·rw [if_neg e, if_neg e]
   obtain ⟨h3, h4⟩ := hok.resolve_left e
   have ha : (q.1.toNat : Int) = q.1 := Int.toNat_of_nonneg h3
   have hh := reg_holds tk (a := q.1.toNat) (b := k.toNat) (by rw [ht]; omega) (by rw [ht]; omega)
   have hd : Dm (waysP f) (q.1.toNat : Int) (k.toNat : Int) ↔ ¬ k ∈ woP (waysP f) q.1 := by
    have m1 := hall q.1.toNat (by rw [hlen]; omega)
    have m2 := hall k.toNat (by rw [hlen]; omega)
    unfold Dm
    rw [ha, hk'] at *
    exact ⟨fun h => h.2.2, fun h => ⟨m1, m2, h⟩⟩
   have hx := hh.trans hd
   unfold gp at hx
   rw [Int.toNat_natCast, Int.toNat_natCast] at hx
   unfold treeF
   by_cases hm : k ∈ woP (waysP f) q.1
   ·have : ¬ holdsP ((regP (treeP (waysP f))).getD q.1.toNat (0, 0)) ((regP (treeP (waysP f))).getD k.toNat (0, 0)) = true := fun h => hx.1 h hm
    simp only [Bool.not_eq_true] at this
    rw [this]; simp [hm]
   ·rw [hx.2 hm]; simp [hm]
 ·rw [if_pos h1, if_pos h2]
theorem rah_ahead {f : Fu} {FS : List Fu} (hf : formP FS f = true) (hr : reachedP f = true) (ho : onceP f = true) {v : Int} {b : Nat} (at_ : Int) (hv : wi f.vals.length v = true) (hb : b < f.blks.length) : aheadP (placesP f) (regP (treeF f)) v b at_ = rahP f v b at_ := by
 have e := rt_there hf hr ho hv (k := (b : Int)) (by simp [wi]; omega)
 simp only [wi, decide_eq_true_eq] at hv
 have hs := places_same ho v.toNat (by omega)
 unfold aheadP rahP
 rw [e]
 rcases hs.out with h | ⟨h1, h2⟩
 ·rw [h]
 ·rw [h1, h2, if_neg (by omega), if_neg (by omega)]
theorem evr_congr {α : Type} {p q : Nat -> α -> Bool} (L : List α) : ∀ k, (∀ i (h : i < L.length), p (k + i) L[i] = q (k + i) L[i]) -> evr p k L = evr q k L := by
 induction L with
 | nil => intro k _; rfl
 | cons x L ih =>
   intro k h
   simp only [evr]
   have h0 := h 0 (by simp)
   simp only [Nat.add_zero, List.getElem_cons_zero] at h0
   rw [h0, ih (k + 1) (fun i hi => ?_)]
   have := h (i + 1) (by simpa using hi)
   rw [show k + 1 + i = k + (i + 1) by omega]
   simpa using this
theorem all_same {α : Type} {p q : α -> Bool} (L : List α) (h : ∀ x ∈ L, p x = q x) : L.all p = L.all q := by
 induction L with
 | nil => rfl
 | cons x L ih => simp only [List.all_cons]; rw [h x (by simp), ih fun y hy => h y (by simp [hy])]
theorem gv_args {f : Fu} {FS : List Fu} (hf : formP FS f = true) {x : Int} (hx : wi f.vals.length x = true) : ∀ y ∈ (gv f x).args, wi f.vals.length y = true := by
 simp only [wi, decide_eq_true_eq] at hx
 have hm : gv f x ∈ f.vals := by
  unfold gv
  rw [List.getD_eq_getElem?_getD, List.getElem?_eq_getElem (by omega : x.toNat < f.vals.length)]
  exact List.getElem_mem _
 have := formP_vals hf _ hm
 simp only [valueP, Bool.and_eq_true, List.all_eq_true] at this
 exact this.2.2.2.1
theorem ruP_eq {f : Fu} {FS : List Fu} (hf : formP FS f = true) (hp : phisP f = true) (hr : reachedP f = true) (ho : onceP f = true) : ruP f = usesP f := by
 unfold ruP usesP
 refine evr_congr _ 0 fun b hb => ?_
 rw [Nat.zero_add]
 have hm : f.blks[b] ∈ f.blks := List.getElem_mem hb
 have hB := (formP_blocks hf).2 _ hm
 have hP : phiB f f.blks[b] = true := by
  simp only [phisP, Bool.and_eq_true, List.all_eq_true] at hp
  exact hp.2 _ hm
 have hph := blockP_ph hB
 have htm := blockP_term hB
 have hpr : ∀ x ∈ f.blks[b].preds, wi f.blks.length x = true := by
  simp only [blockP, Bool.and_eq_true, List.all_eq_true] at hB
  exact hB.2.2.1
 have hvl : f.blks[b].val = -1 \/ wi f.vals.length f.blks[b].val = true := by
  by_cases e : f.blks[b].val = -1
  ·exact .inl e
  ·exact .inr (htm (.inr (.inr e)))
 simp only [phiB, Bool.and_eq_true, List.all_eq_true] at hP
 generalize f.blks[b] = k at hP hph hpr hvl
 unfold rub useB
 have e1 : (k.phis.all fun phi => evr (fun i arg => rtP f arg (gn k.preds i)) 0 (gv f phi).args) = k.phis.all (useP f (placesP f) (regP (treeF f)) k.preds) := by
  refine all_same _ fun phi hphi => ?_
  unfold useP
  refine evr_congr _ 0 fun i hi => ?_
  have hl := hP.1 phi hphi
  simp only [phP, Bool.and_eq_true, decide_eq_true_eq] at hl
  have hip : i < k.preds.length := by rw [<- hl.2]; exact hi
  unfold useA
  rw [Nat.zero_add]
  refine (rt_there hf hr ho (gv_args hf (hph.1 phi hphi) _ (List.getElem_mem hi)) ?_).symm
  have : gn k.preds i = k.preds[i] := by simp [gn, List.getD_eq_getElem?_getD, hip]
  rw [this]
  exact hpr _ (List.getElem_mem hip)
 have e2 : evr (fun (at_ : Nat) v => (gv f v).args.all (fun arg => rahP f arg b at_)) 0 k.body = evr (useV f (placesP f) (regP (treeF f)) b) 0 k.body := by
  refine evr_congr _ 0 fun i hi => ?_
  unfold useV
  refine all_same _ fun arg ha => ?_
  exact (rah_ahead hf hr ho _ (gv_args hf (hph.2 _ (List.getElem_mem hi)) _ ha) hb).symm
 have e3 : (decide (k.val < 0) || rtP f k.val b) = (decide (k.val = -1) || thereP (placesP f) (regP (treeF f)) k.val b) := by
  rcases hvl with h | h
  ·simp [h]
  ·rw [rt_there hf hr ho h (k := (b : Int)) (by simp [wi]; omega)]
   simp only [wi, decide_eq_true_eq] at h
   rw [decide_eq_false (by omega), decide_eq_false (by omega)]
 rw [e1, e2, e3]
def rcaA (f G : Fu) (i : Nat) (x : Int) : Bool := !decide ((gv G (G.params.getD i 0)).ty = 0) && decide ((gv f x).ty = (gv G (G.params.getD i 0)).ty)
def rtyV (f : Fu) (FS : List Fu) (v : Vl) : Bool :=
 if v.op = 1 then constP v.ty v.imm
 else if v.op = 13 \/ v.op = 14 then decide (v.ty = 2) && (decide (0 < (gv f (v.args.getD 0 0)).ty) && decide ((gv f (v.args.getD 1 0)).ty = (gv f (v.args.getD 0 0)).ty))
 else if v.op = 25 then evr (rcaA f (FS.getD v.imm.toNat noF)) 0 v.args && decide (v.ty = (FS.getD v.imm.toNat noF).result)
 else if v.op = 32 then v.args.all (fun x => decide ((gv f x).ty = v.ty)) && decide (0 < v.ty)
 else if v.op = 33 then decide (0 < v.ty)
 else evr (fun i x => decide ((gv f x).ty = shA (shp v.op) i)) 0 v.args && decide (v.ty = (shp v.op).gives)
def rtyB (f : Fu) (b : Bk) : Bool := decide (b.val < 0) || decide ((gv f b.val).ty = (if b.kind = 2 then 2 else if b.kind = 3 then f.result else if b.kind = 4 then 1 else 0))
def rtyP (FS : List Fu) (f : Fu) : Bool := f.vals.all (rtyV f FS) && f.blks.all (rtyB f)
theorem isTy_of {t : Int} (h : isTn t = true) : isTy t = decide (0 < t) := by
 simp only [isTn, decide_eq_true_eq] at h
 unfold isTy
 rw [decide_eq_decide]
 omega
theorem gv_mem {f : Fu} {x : Int} (hx : wi f.vals.length x = true) : gv f x ∈ f.vals := by
 simp only [wi, decide_eq_true_eq] at hx
 unfold gv
 rw [List.getD_eq_getElem?_getD, List.getElem?_eq_getElem (by omega : x.toNat < f.vals.length)]
 exact List.getElem_mem _
theorem gv_ty {f : Fu} {FS : List Fu} (hf : formP FS f = true) {x : Int} (hx : wi f.vals.length x = true) : isTn (gv f x).ty = true := by
 have := formP_vals hf _ (gv_mem hx)
 simp only [valueP, Bool.and_eq_true] at this
 exact this.2.2.2.2
structure TyOK (s : Shp) : Prop where
 out : ∀ i : Nat, (i : Int) < s.count -> isTy (shA s i) = true
theorem TyOK.ite {c : Prop} [Decidable c] {a b : Shp} (ha : TyOK a) (hb : TyOK b) : TyOK (if c then a else b) := by
 split
 ·exact ha
 ·exact hb
theorem TyOK.zero (a b c d : Int) : TyOK ⟨0, a, b, c, d⟩ := ⟨fun i h => by simp at h; omega⟩
theorem TyOK.one {a : Int} (b c d : Int) (h : isTy a = true) : TyOK ⟨1, a, b, c, d⟩ := ⟨fun i hi => by
 simp only at hi
 obtain rfl : i = 0 := by omega
 exact h⟩
theorem TyOK.two {a b : Int} (c d : Int) (h : isTy a = true) (h' : isTy b = true) : TyOK ⟨2, a, b, c, d⟩ := ⟨fun i hi => by
 simp only at hi
 rcases (show i = 0 \/ i = 1 by omega) with rfl | rfl
 ·exact h
 ·exact h'⟩
theorem TyOK.three {a b c : Int} (d : Int) (h : isTy a = true) (h' : isTy b = true) (h2 : isTy c = true) : TyOK ⟨3, a, b, c, d⟩ := ⟨fun i hi => by
 simp only at hi
 rcases (show i = 0 \/ i = 1 \/ i = 2 by omega) with rfl | rfl | rfl
 ·exact h
 ·exact h'
 ·exact h2⟩
theorem shA_ty (op : Int) (i : Nat) (hi : (i : Int) < (shp op).count) (hn : ¬ (op = 13 \/ op = 14)) : isTy (shA (shp op) i) = true := by
 have : TyOK (shp op) := by
  unfold shp
  rw [if_neg hn]
  have h1 : isTy 1 = true := by decide
  have h2 : isTy 2 = true := by decide
  have h3 : isTy 3 = true := by decide
  repeat' refine TyOK.ite ?_ ?_
  all_goals first | exact TyOK.zero _ _ _ _ | exact TyOK.one _ _ _ (by assumption) | exact TyOK.two _ _ (by assumption) (by assumption) | exact TyOK.three _ (by assumption) (by assumption) (by assumption)
 exact this.out i hi
theorem isP_dec {f : Fu} {x t : Int} (h : isTy t = true) : isP f x t = decide ((gv f x).ty = t) := by
 unfold isP; rw [h, Bool.true_and]
theorem rtyV_eq {f : Fu} {FS : List Fu} (hfs : ∀ G ∈ FS, formP FS G = true) (hf : formP FS f = true) {v : Vl} (hv : valueP f FS v = true) : rtyV f FS v = typeP f FS v := by
 simp only [valueP, Bool.and_eq_true, List.all_eq_true] at hv
 obtain ⟨ho, him, hc, ha, ht⟩ := hv
 unfold rtyV typeP
 by_cases h1 : v.op = 1
 ·rw [if_pos h1, if_pos h1]
 rw [if_neg h1, if_neg h1]
 by_cases h2 : v.op = 13 \/ v.op = 14
 ·rw [if_pos h2, if_pos h2]
  have hl : v.args.length = 2 := by
   unfold countP at hc
   rw [if_neg (by omega), if_neg (by omega), decide_eq_true_eq] at hc
   have : (shp v.op).count = 2 := by
    unfold shp
    rw [if_neg (by omega), if_pos h2]
   omega
  have g1 : wi f.vals.length (v.args.getD 1 0) = true := ha _ (by
   rw [List.getD_eq_getElem?_getD, List.getElem?_eq_getElem (by omega)]; exact List.getElem_mem _)
  have k1 := isTy_of (gv_ty hf g1)
  unfold isP
  rw [k1]
  generalize (gv f (v.args.getD 0 0)).ty = a
  generalize (gv f (v.args.getD 1 0)).ty = b
  by_cases e : b = a
  ·subst e; simp
  ·have e' : ¬ a = b := fun h => e h.symm
   simp [e, e']
 rw [if_neg h2, if_neg h2]
 by_cases h3 : v.op = 25
 ·rw [if_pos h3, if_pos h3]
  unfold callP
  rw [Bool.and_comm]
  congr 1
  have hi : wi FS.length v.imm = true := by
   unfold immP at him
   rwa [if_neg (by omega), if_pos h3] at him
  have hcl : v.args.length = (FS.getD v.imm.toNat noF).params.length := by
   unfold countP at hc
   rwa [if_neg (by omega), if_pos h3, decide_eq_true_eq] at hc
  simp only [wi, decide_eq_true_eq] at hi
  have hm : FS.getD v.imm.toNat noF ∈ FS := by
   rw [List.getD_eq_getElem?_getD, List.getElem?_eq_getElem (by omega : v.imm.toNat < FS.length)]; exact List.getElem_mem _
  have hG := hfs _ hm
  generalize FS.getD v.imm.toNat noF = G at hG hcl
  refine evr_congr _ 0 fun i hi' => ?_
  rw [Nat.zero_add]
  have hp : wi G.vals.length (G.params.getD i 0) = true := (formP_params hG).1 _ (by
   rw [List.getD_eq_getElem?_getD, List.getElem?_eq_getElem (by omega)]; exact List.getElem_mem _)
  have k1 := gv_ty hG hp
  unfold rcaA calA isP
  rw [isTy_of k1]
  simp only [isTn, decide_eq_true_eq] at k1
  generalize (gv G (G.params.getD i 0)).ty = t at k1
  by_cases e : t = 0
  ·simp [e]
  ·have : 0 < t := by omega
   simp [e, this]
 rw [if_neg h3, if_neg h3]
 by_cases h4 : v.op = 32
 ·rw [if_pos h4, if_pos h4, isTy_of ht, Bool.and_comm]
  by_cases e : 0 < v.ty
  ·have : isTy v.ty = true := by rw [isTy_of ht]; simpa using e
   congr 1
   exact all_same _ fun x _ => (isP_dec this).symm
  ·simp [e]
 rw [if_neg h4, if_neg h4]
 by_cases h5 : v.op = 33
 ·rw [if_pos h5, if_pos h5, isTy_of ht]
 rw [if_neg h5, if_neg h5, Bool.and_comm]
 congr 1
 refine evr_congr _ 0 fun i hi => ?_
 rw [Nat.zero_add]
 have hcl : (v.args.length : Int) = (shp v.op).count := by
  unfold countP at hc
  rwa [if_neg h4, if_neg h3, decide_eq_true_eq] at hc
 exact (isP_dec (shA_ty v.op i (by omega) h2)).symm
theorem rtyB_eq {f : Fu} {FS : List Fu} (hf : formP FS f = true) {b : Bk} (hb : blockP f b = true) : rtyB f b = termTy f b.kind b.val := by
 simp only [blockP, termP, Bool.and_eq_true, decide_eq_true_eq] at hb
 obtain ⟨_, _, _, hk, _, _, hu⟩ := hb
 have hR : isTn f.result = true := by
  simp only [formP, Bool.and_eq_true] at hf
  exact hf.2.2.2.1
 have key : wi f.vals.length b.val = true -> ¬ b.val < 0 := fun h => by simp only [wi, decide_eq_true_eq] at h; omega
 unfold rtyB termTy
 rcases (show b.kind = 1 \/ b.kind = 2 \/ b.kind = 3 \/ b.kind = 4 by omega) with e | e | e | e
 ·have hv : b.val = -1 := by
   rw [e] at hu
   simpa [tuses] using hu
  simp [e, hv]
 ·have hv := key (by rw [e] at hu; simpa [tuses] using hu)
  simp [e, hv, isP, isTy]
 ·by_cases h0 : f.result = 0
  ·have hv : b.val = -1 := by
    rw [e] at hu
    simpa [tuses, h0] using hu
   simp [e, hv]
  ·have hv := key (by rw [e] at hu; simpa [tuses, h0] using hu)
   have hv' : ¬ b.val = -1 := by omega
   have : isTy f.result = true := by
    rw [isTy_of hR]
    simp only [isTn, decide_eq_true_eq] at hR
    simp; omega
   simp [e, hv, hv', isP, this]
 ·have hv := key (by rw [e] at hu; simpa [tuses] using hu)
  simp [e, hv, isP, isTy]
theorem rtyP_eq {f : Fu} {FS : List Fu} (hfs : ∀ G ∈ FS, formP FS G = true) (hf : formP FS f = true) : rtyP FS f = typesP FS f := by
 unfold rtyP typesP
 rw [all_same f.vals fun v hv => rtyV_eq hfs hf (formP_vals hf v hv), all_same f.blks fun b hb => rtyB_eq hf ((formP_blocks hf).2 b hb)]
end Go.Proofs.YtdbkjjelaipcfaaGreatDoor
