import Derived.Test.YtdbkjjelaipcfaaDoorSuM
set_option linter.unusedVariables false
set_option linter.unusedSimpArgs false
namespace Go.Proofs.YtdbkjjelaipcfaaDoor
open Go.ChangeShapes Go.WideShapes Go.ChangeAt Go.RowKit Go.Maps

def useA (P R : List (Int × Int)) (preds : List Int) (i : Nat) (arg : Int) : Bool := thereP P R arg (gn preds i)
def useP (f : Fu) (P R : List (Int × Int)) (preds : List Int) (phi : Int) : Bool := evr (useA P R preds) 0 (gv f phi).args
def useV (f : Fu) (P R : List (Int × Int)) (b at_ : Nat) (v : Int) : Bool := (gv f v).args.all (fun arg => aheadP P R arg b at_)
def useB (f : Fu) (P R : List (Int × Int)) (b : Nat) (k : Bk) : Bool := k.phis.all (useP f P R k.preds) && (evr (useV f P R b) 0 k.body && (decide (k.val = -1) || thereP P R k.val b))
/-- What uses knows, in a box. -/
structure UC (w : World) (ub : Nat) (qa : Option Addr) (qn qc : Nat) (ra : Option Addr) (rn rc : Nat) (P R : List (Int × Int)) : Prop where
  box : w.heap[ub]? = some (.cells #[.slice qa qn qc, .slice ra rn rc] 75 (0, 0))
  eq : qn = P.length
  er : rn = R.length
  hP : Prs w qa qc P
  hR : Prs w ra rc R
  ok : ∀ v, v < qn → (P.getD v (0, 0)).1 = -1 ∨ (0 ≤ (P.getD v (0, 0)).1 ∧ (P.getD v (0, 0)).1 < rn)
theorem UC.below {w w' : World} {ub qa qn qc ra rn rc P R} (h : UC w ub qa qn qc ra rn rc P R) (hb : Below w.heap.size w w') : UC w' ub qa qn qc ra rn rc P R :=
  ⟨(hb.block _ (Array.getElem?_eq_some_iff.1 h.box).1).trans h.box, h.eq, h.er, h.hP.below hb (Nat.le_refl _), h.hR.below hb (Nat.le_refl _), h.ok⟩
theorem UC.there {w : World} {ub qa qn qc ra rn rc P R} (h : UC w ub qa qn qc ra rn rc P R) (v k : Int) (hv : wi qn v = true) (hk : wi rn k = true) (T : Bool) (hT : thereP P R v k = T) :
    Calls Tryd.prog 52 #[.agg #[.slice qa qn qc, .slice ra rn rc], .int .i64 v, .int .i64 k] w fun e w' => e = .returned (.bool T) ∧ Below w.heap.size w w' := by
  subst hT
  simp only [wi, decide_eq_true_eq] at hv hk
  obtain ⟨i, rfl⟩ : ∃ i : Nat, v = i := ⟨v.toNat, by omega⟩
  obtain ⟨j, rfl⟩ : ∃ j : Nat, k = j := ⟨k.toNat, by omega⟩
  exact isThere_any w qa qn qc ra rn rc P R h.eq h.er h.hP h.hR i j (by omega) (by omega) (h.ok i (by omega))
theorem UC.ahead {w : World} {ub qa qn qc ra rn rc P R} (h : UC w ub qa qn qc ra rn rc P R) (v : Int) (k : Nat) (at_ : Int) (hv : wi qn v = true) (hk : k < rn) (T : Bool) (hT : aheadP P R v k at_ = T) :
    Calls Tryd.prog 55 #[.agg #[.slice qa qn qc, .slice ra rn rc], .int .i64 v, .agg #[.int .i64 (k : Int), .int .i64 at_]] w fun e w' => e = .returned (.bool T) ∧ Below w.heap.size w w' := by
  subst hT
  simp only [wi, decide_eq_true_eq] at hv
  obtain ⟨i, rfl⟩ : ∃ i : Nat, v = i := ⟨v.toNat, by omega⟩
  exact isAhead_any w qa qn qc ra rn rc P R h.eq h.er h.hP h.hR i k at_ (by omega) (by omega) (h.ok i (by omega))
theorem opens_u1 : Opens 49 := Opens.of Tryd.func49 (by kernel_rfl) rfl
theorem opens_u11 : Opens 50 := Opens.of Tryd.func50 (by kernel_rfl) rfl
theorem opens_u111 : Opens 51 := Opens.of Tryd.func51 (by kernel_rfl) rfl
theorem opens_u12 : Opens 53 := Opens.of Tryd.func53 (by kernel_rfl) rfl
theorem opens_u121 : Opens 54 := Opens.of Tryd.func54 (by kernel_rfl) rfl
set_option maxRecDepth 100000 in
set_option maxHeartbeats 2000000 in
theorem uses111_any (w : World) {ub kb : Nat} {qa : Option Addr} {qn qc : Nat} {ra : Option Addr} {rn rc : Nat} {P R : List (Int × Int)} (U : UC w ub qa qn qc ra rn rc P R) {ka : Option Addr} {kl kc : Nat} {la : Option Addr} {ll lc : Nat} {kd vl : Int} {ma : Option Addr} {ml mc : Nat} {na : Option Addr} {nl nc : Nat} (hk : w.heap[kb]? = some (.cells #[.slice ka kl kc, .slice la ll lc, .int .i64 kd, .int .i64 vl, .slice ma ml mc, .slice na nl nc] 33 (0, 0))) (N : List Int) (hN : nl = N.length) (hI : Ints w na nc N) (hNr : ∀ x ∈ N, wi rn x = true) (i : Nat) (hi : i < nl) (x : Int) (hx : wi qn x = true) :
    Calls Tryd.prog 51 #[.int .i64 i, .int .i64 x, .pointer (some ⟨ub, 0, none⟩), .pointer (some ⟨kb, 0, none⟩)] w fun e w' => e = .returned (.bool (useA P R N i x)) ∧ Below w.heap.size w w' := by
  have hi' : i < N.length := by omega
  have hlu := (Array.getElem?_eq_some_iff.1 U.box).1
  have hlk := (Array.getElem?_eq_some_iff.1 hk).1
  have u0 : w.cell? ⟨ub, 0, none⟩ = some (.slice qa qn qc) := cell_arr U.box rfl
  have u1 : w.cell? ⟨ub, 1, none⟩ = some (.slice ra rn rc) := cell_arr U.box rfl
  obtain ⟨b0, b1, b2, b3, b4, b5⟩ := bcells hk
  obtain ⟨nb, no, rfl, ky⟩ := hI.at hi'
  have hln := block_lt_of_cell ky
  have hy := hNr N[i] (List.getElem_mem hi')
  have ey : gn N i = N[i] := gn_at hi'
  unfold useA
  rw [ey]
  obtain ⟨y, hyy⟩ : ∃ y, y = N[i] := ⟨_, rfl⟩
  rw [← hyy] at ky hy ⊢
  have hnx : nl ≤ 9223372036854775807 := by have := hI.le; have := hI.mx; omega
  generalize hT : thereP P R x y = T
  have hd : Below w.heap.size w w.drew := (Below.refl _ _).drew
  have HU : Hid (UC w.drew ub qa qn qc ra rn rc P R) := U.below hd
  have S0 : (fun w' : World => w'.cell? ⟨ub, 0, none⟩ = some (.slice qa qn qc) ∧ w'.cell? ⟨ub, 1, none⟩ = some (.slice ra rn rc) ∧ w'.cell? ⟨kb, 5, none⟩ = some (.slice (some ⟨nb, no, none⟩) nl nc) ∧ w'.cell? ⟨nb, no + i, none⟩ = some (.int .i64 y)) w.drew := ⟨u0, u1, b5, ky⟩
  have HS : Hid (∀ w1, Below w.drew.heap.size w.drew w1 → (fun w' : World => w'.cell? ⟨ub, 0, none⟩ = some (.slice qa qn qc) ∧ w'.cell? ⟨ub, 1, none⟩ = some (.slice ra rn rc) ∧ w'.cell? ⟨kb, 5, none⟩ = some (.slice (some ⟨nb, no, none⟩) nl nc) ∧ w'.cell? ⟨nb, no + i, none⟩ = some (.int .i64 y)) w1) := fun w1 hb1 => ⟨(hb1.cell (p := ⟨ub, 0, none⟩) hlu).trans u0, (hb1.cell (p := ⟨ub, 1, none⟩) hlu).trans u1, (hb1.cell (p := ⟨kb, 5, none⟩) hlk).trans b5, (hb1.cell (p := ⟨nb, no + i, none⟩) hln).trans ky⟩
  clear U hI hNr hk hN hyy ey hi' hln b0 b1 b2 b3 b4
  go_enter Tryd.func51, Tryd.ntmps51
  go_wp2_with fail
  go_region_held (fun w' => w'.cell? ⟨ub, 0, none⟩ = some (.slice qa qn qc) ∧ w'.cell? ⟨ub, 1, none⟩ = some (.slice ra rn rc) ∧ w'.cell? ⟨kb, 5, none⟩ = some (.slice (some ⟨nb, no, none⟩) nl nc) ∧ w'.cell? ⟨nb, no + i, none⟩ = some (.int .i64 y)) (first | exact S0 | exact S1)
    (first | (go_at_call 52; refine (HU.out.there _ _ hx hy _ hT).mono ?_; rintro e w1 ⟨rfl, hb1⟩; have S1 := HS.out w1 hb1))
  all_goals go_wp2_with fail
  all_goals go_ret
  all_goals first | exact ⟨rfl, hd.trans hb1⟩ | exact ⟨rfl, below_drawn (hd.trans hb1) _⟩
theorem everyU111_at (w : World) {ub kb : Nat} {qa : Option Addr} {qn qc : Nat} {ra : Option Addr} {rn rc : Nat} {P R : List (Int × Int)} (U : UC w ub qa qn qc ra rn rc P R) {ka : Option Addr} {kl kc : Nat} {la : Option Addr} {ll lc : Nat} {kd vl : Int} {ma : Option Addr} {ml mc : Nat} {na : Option Addr} {nl nc : Nat} (hk : w.heap[kb]? = some (.cells #[.slice ka kl kc, .slice la ll lc, .int .i64 kd, .int .i64 vl, .slice ma ml mc, .slice na nl nc] 33 (0, 0))) (N : List Int) (hN : nl = N.length) (hI : Ints w na nc N) (hNr : ∀ x ∈ N, wi rn x = true) (ao : Option Addr) (n c : Nat) (L : List Int) (hn : n = L.length) (hL : Ints w ao c L) (hLr : ∀ x ∈ L, wi qn x = true) (hle : n ≤ nl) (T : Bool) (hT : evr (useA P R N) 0 L = T) :
    Calls Tryd.prog 25 #[.slice ao n c, .func (.func 51) #[] #[.pointer (some ⟨ub, 0, none⟩), .pointer (some ⟨kb, 0, none⟩)]] w fun e w' => e = .returned (.bool T) ∧ Below w.heap.size w w' := by
  subst hT
  refine everyI_any w ao c n L hn hL _ _ _ opens_u111 _ (Asks.two fun W i x hi hb hv => ?_)
  obtain rfl := hv.out
  exact uses111_any W (U.below hb) ((hb.block _ (Array.getElem?_eq_some_iff.1 hk).1).trans hk) N hN (hI.below hb (Nat.le_refl _)) hNr i (by omega) L[i] (hLr _ (List.getElem_mem hi))
set_option maxRecDepth 100000 in
set_option maxHeartbeats 2000000 in
theorem uses11_any (w : World) {s : ByteArray} {pa : Option Addr} {pn pc : Nat} {r : Int} {va : Option Addr} {vn vc : Nat} {ba : Option Addr} {bn bc : Nat} {fa : Option Addr} {fn fc : Nat} {f : Fu} {FS : List Fu} (C : Ctx w s pa pn pc r va vn vc ba bn bc fa fn fc f FS) (fb : Nat) (hf : w.heap[fb]? = some (.cells #[.string s, .slice pa pn pc, .int .i64 r, .slice va vn vc, .slice ba bn bc, .slice fa fn fc] 47 (0, 0))) {ub kb : Nat} {qa : Option Addr} {qc : Nat} {ra : Option Addr} {rn rc : Nat} {P R : List (Int × Int)} (U : UC w ub qa vn qc ra rn rc P R) {ka : Option Addr} {kl kc : Nat} {la : Option Addr} {ll lc : Nat} {kd vl : Int} {ma : Option Addr} {ml mc : Nat} {na : Option Addr} {nl nc : Nat} (hk : w.heap[kb]? = some (.cells #[.slice ka kl kc, .slice la ll lc, .int .i64 kd, .int .i64 vl, .slice ma ml mc, .slice na nl nc] 33 (0, 0))) (N : List Int) (hN : nl = N.length) (hI : Ints w na nc N) (hNr : ∀ x ∈ N, wi rn x = true) (i : Nat) (x : Int) (hx : wi vn x = true) (hxr : ∀ y ∈ (gv f x).args, wi vn y = true) (hxl : (gv f x).args.length = nl) :
    Calls Tryd.prog 50 #[.int .i64 i, .int .i64 x, .pointer (some ⟨fb, 0, none⟩), .pointer (some ⟨ub, 0, none⟩), .pointer (some ⟨kb, 0, none⟩)] w fun e w' => e = .returned (.bool (useP f P R N x)) ∧ Below w.heap.size w w' := by
  obtain ⟨f0, f1, f2, f3, f4, f5⟩ := fcells hf
  obtain ⟨j, b, o, xa, xl, xc, rfl, hj, hvn, rfl, hlt, c0, c1, c2, c3, hkl, hA⟩ := C.val hx
  unfold useP
  have HE : Hid _ := everyU111_at w U hk N hN hI hNr xa xl xc (gv f (j : Int)).args hkl hA hxr (by omega) _ rfl
  generalize evr (useA P R N) 0 (gv f (j : Int)).args = T at HE
  clear C hf U hk hI hNr hxr hxl hkl hA hx hN c0 c1 c2
  go_enter Tryd.func50, Tryd.ntmps50
  go_wp2_with (go_at_call 25; refine Calls.mono HE.out ?_; rintro e w1 ⟨rfl, hb1⟩)
  go_ret
  exact ⟨rfl, hb1⟩
theorem uses121_any (w : World) {ub bb ab : Nat} {qa : Option Addr} {qn qc : Nat} {ra : Option Addr} {rn rc : Nat} {P R : List (Int × Int)} (U : UC w ub qa qn qc ra rn rc P R) (k at_ : Nat) (hb : w.heap[bb]? = some (.cells #[.int .i64 (k : Int)] 3 (0, 0))) (ha : w.heap[ab]? = some (.cells #[.int .i64 (at_ : Int)] 3 (0, 0))) (hk : k < rn) (i : Nat) (x : Int) (hx : wi qn x = true) :
    Calls Tryd.prog 54 #[.int .i64 i, .int .i64 x, .pointer (some ⟨ub, 0, none⟩), .pointer (some ⟨bb, 0, none⟩), .pointer (some ⟨ab, 0, none⟩)] w fun e w' => e = .returned (.bool (aheadP P R x k at_)) ∧ Below w.heap.size w w' := by
  have u0 : w.cell? ⟨ub, 0, none⟩ = some (.slice qa qn qc) := cell_arr U.box rfl
  have u1 : w.cell? ⟨ub, 1, none⟩ = some (.slice ra rn rc) := cell_arr U.box rfl
  have k0 : w.cell? ⟨bb, 0, none⟩ = some (.int .i64 (k : Int)) := cell_arr hb rfl
  have a0 : w.cell? ⟨ab, 0, none⟩ = some (.int .i64 (at_ : Int)) := cell_arr ha rfl
  have HE : Hid _ := U.ahead x k at_ hx hk _ rfl
  generalize aheadP P R x k at_ = T at HE
  clear U hb ha hx hk
  go_enter Tryd.func54, Tryd.ntmps54
  go_wp2_with (go_at_call 55; refine Calls.mono HE.out ?_; rintro e w1 ⟨rfl, hb1⟩)
  go_ret
  exact ⟨rfl, hb1⟩
theorem everyU121_at (w : World) {ub bb ab : Nat} {qa : Option Addr} {qn qc : Nat} {ra : Option Addr} {rn rc : Nat} {P R : List (Int × Int)} (U : UC w ub qa qn qc ra rn rc P R) (k at_ : Nat) (hb : w.heap[bb]? = some (.cells #[.int .i64 (k : Int)] 3 (0, 0))) (ha : w.heap[ab]? = some (.cells #[.int .i64 (at_ : Int)] 3 (0, 0))) (hk : k < rn) (ao : Option Addr) (n c : Nat) (L : List Int) (hn : n = L.length) (hL : Ints w ao c L) (hLr : ∀ x ∈ L, wi qn x = true) (T : Bool) (hT : L.all (fun arg => aheadP P R arg k at_) = T) :
    Calls Tryd.prog 25 #[.slice ao n c, .func (.func 54) #[] #[.pointer (some ⟨ub, 0, none⟩), .pointer (some ⟨bb, 0, none⟩), .pointer (some ⟨ab, 0, none⟩)]] w fun e w' => e = .returned (.bool T) ∧ Below w.heap.size w w' := by
  subst hT
  rw [← evr_plain (fun arg => aheadP P R arg k at_) L 0]
  refine everyI_any w ao c n L hn hL _ _ _ opens_u121 _ (Asks.three fun W i x hi hbW hv => ?_)
  obtain rfl := hv.out
  exact uses121_any W (U.below hbW) k at_ ((hbW.block _ (Array.getElem?_eq_some_iff.1 hb).1).trans hb) ((hbW.block _ (Array.getElem?_eq_some_iff.1 ha).1).trans ha) hk i L[i] (hLr _ (List.getElem_mem hi))
set_option maxRecDepth 100000 in
set_option maxHeartbeats 2000000 in
theorem uses12_any (w : World) {s : ByteArray} {pa : Option Addr} {pn pc : Nat} {r : Int} {va : Option Addr} {vn vc : Nat} {ba : Option Addr} {bn bc : Nat} {fa : Option Addr} {fn fc : Nat} {f : Fu} {FS : List Fu} (C : Ctx w s pa pn pc r va vn vc ba bn bc fa fn fc f FS) (fb : Nat) (hf : w.heap[fb]? = some (.cells #[.string s, .slice pa pn pc, .int .i64 r, .slice va vn vc, .slice ba bn bc, .slice fa fn fc] 47 (0, 0))) {ub bb : Nat} {qa : Option Addr} {qc : Nat} {ra : Option Addr} {rn rc : Nat} {P R : List (Int × Int)} (U : UC w ub qa vn qc ra rn rc P R) (k : Nat) (hb : w.heap[bb]? = some (.cells #[.int .i64 (k : Int)] 3 (0, 0))) (hk : k < rn) (i : Nat) (x : Int) (hx : wi vn x = true) (hxr : ∀ y ∈ (gv f x).args, wi vn y = true) :
    Calls Tryd.prog 53 #[.int .i64 i, .int .i64 x, .pointer (some ⟨fb, 0, none⟩), .pointer (some ⟨ub, 0, none⟩), .pointer (some ⟨bb, 0, none⟩)] w fun e w' => e = .returned (.bool (useV f P R k i x)) ∧ Below w.heap.size w w' := by
  have A0 : Af1 w (.cells #[.int .i64 (i : Int)] 3) (w.alloc (.cells #[.int .i64 (i : Int)] 3)) := Af1.refl _ _
  have hf' := (A0.low.block _ (Array.getElem?_eq_some_iff.1 hf).1).trans hf
  obtain ⟨f0, f1, f2, f3, f4, f5⟩ := fcells hf'
  obtain ⟨j, b, o, xa, xl, xc, rfl, hj, hvn, rfl, hlt, c0, c1, c2, c3, hkl, hA⟩ := (C.below A0.low (Nat.le_refl _)).val hx
  unfold useV
  have HE : Hid _ := everyU121_at _ (U.below A0.low) k i ((A0.low.block _ (Array.getElem?_eq_some_iff.1 hb).1).trans hb) A0.one hk xa xl xc (gv f (j : Int)).args hkl hA hxr _ rfl
  generalize (gv f (j : Int)).args.all (fun arg => aheadP P R arg k i) = T at HE
  clear C hf U hb hxr hkl hA hx c0 c1 c2 hf'
  go_enter Tryd.func53, Tryd.ntmps53
  go_wp2_with (go_at_call 25; refine Calls.mono HE.out ?_; rintro e w1 ⟨rfl, hb1⟩)
  go_ret
  exact ⟨rfl, (A0.next hb1).low⟩
end Go.Proofs.YtdbkjjelaipcfaaDoor
