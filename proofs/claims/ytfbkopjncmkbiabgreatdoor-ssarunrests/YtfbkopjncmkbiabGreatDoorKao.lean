import Derived.Test.YtfbkopjncmkbiabGreatDoorKan
set_option linter.unusedVariables false
set_option linter.unusedSimpArgs false
namespace Go.Proofs.YtfbkopjncmkbiabGreatDoor
open Go.ChangeShapes Go.WideShapes Go.ChangeAt Go.RowKit Go.Maps
def typeP (f : Fu) (FS : List Fu) (v : Vl) : Bool :=
 if v.op = 1 then constP v.ty v.imm else if v.op = 13 \/ v.op = 14 then decide (v.ty = 2) && isP f (v.args.getD 0 0) (gv f (v.args.getD 1 0)).ty else if v.op = 25 then callP f FS v.ty v.imm v.args
 else if v.op = 32 then isTy v.ty && v.args.all (fun x => isP f x v.ty) else if v.op = 33 then isTy v.ty else decide (v.ty = (shp v.op).gives) && evr (fun i x => isP f x (shA (shp v.op) i)) 0 v.args
theorem ite_count {c : Prop} [Decidable c] {a b : Shp} (ha : a.count <= 3) (hb : b.count <= 3) : (if c then a else b).count <= 3 := by
 by_cases h : c
 ·rw [if_pos h]; exact ha
 ·rw [if_neg h]; exact hb
theorem shp_le (op : Int) : (shp op).count <= 3 := by
 unfold shp
 repeat refine ite_count (by decide) ?_
 decide
theorem typeFits_any (w : World) {s : ByteArray} {pa : Option Addr} {pn pc : Nat} {r : Int} {va : Option Addr} {vn vc : Nat} {ba : Option Addr} {bn bc : Nat} {fa : Option Addr} {fn fc : Nat} {f : Fu} {FS : List Fu} (C : Ctx w s pa pn pc r va vn vc ba bn bc fa fn fc f FS) (hfs : ∀ G ∈ FS, formP FS G = true) (i : Nat) (v : Vl) (hv : valueP f FS v = true) (ka : Option Addr) (kc : Nat) (hA : Ints w ka kc v.args) :
 Calls Tryz.prog 96 #[.agg #[.string s, .slice pa pn pc, .int .i64 r, .slice va vn vc, .slice ba bn bc, .slice fa fn fc], .int .i64 i, .agg #[.int .i64 v.op, .int .i64 v.ty, .int .i64 v.imm, .slice ka v.args.length kc]] w fun e w' => e = .returned (.bool (typeP f FS v)) /\ Below w.heap.size w w' := by
 obtain ⟨op, ty, imm, A⟩ := v
 simp only [valueP, Bool.and_eq_true, List.all_eq_true] at hv
 obtain ⟨_, h2, h3, h4, _⟩ := hv
 rw [<- C.ev] at h4
 simp only at hA h2 h3 h4
 unfold typeP
 simp only
 by_cases h1 : op = 1
 ·subst h1
  rw [if_pos rfl]
  exact typeFits_const w C i ty imm ka _ kc A rfl hA h4
 rw [if_neg h1]
 by_cases h13 : op = 13 \/ op = 14
 ·rw [if_pos h13]
  have hl : A.length = 2 := by
   have := h3
   unfold countP at this
   rw [if_neg (by omega), if_neg (by omega)] at this
   have e : shp op = ⟨2, 0, 0, 0, 2⟩ := by unfold shp; rw [if_neg (by omega), if_pos h13]
   rw [e] at this
   simp only [decide_eq_true_eq] at this
   omega
  match A, hl with
  | [x, y], _ =>
    have hx := h4 x (by simp)
    have hy := h4 y (by simp)
    by_cases ht : ty = 2
    ·subst ht
     rcases h13 with rfl | rfl
     ·simpa using typeFits_yes13 w C i imm ka kc x y hA hx hy
     ·simpa using typeFits_yes14 w C i imm ka kc x y hA hx hy
    ·rw [decide_eq_false ht]
     rcases h13 with rfl | rfl
     ·exact typeFits_no13 w i ty imm ka _ kc ht
     ·exact typeFits_no14 w i ty imm ka _ kc ht
 rw [if_neg h13]
 by_cases h25 : op = 25
 ·subst h25
  rw [if_pos rfl]
  refine typeFits_call w C i ty imm ka _ kc A rfl hA h4 ?_ ?_ hfs
  ·have := h2
   unfold immP at this
   rw [if_neg (by omega), if_pos rfl] at this
   rw [C.ef]; exact this
  ·have := h3
   unfold countP at this
   rw [if_neg (by omega), if_pos rfl] at this
   simpa using this
 rw [if_neg h25]
 by_cases h32 : op = 32
 ·subst h32
  rw [if_pos rfl]
  exact typeFits_phi w C i ty imm ka _ kc A rfl hA h4
 rw [if_neg h32]
 by_cases h33 : op = 33
 ·subst h33
  rw [if_pos rfl]
  exact typeFits_param w C i ty imm ka _ kc A rfl hA h4
 rw [if_neg h33]
 refine typeFits_other w C i ty imm ka _ kc A rfl hA h4 op h1 (by omega) (by omega) h25 h32 h33 ?_
 have := h3
 unfold countP at this
 rw [if_neg h32, if_neg h25] at this
 simp only [decide_eq_true_eq] at this
 have := shp_le op
 omega
def typesP (FS : List Fu) (f : Fu) : Bool := f.vals.all (typeP f FS) && f.blks.all (fun b => termTy f b.kind b.val)
theorem formP_vals {f : Fu} {FS : List Fu} (h : formP FS f = true) : ∀ v ∈ f.vals, valueP f FS v = true := by
 simp only [formP, Bool.and_eq_true, decide_eq_true_eq, List.all_eq_true] at h
 exact h.2.2.2.2.2.1
theorem blockP_term {f : Fu} {b : Bk} (h : blockP f b = true) : b.kind = 2 \/ b.kind = 4 \/ ¬ b.val = -1 -> wi f.vals.length b.val = true := by
 simp only [blockP, Bool.and_eq_true] at h
 have := h.2.2.2
 unfold termP at this
 simp only [Bool.and_eq_true, decide_eq_true_eq] at this
 obtain ⟨⟨k1, k2⟩, _, _, h4⟩ := this
 intro hc
 split at h4
 ·exact h4
 ·rename_i hu
  simp at h4
  exfalso
  apply hu
  unfold tuses
  rcases hc with hc | hc | hc
  ·rw [if_neg (by omega), if_neg (by omega)]
  ·rw [if_neg (by omega), if_neg (by omega)]
  ·exact absurd h4 hc
theorem everyTy_at (w : World) {s : ByteArray} {pa : Option Addr} {pn pc : Nat} {r : Int} {va : Option Addr} {vn vc : Nat} {ba : Option Addr} {bn bc : Nat} {fa : Option Addr} {fn fc : Nat} {f : Fu} {FS : List Fu} (C : Ctx w s pa pn pc r va vn vc ba bn bc fa fn fc f FS) (hfs : ∀ G ∈ FS, formP FS G = true) (hform : formP FS f = true) (R : Bool) (hR : f.vals.all (typeP f FS) = R) :
 Calls Tryz.prog 80 #[.slice va vn vc, .func (.func 96) #[.agg #[.string s, .slice pa pn pc, .int .i64 r, .slice va vn vc, .slice ba bn bc, .slice fa fn fc]] #[]] w fun e w' => e = .returned (.bool R) /\ Below w.heap.size w w' := by
 subst hR
 rw [<- evr_plain (typeP f FS) f.vals 0]
 refine everyV_any w va vc vn f.vals C.ev C.hv _ _ _ opens_ty _ (Asks.meth fun W i x hi hb hv => ?_)
 obtain ⟨ka, kc, rfl, hI⟩ := hv.out
 exact typeFits_any W (C.below hb (Nat.le_refl _)) hfs i _ (formP_vals hform _ (List.getElem_mem hi)) ka kc hI
theorem everyY1_at (w : World) {s : ByteArray} {pa : Option Addr} {pn pc : Nat} {r : Int} {va : Option Addr} {vn vc : Nat} {ba : Option Addr} {bn bc : Nat} {fa : Option Addr} {fn fc : Nat} {f : Fu} {FS : List Fu} (C : Ctx w s pa pn pc r va vn vc ba bn bc fa fn fc f FS) (hform : formP FS f = true) (fb : Nat) (hf : w.heap[fb]? = some (.cells #[.string s, .slice pa pn pc, .int .i64 r, .slice va vn vc, .slice ba bn bc, .slice fa fn fc] 77 (0, 0))) (R : Bool) (hR : f.blks.all (fun b => termTy f b.kind b.val) = R) :
 Calls Tryz.prog 82 #[.slice ba bn bc, .func (.func 97) #[] #[.pointer (some ⟨fb, 0, none⟩)]] w fun e w' => e = .returned (.bool R) /\ Below w.heap.size w w' := by
 subst hR
 rw [<- evr_plain (fun b => termTy f b.kind b.val) f.blks 0]
 refine everyB_any w ba bc bn f.blks C.eb C.hb _ _ _ opens_y1 _ (Asks.one fun W i x hi hb hv => ?_)
 obtain ⟨ka, kc, la, lc, ma, mc, na, nc, rfl, h1, h2, h3, h4⟩ := hv.out
 have hp := blockP_term ((formP_blocks hform).2 _ (List.getElem_mem hi))
 rw [<- C.ev] at hp
 exact typesY1_any W (C.below hb (Nat.le_refl _)) fb ((hb.block _ (gl hf)).trans hf) i ka _ kc la _ lc _ _ ma _ mc na _ nc hp
set_option maxRecDepth 100000 in
theorem typesFit_any (w : World) {s : ByteArray} {pa : Option Addr} {pn pc : Nat} {r : Int} {va : Option Addr} {vn vc : Nat} {ba : Option Addr} {bn bc : Nat} {fa : Option Addr} {fn fc : Nat} {f : Fu} {FS : List Fu} (C : Ctx w s pa pn pc r va vn vc ba bn bc fa fn fc f FS) (hfs : ∀ G ∈ FS, formP FS G = true) (hform : formP FS f = true) :
 Calls Tryz.prog 57 #[.agg #[.string s, .slice pa pn pc, .int .i64 r, .slice va vn vc, .slice ba bn bc, .slice fa fn fc]] w fun e w' => e = .returned (.bool (typesP FS f)) /\ Below w.heap.size w w' := by
 have A0 : Af1 w (.cells #[.string s, .slice pa pn pc, .int .i64 r, .slice va vn vc, .slice ba bn bc, .slice fa fn fc] 77) (w.alloc (.cells #[.string s, .slice pa pn pc, .int .i64 r, .slice va vn vc, .slice ba bn bc, .slice fa fn fc] 77)) := Af1.refl _ _
 have HC : Hid (∀ w', Af1 w (.cells #[.string s, .slice pa pn pc, .int .i64 r, .slice va vn vc, .slice ba bn bc, .slice fa fn fc] 77) w' -> Ctx w' s pa pn pc r va vn vc ba bn bc fa fn fc f FS) := fun w' h => C.below h.low (Nat.le_refl _)
 have HF : Hid _ := hfs
 have HX : Hid _ := hform
 unfold typesP
 clear C hfs hform
 cases q1 : f.vals.all (typeP f FS) with
 | false =>
   go_enter Tryz.func57, Tryz.ntmps57
   go_wp2_with (go_at_call 80; refine (everyTy_at _ (HC.out _ A0) HF.out HX.out _ q1).mono ?_; rintro e w1 ⟨rfl, hb1⟩)
   go_ret
   exact ⟨rfl, (A0.next hb1).low⟩
 | true =>
   generalize q2 : f.blks.all (fun b => termTy f b.kind b.val) = R
   go_enter Tryz.func57, Tryz.ntmps57
   go_wp2_with (first
    | (go_at_call 80; refine (everyTy_at _ (HC.out _ A0) HF.out HX.out _ q1).mono ?_; rintro e w1 ⟨rfl, hb1⟩; have A1 := A0.next hb1; obtain ⟨f0, f1, f2, f3, f4, f5⟩ := fcells A1.one)
    | (go_at_call 82; refine (everyY1_at w1 (HC.out _ A1) HX.out w.heap.size A1.one _ q2).mono ?_; rintro e w2 ⟨rfl, hb2⟩))
   go_ret
   exact ⟨by simp, (A1.next hb2).low⟩
def mainP (FS : List Fu) (m : Int) : Bool := wi FS.length m && (decide ((FS.getD m.toNat noF).params.length = 0) && decide ((FS.getD m.toNat noF).result = 0))
theorem mainFits_any (w : World) (fa : Option Addr) (fn fc : Nat) (FS : List Fu) (hfn : fn = FS.length) (hF : Fus w fa fc FS) (m : Int) :
 Calls Tryz.prog 49 #[.agg #[.slice fa fn fc, .int .i64 m]] w fun e w' => e = .returned (.bool (mainP FS m)) /\ Below w.heap.size w w' := by
 unfold mainP
 rw [<- hfn]
 have A0 : Af1 w (.cells #[.slice fa fn fc, .int .i64 m] 40) (w.alloc (.cells #[.slice fa fn fc, .int .i64 m] 40)) := Af1.refl _ _
 cases hq : wi fn m with
 | false =>
   clear hF hfn
   go_enter Tryz.func49, Tryz.ntmps49
   go_wp2_with (go_at_call 76; refine (withinF_at _ _ _ _ _ _ hq).mono ?_; rintro e w' ⟨rfl, rfl⟩)
   go_ret
   exact ⟨rfl, A0.low⟩
 | true =>
   have hw := hq
   simp only [wi, decide_eq_true_eq] at hw
   obtain ⟨j, rfl⟩ : ∃ j : Nat, m = j := ⟨m.toNat, by omega⟩
   have hj : j < FS.length := by omega
   have hjn : j < fn := by omega
   have hfx : fn <= 9223372036854775807 := by have := hF.le; have := hF.mx; omega
   have eG : FS.getD (j : Int).toNat noF = FS[j] := by simp [hj]
   rw [eG]
   obtain ⟨b, o, xa, xc, la, lc, ma, mc, rfl, hlt, c0, c1, c2, c3, c4, g1, g2, g3⟩ := hF.at hj
   have A1 : Af1 w (.cells #[.slice (some ⟨b, o, none⟩) fn fc, .int .i64 (j : Int)] 40) (w.alloc (.cells #[.slice (some ⟨b, o, none⟩) fn fc, .int .i64 (j : Int)] 40)) := Af1.refl _ _
   generalize FS[j].params.length = n at c1
   generalize FS[j].result = t at c2
   clear hF hfn g1 g2 g3 c0 c3 c4 eG hj hw A0
   by_cases hn : n = 0
   ·subst hn
    by_cases ht : t = 0
    ·subst ht
     go_enter Tryz.func49, Tryz.ntmps49
     go_wp2_with (go_at_call 76; refine (withinF_at _ _ _ _ _ _ hq).mono ?_; rintro e w' ⟨rfl, rfl⟩)
     go_ret
     exact ⟨by simp, A1.low⟩
    ·go_enter Tryz.func49, Tryz.ntmps49
     go_wp2_with (go_at_call 76; refine (withinF_at _ _ _ _ _ _ hq).mono ?_; rintro e w' ⟨rfl, rfl⟩)
     go_ret
     exact ⟨by simp [ht], A1.low⟩
   ·go_enter Tryz.func49, Tryz.ntmps49
    go_wp2_with (go_at_call 76; refine (withinF_at _ _ _ _ _ _ hq).mono ?_; rintro e w' ⟨rfl, rfl⟩)
    go_ret
    exact ⟨by simp [hn], A1.low⟩
theorem opens_f2 : Opens 51 := Opens.of Tryz.func51 (by kernel_rfl) rfl
theorem formed2_any (w : World) (sb : Nat) (fa : Option Addr) (fn fc : Nat) (FS : List Fu) (hfn : fn = FS.length) (hF : Fus w fa fc FS) (m : Int) (hs : w.heap[sb]? = some (.cells #[.slice fa fn fc, .int .i64 m] 40 (0, 0))) (i : Nat) (x : Value) (f : Fu) (hx : FuV w x f) :
 Calls Tryz.prog 51 #[.int .i64 i, x, .pointer (some ⟨sb, 0, none⟩)] w fun e w' => e = .returned (.bool (formP FS f)) /\ Below w.heap.size w w' := by
 obtain ⟨ka, kc, la, lc, ma, mc, rfl, h1, h2, h3⟩ := hx.out
 obtain ⟨gs, hgs⟩ : ∃ gs, gs = f.name := ⟨_, rfl⟩
 obtain ⟨xl, hxl⟩ : ∃ xl, xl = f.params.length := ⟨_, rfl⟩
 obtain ⟨gr, hgr⟩ : ∃ gr, gr = f.result := ⟨_, rfl⟩
 obtain ⟨ll, hll⟩ : ∃ ll, ll = f.vals.length := ⟨_, rfl⟩
 obtain ⟨ml, hml⟩ : ∃ ml, ml = f.blks.length := ⟨_, rfl⟩
 rw [<- hgs, <- hxl, <- hgr, <- hll, <- hml]
 have A0 : Af1 w (.cells #[.string gs, .slice ka xl kc, .int .i64 gr, .slice la ll lc, .slice ma ml mc] 33) (w.alloc (.cells #[.string gs, .slice ka xl kc, .int .i64 gr, .slice la ll lc, .slice ma ml mc] 33)) := Af1.refl _ _
 have hs0 := (A0.low.block _ (gl hs)).trans hs
 have s0 := cell_arr (i := 0) hs0 rfl
 have HC : Hid (Ctx (w.alloc (.cells #[.string gs, .slice ka xl kc, .int .i64 gr, .slice la ll lc, .slice ma ml mc] 33)) gs ka xl kc gr la ll lc ma ml mc fa fn fc f FS) := ⟨hgs, hxl, hgr, hll, hml, hfn, h1.below A0.low (Nat.le_refl _), h2.below A0.low (Nat.le_refl _), h3.below A0.low (Nat.le_refl _), hF.below A0.low (Nat.le_refl _)⟩
 have HT : Hid _ := formedF_any _ HC.out
 generalize formP FS f = R at HT
 clear hx h1 h2 h3 hgs hxl hgr hll hml hs hs0 hF HC hfn
 go_enter Tryz.func51, Tryz.ntmps51
 go_wp2_with (go_at_call 52; refine Calls.mono HT.out ?_; rintro e w1 ⟨rfl, hb1⟩)
 go_ret
 exact ⟨rfl, (A0.next hb1).low⟩
theorem everyF2_at (w : World) (sb : Nat) (fa : Option Addr) (fn fc : Nat) (FS : List Fu) (hfn : fn = FS.length) (hF : Fus w fa fc FS) (m : Int) (hs : w.heap[sb]? = some (.cells #[.slice fa fn fc, .int .i64 m] 40 (0, 0))) (R : Bool) (hR : FS.all (formP FS) = R) :
 Calls Tryz.prog 50 #[.slice fa fn fc, .func (.func 51) #[] #[.pointer (some ⟨sb, 0, none⟩)]] w fun e w' => e = .returned (.bool R) /\ Below w.heap.size w w' := by
 subst hR
 rw [<- evr_plain (formP FS) FS 0]
 refine everyF_any w fa fc fn FS hfn hF _ _ _ opens_f2 _ (Asks.one fun W i x hi hb hv => ?_)
 exact formed2_any W sb fa fn fc FS hfn (hF.below hb (Nat.le_refl _)) m ((hb.block _ (gl hs)).trans hs) i x _ hv
structure Oft (w : World) (ob g n : Nat) (O : List Int) : Prop where
 box : w.heap[ob]? = some (.cells #[.slice (some ⟨g, 0, none⟩) n n] 23 (0, 0))
 row : w.heap[g]? = some (.cells (ivs O).toArray 3 (0, 0))
 len : O.length = n
 ne : ob ≠ g
theorem Oft.keep {w w' : World} {ob g n O} (h : Oft w ob g n O) (hb : Below w.heap.size w w') : Oft w' ob g n O :=
 ⟨(hb.block _ (gl h.box)).trans h.box, (hb.block _ (gl h.row)).trans h.row, h.len, h.ne⟩
theorem Oft.put {w : World} {ob g n O} (h : Oft w ob g n O) (j : Nat) (v : Int) : Oft (w.setCell ⟨g, j, none⟩ (.int .i64 v)) ob g n (O.set j v) := by
 refine ⟨(heap_set_other h.ne).trans h.box, ?_, by simpa using h.len, h.ne⟩
 have := heap_set_at (i := j) (v := .int .i64 v) h.row
 rw [this]
 simp [ivs, List.map_set]
def cntL (O : List Int) (L : List Int) : List Int := L.foldl (fun O x => O.set x.toNat (O.getD x.toNat 0 + 1)) O
theorem cntL_take (O L : List Int) {j : Nat} (hj : j < L.length) : cntL O (L.take (j + 1)) = (cntL O (L.take j)).set L[j].toNat ((cntL O (L.take j)).getD L[j].toNat 0 + 1) := by
 rw [<- List.take_append_getElem hj, cntL, List.foldl_append]
 rfl
set_option maxRecDepth 100000 in
set_option maxHeartbeats 2000000 in
theorem count_any (w : World) {ob g n : Nat} {O : List Int} (H : Oft w ob g n O) (ao : Option Addr) (m c : Nat) (L : List Int) (hm : m = L.length) (hL : Ints w ao c L) (hng : L ≠ [] -> ∀ b o, ao = some ⟨b, o, none⟩ -> b ≠ g) (hr : ∀ x ∈ L, wi n x = true) (K : Int) (hK : ∀ i, 0 <= O.getD i 0 /\ O.getD i 0 <= K) (hKm : K + m <= 1000000000000) (hn : n <= 1000000000000) :
 Calls Tryz.prog 94 #[.slice ao m c, .pointer (some ⟨ob, 0, none⟩)] w fun e w' => e = .returned (.tuple #[]) /\ Oft w' ob g n (cntL O L) /\ (∀ i, 0 <= (cntL O L).getD i 0 /\ (cntL O L).getD i 0 <= K + m) /\ Only (fun k => k = g) w w' := by
 have HL : Hid (Ints w ao c L) := hL
 have HM : Hid (m = L.length) := hm
 have HR : Hid (∀ x ∈ L, wi n x = true) := hr
 have HNG : Hid (L ≠ [] -> ∀ b o, ao = some ⟨b, o, none⟩ -> b ≠ g) := hng
 have HH : Hid _ := H
 have HK : Hid (∀ i, 0 <= O.getD i 0 /\ O.getD i 0 <= K) := hK
 have hmx : m <= 9223372036854775807 := by have := hL.le; have := hL.mx; omega
 clear hL hm hr hng H hK
 go_enter Tryz.func94, Tryz.ntmps94
 go_wp2_with fail
 go_loopw [7] (fun v wr => ∃ k : Nat, k <= m /\ v = .int .i64 k /\ Hid (Oft wr ob g n (cntL O (L.take k))) /\ Hid (∀ i, 0 <= (cntL O (L.take k)).getD i 0 /\ (cntL O (L.take k)).getD i 0 <= K + k) /\ Hid (Only (fun k => k = g) w wr)) (fun v _ => m - (intOf v).toNat)
 case atStart => exact ⟨0, by omega, rfl, (show Oft w ob g n (cntL O (L.take 0)) from by simpa [cntL] using HH.out), fun i => by have := HK.out i; simpa [cntL] using this, Only.refl _ _⟩
 case round =>
  obtain ⟨k, hk, rfl, HO, HB, HW⟩ := hrel
  by_cases hlt : k < m
  ·have hk2 : k < L.length := by have := HM.out; omega
   obtain ⟨b, o, rfl, hAt⟩ := HL.out.out (by intro e; rw [e] at hk2; simp at hk2)
   have kx : wr.cell? ⟨b, o + k, none⟩ = some (.int .i64 L[k]) := by
    have e1 := HW.out.block b hAt.lt (HNG.out (by intro e; rw [e] at hk2; simp at hk2) b o rfl)
    have e2 := hAt.cell k hk2
    simp only [World.cell?, e1] at e2 ⊢
    exact e2
   have hwk := HR.out L[k] (List.getElem_mem hk2)
   simp only [wi, decide_eq_true_eq] at hwk
   obtain ⟨j, hj⟩ : ∃ j : Nat, L[k] = j := ⟨L[k].toNat, by omega⟩
   have hjn : j < n := by omega
   have hnext := cntL_take O L hk2
   rw [hj, Int.toNat_natCast] at hnext
   rw [hj] at kx
   generalize cntL O (L.take k) = P at HO HB hnext
   have hjP : j < P.length := by rw [HO.out.len]; exact hjn
   obtain ⟨y, hy⟩ : ∃ y, y = P.getD j 0 := ⟨_, rfl⟩
   have hyb := HB.out j
   rw [<- hy] at hyb hnext
   have c0 : wr.cell? ⟨ob, 0, none⟩ = some (.slice (some ⟨g, 0, none⟩) n n) := cell_arr HO.out.box rfl
   have c1 : wr.cell? ⟨g, j, none⟩ = some (.int .i64 y) := cell_arr HO.out.row (by rw [hy]; simp [ivs, hjP])
   have c2 : wr.frozen? ⟨g, j, none⟩ = false := fz_of HO.out.row
   have HN : Hid _ := hnext
   have HBb : Hid (0 <= y /\ y <= K + k) := hyb
   have w1 : -9223372036854775808 <= y + 1 := by omega
   have w2 : y + 1 <= 9223372036854775807 := by omega
   clear hnext hy hyb hj hwk hAt
   go_wp2_with fail
   go_roundw
   case rel =>
    refine ⟨k + 1, by omega, by go_num, ?_, ?_, ?_⟩
    ·rw [HN.out]; exact HO.out.put j (y + 1)
    ·intro i
     rw [HN.out]
     by_cases e : i = j
     ·subst e
      have := HBb.out
      simp [List.getD, hjP]; omega
     ·have := HB.out i
      have e2 : (P.set j (y + 1)).getD i 0 = P.getD i 0 := by simp [List.getD, List.getElem?_set, Ne.symm e]
      rw [e2]; omega
    ·exact HW.out.trans (Only.of_set _ _ _) (fun i _ h => h)
   case measure => simp [intOf]; omega
  ·have hkm : k = m := by omega
   subst hkm
   have e : L.take k = L := List.take_of_length_le (by have := HM.out; omega)
   rw [e] at HO HB
   go_wp2_with fail
   refine bodyPost_end (v := .tuple #[]) (by simp [results, Tryz.results94, go_sem]) rfl ⟨rfl, HO.out, HB.out, HW.out⟩
theorem opens_e2 : Opens 95 := Opens.of Tryz.func95 (by kernel_rfl) rfl
theorem everyOnce_at (w : World) (ao : Option Addr) (n c : Nat) (L : List Int) (hn : n = L.length) (hL : Ints w ao c L) (R : Bool) (hR : L.all (fun x => decide (x = 1)) = R) :
 Calls Tryz.prog 78 #[.slice ao n c, .func (.func 95) #[] #[]] w fun e w' => e = .returned (.bool R) /\ Below w.heap.size w w' := by
 subst hR
 rw [<- evr_plain (fun x => decide (x = 1)) L 0]
 refine everyI_any w ao c n L hn hL _ _ _ opens_e2 _ (Asks.zero fun W i x hi hb hv => ?_)
 obtain rfl := hv.out
 generalize L[i] = y
 go_enter Tryz.func95, Tryz.ntmps95
 go_wp2_with fail
 go_ret
 exact ⟨rfl, Below.refl _ _⟩
def cntB (O : List Int) (b : Bk) : List Int := cntL (cntL O b.phis) b.body
def cntK (f : Fu) (k : Nat) : List Int := (f.blks.take k).foldl cntB (cntL (List.replicate f.vals.length 0) f.params)
def cntAll (f : Fu) : List Int := cntK f f.blks.length
def onceP (f : Fu) : Bool := (cntAll f).all (fun x => decide (x = 1))
def totK (f : Fu) (k : Nat) : Nat := f.params.length + ((f.blks.take k).map fun b => b.phis.length + b.body.length).sum
theorem cntK_next (f : Fu) {k : Nat} (hk : k < f.blks.length) : cntK f (k + 1) = cntB (cntK f k) f.blks[k] := by
 rw [cntK, <- List.take_append_getElem hk, List.foldl_append]; rfl
theorem totK_next (f : Fu) {k : Nat} (hk : k < f.blks.length) : totK f (k + 1) = totK f k + (f.blks[k].phis.length + f.blks[k].body.length) := by
 rw [totK, <- List.take_append_getElem hk, List.map_append, List.sum_append]
 simp [totK]; omega
theorem totK_mono (f : Fu) : ∀ k, totK f k <= totK f f.blks.length := by
 intro k
 by_cases h : k < f.blks.length
 ·obtain ⟨d, hd⟩ : ∃ d, f.blks.length = k + d := ⟨f.blks.length - k, by omega⟩
  have key : ∀ d k, k + d <= f.blks.length -> totK f k <= totK f (k + d) := by
   intro d
   induction d with
   | zero => intro k _; exact Nat.le_refl _
   | succ d ih =>
     intro k h
     have h1 := ih k (by omega)
     have h2 := totK_next f (k := k + d) (by omega)
     rw [show k + (d + 1) = k + d + 1 by omega, h2]; omega
  rw [hd]; exact key d k (by omega)
 ·rw [totK, totK, List.take_of_length_le (by omega), List.take_of_length_le (Nat.le_refl _)]; exact Nat.le_refl _
theorem Oft.ints {w : World} {ob g n O} (h : Oft w ob g n O) (hn : n <= 9223372036854775807) : Ints w (some ⟨g, 0, none⟩) n O := by
 refine ⟨by rw [h.len]; exact Nat.le_refl _, hn, fun _ => ⟨g, 0, rfl, (gl h.row), fun i hi => ?_⟩⟩
 rw [Nat.zero_add]
 exact cell_arr h.row (by simp [ivs, hi])
theorem Oft.start (w : World) (n : Nat) : Oft ((w.alloc (.cells (madeCells #[.int .i64 0] n) 3)).alloc (.cells #[.slice (some ⟨w.heap.size, 0, none⟩) n n] 23)) (w.heap.size + 1) w.heap.size n (List.replicate n 0) := by
 refine ⟨?_, ?_, by simp, by omega⟩
 ·have := heap_alloc_new (w.alloc (.cells (madeCells #[.int .i64 0] n) 3)) (.cells #[.slice (some ⟨w.heap.size, 0, none⟩) n n] 23)
  simpa using this
 ·rw [heap_alloc_old _ _ (by simp)]
  have e : madeCells #[.int .i64 0] n = (ivs (List.replicate n 0)).toArray := by
   apply Array.toList_inj.1
   rw [toList_madeCells_one]
   simp [ivs]
  rw [<- e]; exact heap_alloc_new _ _
theorem ints_ng {w : World} {ao : Option Addr} {c g : Nat} {L : List Int} (h : Ints w ao c L) (hg : w.heap.size <= g) : L ≠ [] -> ∀ b o, ao = some ⟨b, o, none⟩ -> b ≠ g := by
 intro hn b o e
 obtain ⟨b', o', e', hA⟩ := h.out hn
 rw [e] at e'
 cases e'
 have := hA.lt
 omega
structure EO (w wr : World) (A : Obj) (vn : Nat) (O : List Int) (K : Int) : Prop where
 o : Oft wr (w.heap.size + 1 + 1) (w.heap.size + 1) vn O
 b : ∀ i, 0 <= O.getD i 0 /\ O.getD i 0 <= K
 l : Below w.heap.size w wr
 a : wr.heap[w.heap.size]? = some A
theorem EO.only {w wr w' : World} {A vn O O' K K'} (h : EO w wr A vn O K) (ho : Oft w' (w.heap.size + 1 + 1) (w.heap.size + 1) vn O') (hb : ∀ i, 0 <= O'.getD i 0 /\ O'.getD i 0 <= K') (hw : Only (fun k => k = w.heap.size + 1) wr w') : EO w w' A vn O' K' :=
 ⟨ho, hb, h.l.trans (hw.below h.l.size (fun k e => by omega)), (hw.block _ (gl h.a) (by omega)).trans h.a⟩
theorem EO.alloc {w wr : World} {A vn O K} (h : EO w wr A vn O K) (X : Obj) : EO w (wr.alloc X) A vn O K := by
 have hb : Below wr.heap.size wr (wr.alloc X) := (Below.refl _ _).alloc (Nat.le_refl _) _
 exact ⟨h.o.keep hb, h.b, h.l.trans (hb.mono h.l.size), (hb.block _ (gl h.a)).trans h.a⟩
set_option maxRecDepth 100000 in
set_option maxHeartbeats 4000000 in
theorem eachOnce_any (w : World) {s : ByteArray} {pa : Option Addr} {pn pc : Nat} {r : Int} {va : Option Addr} {vn vc : Nat} {ba : Option Addr} {bn bc : Nat} {fa : Option Addr} {fn fc : Nat} {f : Fu} {FS : List Fu} (C : Ctx w s pa pn pc r va vn vc ba bn bc fa fn fc f FS) (hform : formP FS f = true) (hbulk : totK f f.blks.length <= 1000000000) :
 Calls Tryz.prog 56 #[.agg #[.string s, .slice pa pn pc, .int .i64 r, .slice va vn vc, .slice ba bn bc, .slice fa fn fc]] w fun e w' => e = .returned (.bool (onceP f)) /\ Below w.heap.size w w' := by
 have hvn : vn <= 1000000 := by
  have := hform
  simp only [formP, Bool.and_eq_true, decide_eq_true_eq] at this
  have := this.2.1; have := C.ev; omega
 have hmk := run_make_row' (P := Tryz.prog) 23 3 (.int .i64 0) 8 Tryz.underlying23 info3d rfl .i64 .i64 vn (by omega) (by omega)
 obtain ⟨w3, hw3⟩ : ∃ w3, w3 = ((w.alloc (.cells #[.string s, .slice pa pn pc, .int .i64 r, .slice va vn vc, .slice ba bn bc, .slice fa fn fc] 77)).alloc (.cells (madeCells #[.int .i64 0] vn) 3)).alloc (.cells #[.slice (some ⟨w.heap.size + 1, 0, none⟩) vn vn] 23) := ⟨_, rfl⟩
 have E3 : EO w w3 (.cells #[.string s, .slice pa pn pc, .int .i64 r, .slice va vn vc, .slice ba bn bc, .slice fa fn fc] 77) vn (List.replicate vn 0) 0 := by
  have h0 := Oft.start (w.alloc (.cells #[.string s, .slice pa pn pc, .int .i64 r, .slice va vn vc, .slice ba bn bc, .slice fa fn fc] 77)) vn
  have e : (w.alloc (.cells #[.string s, .slice pa pn pc, .int .i64 r, .slice va vn vc, .slice ba bn bc, .slice fa fn fc] 77)).heap.size = w.heap.size + 1 := by simp
  rw [e] at h0
  have A1 : Af1 w (.cells #[.string s, .slice pa pn pc, .int .i64 r, .slice va vn vc, .slice ba bn bc, .slice fa fn fc] 77) w3 := by
   rw [hw3]
   exact (((Af1.refl w (.cells #[.string s, .slice pa pn pc, .int .i64 r, .slice va vn vc, .slice ba bn bc, .slice fa fn fc] 77)).next ((Below.refl _ _).alloc (Nat.le_refl _) _)).next ((Below.refl _ _).alloc (Nat.le_refl _) _))
  refine ⟨by rw [hw3]; exact h0, fun i => ?_, A1.low, A1.one⟩
  simp only [List.getD, List.getElem?_replicate]
  split <;> simp
 have hpr : ∀ x ∈ f.params, wi vn x = true := by
  intro x hx
  have := hform
  simp only [formP, Bool.and_eq_true] at this
  obtain ⟨i, hi, rfl⟩ := List.getElem_of_mem hx
  have := paramP_wi this.2.2.2.2.1 i hi
  rw [C.ev]
  simpa [hi] using this
 have htp : totK f 0 = f.params.length := by simp [totK]
 have ht0 := totK_mono f 0
 have HC : Hid _ := C
 have H1 := count_any w3 E3.o pa pn pc f.params C.ep (C.hp.below E3.l (Nat.le_refl _)) (ints_ng C.hp (by omega)) hpr 0 E3.b (by have := C.ep; omega) (by omega)
 have H1h : Hid _ := H1
 have HE3 : Hid _ := E3
 have HX : Hid _ := hform
 have HBK : Hid (totK f f.blks.length <= 1000000000) := hbulk
 obtain ⟨f0, f1, f2, f3, f4, f5⟩ := fcells E3.a
 clear H1 C hform hpr E3
 go_enter Tryz.func56, Tryz.ntmps56
 go_wp2_with fail
 rw [<- hw3]
 refine Calls.mono H1h.out ?_
 rintro e w4 ⟨rfl, o4, b4, y4⟩
 have E4 : EO w w4 (.cells #[.string s, .slice pa pn pc, .int .i64 r, .slice va vn vc, .slice ba bn bc, .slice fa fn fc] 77) vn (cntK f 0) (totK f 0) := by
  have h := HE3.out.only (K' := (totK f 0 : Int)) o4 (fun i => by have := b4 i; have := HC.out.ep; omega) y4
  have e : cntK f 0 = cntL (List.replicate vn 0) f.params := by rw [HC.out.ev]; rfl
  rw [e]; exact h
 have HE4 : Hid _ := E4
 clear f0 f1 f2 f3 f4 f5 hw3 HE3 H1h hmk o4 b4 y4
 obtain ⟨f0, f1, f2, f3, f4, f5⟩ := fcells E4.a
 clear E4
 obtain ⟨AA, hAA⟩ : ∃ AA : Obj, AA = (.cells #[.string s, .slice pa pn pc, .int .i64 r, .slice va vn vc, .slice ba bn bc, .slice fa fn fc] 77) := ⟨_, rfl⟩
 rw [<- hAA] at HE4
 clear hAA
 go_wp2_with fail
 go_loopw [22] (fun v wr => ∃ k : Nat, k <= bn /\ v = .int .i64 k /\ Hid (EO w wr AA vn (cntK f k) (totK f k))) (fun v _ => bn - (intOf v).toNat)
 case atStart => exact ⟨0, by omega, rfl, HE4⟩
 case round =>
  clear HE4 f0 f1 f2 f3 f4 f5
  obtain ⟨k, hk, rfl, HE⟩ := hrel
  by_cases hlt : k < bn
  ·have hk2 : k < f.blks.length := by have := HC.out.eb; omega
   have hbnx : bn <= 9223372036854775807 := by have := HC.out.hb.le; have := HC.out.hb.mx; have := HC.out.eb; omega
   obtain ⟨b, o, ka, kc, la, lc, ma, mc, na, nc, eba, hlb, d0, d1, d2, d3, d4, d5, j1, j2, j3, j4⟩ := HC.out.hb.at hk2
   subst eba
   have c0 := (HE.out.l.cell (p := ⟨b, o + k * 6, none⟩) hlb).trans d0
   have c1 := (HE.out.l.cell (p := ⟨b, o + k * 6 + 1, none⟩) hlb).trans d1
   have c2 := (HE.out.l.cell (p := ⟨b, o + k * 6 + 2, none⟩) hlb).trans d2
   have c3 := (HE.out.l.cell (p := ⟨b, o + k * 6 + 3, none⟩) hlb).trans d3
   have c4 := (HE.out.l.cell (p := ⟨b, o + k * 6 + 4, none⟩) hlb).trans d4
   have c5 := (HE.out.l.cell (p := ⟨b, o + k * 6 + 5, none⟩) hlb).trans d5
   have hp := blockP_ph ((formP_blocks HX.out).2 _ (List.getElem_mem hk2))
   rw [<- HC.out.ev] at hp
   have hn1 := cntK_next f hk2
   have hn2 := totK_next f hk2
   have hn3 := totK_mono f (k + 1)
   have hn4 := HBK.out
   generalize f.blks[k] = B at c0 c1 c2 c3 c4 c5 hp hn1 hn2 j1 j2
   obtain ⟨kl, hkl⟩ : ∃ kl, kl = B.phis.length := ⟨_, rfl⟩
   obtain ⟨ll, hll⟩ : ∃ ll, ll = B.body.length := ⟨_, rfl⟩
   rw [<- hkl] at c0
   rw [<- hll] at c1
   generalize B.kind = kd at c2
   generalize B.val = vl at c3
   generalize B.ways.length = ml at c4
   generalize B.preds.length = nl at c5
   have E5 : EO w (wr.alloc (.cells #[.slice ka kl kc, .slice la ll lc, .int .i64 kd, .int .i64 vl, .slice ma ml mc, .slice na nl nc] 30)) AA vn (cntK f k) (totK f k) := HE.out.alloc _
   have G5 := count_any _ E5.o ka kl kc B.phis hkl (j1.below E5.l (Nat.le_refl _)) (ints_ng j1 (by omega)) hp.1 (totK f k) E5.b (by omega) (by omega)
   have HG5 : Hid _ := G5
   have hsz : w.heap.size + 1 + 1 < wr.heap.size := (gl HE.out.o.box)
   have HN1 : Hid _ := hn1
   have HN2 : Hid (totK f (k + 1) = totK f k + (kl + ll)) := by rw [hkl, hll]; exact hn2
   have HN3 : Hid (totK f (k + 1) <= 1000000000) := by show _ <= _; omega
   have HJ : Hid (Ints w la lc B.body) := j2
   have HLL : Hid (ll = B.body.length) := hll
   have HP2 : Hid _ := hp.2
   have HE5 : Hid _ := E5
   clear d0 d1 d2 d3 d4 d5 j1 j2 j3 j4 hp hn1 hn2 hn3 hn4 hkl hll E5 G5
   go_wp2_with (first
    | (go_at_call 94; refine Calls.mono HG6.out ?_; rintro e w6 ⟨rfl, o6, b6, y6⟩; have E6 := E5b.out.only o6 b6 y6; have HE6 : Hid _ := E6; clear E6 o6 b6 y6)
    | (go_at_call 94; refine Calls.mono HG5.out ?_; rintro e w5 ⟨rfl, o5, b5, y5⟩
       have E5b : Hid (EO w w5 AA vn (cntL (cntK f k) B.phis) ((totK f k : Int) + (kl : Nat))) := HE5.out.only o5 b5 y5
       obtain ⟨v0, v1, v2, v3, v4, v5⟩ := bcells ((y5.block wr.heap.size (by simp) (by omega)).trans (heap_alloc_new wr (.cells #[.slice ka kl kc, .slice la ll lc, .int .i64 kd, .int .i64 vl, .slice ma ml mc, .slice na nl nc] 30)))
       have G6 := count_any _ E5b.out.o la ll lc B.body HLL.out (HJ.out.below E5b.out.l (Nat.le_refl _)) (ints_ng HJ.out (by omega)) HP2.out _ E5b.out.b (by have := HN2.out; have := HN3.out; omega) (by omega)
       have HG6 : Hid _ := G6
       clear G6 o5 b5 y5))
   go_roundw
   case rel =>
    refine ⟨k + 1, by omega, by go_num, ?_⟩
    have h6 := HE6.out
    show EO w w6 AA vn (cntK f (k + 1)) (totK f (k + 1))
    rw [HN1.out, HN2.out]
    have e : ((totK f k + (kl + ll) : Nat) : Int) = (totK f k : Int) + kl + ll := by omega
    rw [e]; exact h6
   case measure => simp [intOf]; omega
  ·have hkb : k = bn := by omega
   subst hkb
   have hob := cell_arr (i := 0) HE.out.o.box rfl
   have hI := HE.out.o.ints (by omega)
   have hel : vn = (cntK f k).length := HE.out.o.len.symm
   generalize hR : onceP f = R
   have hR2 : (cntK f k).all (fun x => decide (x = 1)) = R := by rw [<- hR, onceP, cntAll, HC.out.eb]
   have HI : Hid _ := hI
   have HEL : Hid _ := hel
   clear hI hel
   go_wp2_with (go_at_call 78; refine (everyOnce_at wr _ _ _ (cntK f k) HEL.out HI.out _ hR2).mono ?_; rintro e w9 ⟨rfl, hb9⟩)
   go_ret
   exact ⟨congrArg (fun b => Ending.returned (.bool b)) hR.symm, HE.out.l.trans (hb9.mono HE.out.l.size)⟩
end Go.Proofs.YtfbkopjncmkbiabGreatDoor
