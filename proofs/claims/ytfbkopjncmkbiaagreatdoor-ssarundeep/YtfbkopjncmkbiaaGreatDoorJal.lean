import Derived.Test.YtfbkopjncmkbiaaGreatDoorJak
set_option linter.unusedVariables false
set_option linter.unusedSimpArgs false
namespace Go.Proofs.YtfbkopjncmkbiaaGreatDoor
open Go.ChangeShapes Go.WideShapes Go.ChangeAt Go.RowKit Go.Maps
def isP (f : Fu) (x t : Int) : Bool := isTy t && decide ((gv f x).ty = t)
theorem isType_at (w : World) (t : Int) (R : Bool) (h : isTy t = R) : Calls Tryz.prog 128 #[.int .i64 t] w fun e w' => e = .returned (.bool R) /\ w' = w := by subst h; exact isType_any w t
theorem is_at (w : World) {s : ByteArray} {pa : Option Addr} {pn pc : Nat} {r : Int} {va : Option Addr} {vn vc : Nat} {ba : Option Addr} {bn bc : Nat} {fa : Option Addr} {fn fc : Nat} {f : Fu} {FS : List Fu} (C : Ctx w s pa pn pc r va vn vc ba bn bc fa fn fc f FS) (x t : Int) (hx : wi vn x = true) (R : Bool) (hR : isP f x t = R) :
 Calls Tryz.prog 140 #[.agg #[.string s, .slice pa pn pc, .int .i64 r, .slice va vn vc, .slice ba bn bc, .slice fa fn fc], .int .i64 x, .int .i64 t] w fun e w' => e = .returned (.bool R) /\ Below w.heap.size w w' := by
 subst hR
 unfold isP
 have A0 : Af1 w (.cells #[.string s, .slice pa pn pc, .int .i64 r, .slice va vn vc, .slice ba bn bc, .slice fa fn fc] 85) (w.alloc (.cells #[.string s, .slice pa pn pc, .int .i64 r, .slice va vn vc, .slice ba bn bc, .slice fa fn fc] 85)) := Af1.refl _ _
 obtain ⟨j, b, o, ka, kl, kc, rfl, hj, hvn, rfl, hlt, c0, c1, c2, c3, hkl, hI⟩ := (C.below A0.low (Nat.le_refl _)).val hx
 generalize gv f (j : Int) = y at c0 c1 c2 c3 hkl hI
 clear C hkl hI c0 c2 c3 hx
 cases hq : isTy t with
 | false =>
   go_enter Tryz.func140, Tryz.ntmps140
   go_wp2_with (go_at_call 128; refine (isType_at _ _ _ hq).mono ?_; rintro e w' ⟨rfl, rfl⟩)
   go_ret
   exact ⟨rfl, A0.low⟩
 | true =>
   generalize y.ty = u at c1
   by_cases e : u = t
   ·subst e
    go_enter Tryz.func140, Tryz.ntmps140
    go_wp2_with (go_at_call 128; refine (isType_at _ _ _ hq).mono ?_; rintro e w' ⟨rfl, rfl⟩)
    go_ret
    exact ⟨by simp, A0.low⟩
   ·go_enter Tryz.func140, Tryz.ntmps140
    go_wp2_with (go_at_call 128; refine (isType_at _ _ _ hq).mono ?_; rintro e w' ⟨rfl, rfl⟩)
    go_ret
    exact ⟨by simp [e], A0.low⟩
def constP (ty imm : Int) : Bool := decide (ty = 1 \/ (ty = 2 /\ (imm = 0 \/ imm = 1)) \/ (ty = 3 /\ imm = 0))
theorem constantFits_any (w : World) (op ty imm : Int) (ka : Option Addr) (kl kc : Nat) :
 Calls Tryz.prog 139 #[.agg #[.int .i64 op, .int .i64 ty, .int .i64 imm, .slice ka kl kc]] w fun e w' => e = .returned (.bool (constP ty imm)) /\ Below w.heap.size w w' := by
 have A0 : Af1 w (.cells #[.int .i64 op, .int .i64 ty, .int .i64 imm, .slice ka kl kc] 45) (w.alloc (.cells #[.int .i64 op, .int .i64 ty, .int .i64 imm, .slice ka kl kc] 45)) := Af1.refl _ _
 unfold constP
 by_cases h1 : ty = 1
 ·subst h1
  go_enter Tryz.func139, Tryz.ntmps139
  go_wp2_with fail
  go_ret
  exact ⟨by simp, A0.low⟩
 by_cases h2 : ty = 2
 ·subst h2
  by_cases i0 : imm = 0
  ·subst i0
   go_enter Tryz.func139, Tryz.ntmps139
   go_wp2_with fail
   go_ret
   exact ⟨by simp, A0.low⟩
  ·go_enter Tryz.func139, Tryz.ntmps139
   go_wp2_with fail
   go_ret
   exact ⟨by by_cases i1 : imm = 1 <;> simp [i0, i1], A0.low⟩
 by_cases h3 : ty = 3
 ·subst h3
  go_enter Tryz.func139, Tryz.ntmps139
  go_wp2_with fail
  go_ret
  exact ⟨by by_cases i0 : imm = 0 <;> simp [i0], A0.low⟩
 ·go_enter Tryz.func139, Tryz.ntmps139
  go_wp2_with fail
  go_ret
  exact ⟨by simp [h1, h2, h3], A0.low⟩
def termTy (f : Fu) (kd vl : Int) : Bool := if kd = 2 then isP f vl 2 else if kd = 4 then isP f vl 1 else if vl = -1 then true else isP f vl f.result
set_option maxRecDepth 100000 in
theorem termTypeFits_any (w : World) {s : ByteArray} {pa : Option Addr} {pn pc : Nat} {r : Int} {va : Option Addr} {vn vc : Nat} {ba : Option Addr} {bn bc : Nat} {fa : Option Addr} {fn fc : Nat} {f : Fu} {FS : List Fu} (C : Ctx w s pa pn pc r va vn vc ba bn bc fa fn fc f FS) (kd vl : Int) (ma : Option Addr) (ml mc : Nat) (hx : kd = 2 \/ kd = 4 \/ ¬ vl = -1 -> wi vn vl = true) :
 Calls Tryz.prog 108 #[.agg #[.string s, .slice pa pn pc, .int .i64 r, .slice va vn vc, .slice ba bn bc, .slice fa fn fc], .agg #[.int .i64 kd, .int .i64 vl, .slice ma ml mc]] w fun e w' => e = .returned (.bool (termTy f kd vl)) /\ Below w.heap.size w w' := by
 have A0 : Aft w (.cells #[.string s, .slice pa pn pc, .int .i64 r, .slice va vn vc, .slice ba bn bc, .slice fa fn fc] 85) (.cells #[.int .i64 kd, .int .i64 vl, .slice ma ml mc] 48) ((w.alloc (.cells #[.string s, .slice pa pn pc, .int .i64 r, .slice va vn vc, .slice ba bn bc, .slice fa fn fc] 85)).alloc (.cells #[.int .i64 kd, .int .i64 vl, .slice ma ml mc] 48)) := Aft.refl _ _ _
 have HC : Hid _ := C.below A0.low (Nat.le_refl _)
 unfold termTy
 rw [<- C.er]
 clear C
 by_cases k2 : kd = 2
 ·subst k2
  rw [if_pos rfl]
  have hw := hx (.inl rfl)
  generalize hR : isP f vl 2 = R
  clear hx
  go_enter Tryz.func108, Tryz.ntmps108
  go_wp2_with (go_at_call 140; refine (is_at _ HC.out _ _ hw _ hR).mono ?_; rintro e w1 ⟨rfl, hb1⟩)
  go_ret
  exact ⟨rfl, (A0.next hb1).low⟩
 rw [if_neg k2]
 by_cases k4 : kd = 4
 ·subst k4
  rw [if_pos rfl]
  have hw := hx (.inr (.inl rfl))
  generalize hR : isP f vl 1 = R
  clear hx
  go_enter Tryz.func108, Tryz.ntmps108
  go_wp2_with (go_at_call 140; refine (is_at _ HC.out _ _ hw _ hR).mono ?_; rintro e w1 ⟨rfl, hb1⟩)
  go_ret
  exact ⟨rfl, (A0.next hb1).low⟩
 rw [if_neg k4]
 by_cases kv : vl = -1
 ·subst kv
  rw [if_pos rfl]
  clear hx
  go_enter Tryz.func108, Tryz.ntmps108
  go_wp2_with fail
  go_ret
  exact ⟨rfl, A0.low⟩
 ·rw [if_neg kv]
  have hw := hx (.inr (.inr kv))
  generalize hR : isP f vl r = R
  clear hx
  go_enter Tryz.func108, Tryz.ntmps108
  go_wp2_with (go_at_call 140; refine (is_at _ HC.out _ _ hw _ hR).mono ?_; rintro e w1 ⟨rfl, hb1⟩)
  go_ret
  exact ⟨rfl, (A0.next hb1).low⟩
theorem opens_t1 : Opens 142 := Opens.of Tryz.func142 (by kernel_rfl) rfl
theorem opens_t2 : Opens 144 := Opens.of Tryz.func144 (by kernel_rfl) rfl
theorem opens_c1 : Opens 179 := Opens.of Tryz.func179 (by kernel_rfl) rfl
theorem opens_y1 : Opens 107 := Opens.of Tryz.func107 (by kernel_rfl) rfl
theorem opens_ty : Opens 106 := Opens.of Tryz.func106 (by kernel_rfl) rfl
theorem types1_any (w : World) {s : ByteArray} {pa : Option Addr} {pn pc : Nat} {r : Int} {va : Option Addr} {vn vc : Nat} {ba : Option Addr} {bn bc : Nat} {fa : Option Addr} {fn fc : Nat} {f : Fu} {FS : List Fu} (C : Ctx w s pa pn pc r va vn vc ba bn bc fa fn fc f FS) (fb vb : Nat) (hf : w.heap[fb]? = some (.cells #[.string s, .slice pa pn pc, .int .i64 r, .slice va vn vc, .slice ba bn bc, .slice fa fn fc] 85 (0, 0))) {op ty imm : Int} {ka : Option Addr} {kl kc : Nat} (hv : w.heap[vb]? = some (.cells #[.int .i64 op, .int .i64 ty, .int .i64 imm, .slice ka kl kc] 45 (0, 0))) (i : Nat) (x : Int) (hx : wi vn x = true) :
 Calls Tryz.prog 142 #[.int .i64 i, .int .i64 x, .pointer (some ⟨fb, 0, none⟩), .pointer (some ⟨vb, 0, none⟩)] w fun e w' => e = .returned (.bool (isP f x ty)) /\ Below w.heap.size w w' := by
 obtain ⟨f0, f1, f2, f3, f4, f5⟩ := fcells hf
 obtain ⟨v0, v1, v2, v3⟩ := vcells hv
 have HC : Hid _ := C
 generalize hR : isP f x ty = R
 clear C hf hv
 go_enter Tryz.func142, Tryz.ntmps142
 go_wp2_with (go_at_call 140; refine (is_at _ HC.out _ _ hx _ hR).mono ?_; rintro e w1 ⟨rfl, hb1⟩)
 go_ret
 exact ⟨rfl, hb1⟩
theorem everyT1_at (w : World) {s : ByteArray} {pa : Option Addr} {pn pc : Nat} {r : Int} {va : Option Addr} {vn vc : Nat} {ba : Option Addr} {bn bc : Nat} {fa : Option Addr} {fn fc : Nat} {f : Fu} {FS : List Fu} (C : Ctx w s pa pn pc r va vn vc ba bn bc fa fn fc f FS) (fb vb : Nat) (hf : w.heap[fb]? = some (.cells #[.string s, .slice pa pn pc, .int .i64 r, .slice va vn vc, .slice ba bn bc, .slice fa fn fc] 85 (0, 0))) {op ty imm : Int} {ka : Option Addr} {kl kc : Nat} (hv : w.heap[vb]? = some (.cells #[.int .i64 op, .int .i64 ty, .int .i64 imm, .slice ka kl kc] 45 (0, 0))) (ao : Option Addr) (n c : Nat) (L : List Int) (hn : n = L.length) (hL : Ints w ao c L) (hx : ∀ x ∈ L, wi vn x = true) (R : Bool) (hR : L.all (fun x => isP f x ty) = R) :
 Calls Tryz.prog 88 #[.slice ao n c, .func (.func 142) #[] #[.pointer (some ⟨fb, 0, none⟩), .pointer (some ⟨vb, 0, none⟩)]] w fun e w' => e = .returned (.bool R) /\ Below w.heap.size w w' := by
 subst hR
 rw [<- evr_plain (fun x => isP f x ty) L 0]
 refine everyI_any w ao c n L hn hL _ _ _ opens_t1 _ (Asks.two fun W i x hi hb hv' => ?_)
 obtain rfl := hv'.out
 exact types1_any W (C.below hb (Nat.le_refl _)) fb vb ((hb.block _ (gl hf)).trans hf) ((hb.block _ (gl hv)).trans hv) i L[i] (hx _ (List.getElem_mem hi))
def shA (H : Shp) (i : Nat) : Int := if i = 0 then H.a0 else if i = 1 then H.a1 else H.a2
theorem hcells {w : World} {g : Nat} {H : Shp} (h : w.heap[g]? = some (.cells #[.int .i64 H.count, .int .i64 H.a0, .int .i64 H.a1, .int .i64 H.a2, .int .i64 H.gives] 162 (0, 0))) : ∀ i, i < 3 -> w.cell? ⟨g, 1 + i, none⟩ = some (.int .i64 (shA H i)) := by
 intro i hi
 match i, hi with
 | 0, _ => exact cell_arr h rfl
 | 1, _ => exact cell_arr h rfl
 | 2, _ => exact cell_arr h rfl
set_option maxRecDepth 100000 in
set_option maxHeartbeats 2000000 in
theorem types2_any (w : World) {s : ByteArray} {pa : Option Addr} {pn pc : Nat} {r : Int} {va : Option Addr} {vn vc : Nat} {ba : Option Addr} {bn bc : Nat} {fa : Option Addr} {fn fc : Nat} {f : Fu} {FS : List Fu} (C : Ctx w s pa pn pc r va vn vc ba bn bc fa fn fc f FS) (fb hbk : Nat) (hf : w.heap[fb]? = some (.cells #[.string s, .slice pa pn pc, .int .i64 r, .slice va vn vc, .slice ba bn bc, .slice fa fn fc] 85 (0, 0))) {H : Shp} (hh : w.heap[hbk]? = some (.cells #[.int .i64 H.count, .int .i64 H.a0, .int .i64 H.a1, .int .i64 H.a2, .int .i64 H.gives] 162 (0, 0))) (i : Nat) (hi : i < 3) (x : Int) (hx : wi vn x = true) :
 Calls Tryz.prog 144 #[.int .i64 i, .int .i64 x, .pointer (some ⟨fb, 0, none⟩), .pointer (some ⟨hbk, 0, none⟩)] w fun e w' => e = .returned (.bool (isP f x (shA H i))) /\ Below w.heap.size w w' := by
 obtain ⟨f0, f1, f2, f3, f4, f5⟩ := fcells hf
 have hc := hcells hh i hi
 have hd : Below w.heap.size w w.drew := (Below.refl _ _).drew
 have HD : Hid (Ctx w.drew s pa pn pc r va vn vc ba bn bc fa fn fc f FS) := C.below hd (Nat.le_refl _)
 generalize shA H i = t at hc
 generalize hR : isP f x t = R
 have hlf := (gl hf)
 have hlh := (gl hh)
 have S0 : (fun w' : World => w'.cell? ⟨fb, 0, none⟩ = some (.string s) /\ w'.cell? ⟨fb, 1, none⟩ = some (.slice pa pn pc) /\ w'.cell? ⟨fb, 2, none⟩ = some (.int .i64 r) /\ w'.cell? ⟨fb, 3, none⟩ = some (.slice va vn vc) /\ w'.cell? ⟨fb, 4, none⟩ = some (.slice ba bn bc) /\ w'.cell? ⟨fb, 5, none⟩ = some (.slice fa fn fc) /\ w'.cell? ⟨hbk, 1 + i, none⟩ = some (.int .i64 t)) w.drew := ⟨f0, f1, f2, f3, f4, f5, hc⟩
 have HS : Hid (∀ w1, Below w.drew.heap.size w.drew w1 -> (fun w' : World => w'.cell? ⟨fb, 0, none⟩ = some (.string s) /\ w'.cell? ⟨fb, 1, none⟩ = some (.slice pa pn pc) /\ w'.cell? ⟨fb, 2, none⟩ = some (.int .i64 r) /\ w'.cell? ⟨fb, 3, none⟩ = some (.slice va vn vc) /\ w'.cell? ⟨fb, 4, none⟩ = some (.slice ba bn bc) /\ w'.cell? ⟨fb, 5, none⟩ = some (.slice fa fn fc) /\ w'.cell? ⟨hbk, 1 + i, none⟩ = some (.int .i64 t)) w1) := fun w1 hb1 => ⟨(hb1.cell (p := ⟨fb, 0, none⟩) hlf).trans f0, (hb1.cell (p := ⟨fb, 1, none⟩) hlf).trans f1, (hb1.cell (p := ⟨fb, 2, none⟩) hlf).trans f2, (hb1.cell (p := ⟨fb, 3, none⟩) hlf).trans f3, (hb1.cell (p := ⟨fb, 4, none⟩) hlf).trans f4, (hb1.cell (p := ⟨fb, 5, none⟩) hlf).trans f5, (hb1.cell (p := ⟨hbk, 1 + i, none⟩) hlh).trans hc⟩
 clear C hf hh
 have hi2 : (i : Int) < 3 := by omega
 go_enter Tryz.func144, Tryz.ntmps144
 go_wp2_with fail
 go_region_held (fun w' => w'.cell? ⟨fb, 0, none⟩ = some (.string s) /\ w'.cell? ⟨fb, 1, none⟩ = some (.slice pa pn pc) /\ w'.cell? ⟨fb, 2, none⟩ = some (.int .i64 r) /\ w'.cell? ⟨fb, 3, none⟩ = some (.slice va vn vc) /\ w'.cell? ⟨fb, 4, none⟩ = some (.slice ba bn bc) /\ w'.cell? ⟨fb, 5, none⟩ = some (.slice fa fn fc) /\ w'.cell? ⟨hbk, 1 + i, none⟩ = some (.int .i64 t)) (first | exact S0 | exact S1)
  (first | (go_at_call 140; refine (is_at w.drew HD.out _ _ hx _ hR).mono ?_; rintro e w1 ⟨rfl, hb1⟩; have S1 := HS.out w1 hb1))
 all_goals go_wp2_with fail
 all_goals go_ret
 all_goals first | exact ⟨rfl, hd.trans hb1⟩ | exact ⟨rfl, below_drawn (hd.trans hb1) _⟩
structure Gx (w : World) (gs : ByteArray) (ka : Option Addr) (kl kc : Nat) (gr : Int) (la : Option Addr) (ll lc : Nat) (ma : Option Addr) (ml mc : Nat) (G : Fu) : Prop where
 ek : kl = G.params.length
 er : gr = G.result
 el : ll = G.vals.length
 hk : Ints w ka kc G.params
 hl : Vls w la lc G.vals
theorem Gx.below {w w' : World} {K : Nat} {gs ka kl kc gr la ll lc ma ml mc G} (h : Gx w gs ka kl kc gr la ll lc ma ml mc G) (hb : Below K w w') (hK : w.heap.size <= K) : Gx w' gs ka kl kc gr la ll lc ma ml mc G :=
 ⟨h.ek, h.er, h.el, h.hk.below hb hK, h.hl.below hb hK⟩
theorem gcells {w : World} {g : Nat} {gs : ByteArray} {ka : Option Addr} {kl kc : Nat} {gr : Int} {la : Option Addr} {ll lc : Nat} {ma : Option Addr} {ml mc : Nat} (h : w.heap[g]? = some (.cells #[.string gs, .slice ka kl kc, .int .i64 gr, .slice la ll lc, .slice ma ml mc] 53 (0, 0))) : w.cell? ⟨g, 0, none⟩ = some (.string gs) /\ w.cell? ⟨g, 1, none⟩ = some (.slice ka kl kc) /\ w.cell? ⟨g, 2, none⟩ = some (.int .i64 gr) /\ w.cell? ⟨g, 3, none⟩ = some (.slice la ll lc) /\ w.cell? ⟨g, 4, none⟩ = some (.slice ma ml mc) :=
 ⟨cell_arr h rfl, cell_arr h rfl, cell_arr h rfl, cell_arr h rfl, cell_arr h rfl⟩
theorem Vls.at {w ao cap} {L : List Vl} (h : Vls w ao cap L) {j : Nat} (hj : j < L.length) : ∃ (b o : Nat), ao = some ⟨b, o, none⟩ /\ b < w.heap.size /\ w.cell? ⟨b, o + j * 4 + 1, none⟩ = some (.int .i64 L[j].ty) := by
 obtain ⟨b, o, e, hlt, hA⟩ := h.out (by intro e; rw [e] at hj; simp at hj)
 obtain ⟨ka, kc, c0, c1, c2, c3, hI⟩ := (hA j hj).out
 exact ⟨b, o, e, hlt, c1⟩
def calA (f G : Fu) (i : Nat) (x : Int) : Bool := isP f x (gv G (G.params.getD i 0)).ty
set_option maxRecDepth 100000 in
set_option maxHeartbeats 4000000 in
theorem calls1_any (w : World) {s : ByteArray} {pa : Option Addr} {pn pc : Nat} {r : Int} {va : Option Addr} {vn vc : Nat} {ba : Option Addr} {bn bc : Nat} {fa : Option Addr} {fn fc : Nat} {f : Fu} {FS : List Fu} (C : Ctx w s pa pn pc r va vn vc ba bn bc fa fn fc f FS) (fb gb : Nat) (hf : w.heap[fb]? = some (.cells #[.string s, .slice pa pn pc, .int .i64 r, .slice va vn vc, .slice ba bn bc, .slice fa fn fc] 85 (0, 0))) {gs : ByteArray} {ka : Option Addr} {kl kc : Nat} {gr : Int} {la : Option Addr} {ll lc : Nat} {ma : Option Addr} {ml mc : Nat} {G : Fu} (hg : w.heap[gb]? = some (.cells #[.string gs, .slice ka kl kc, .int .i64 gr, .slice la ll lc, .slice ma ml mc] 53 (0, 0))) (GX : Gx w gs ka kl kc gr la ll lc ma ml mc G) (i : Nat) (hi : i < kl) (hpi : wi ll (G.params.getD i 0) = true) (x : Int) (hx : wi vn x = true) :
 Calls Tryz.prog 179 #[.int .i64 i, .int .i64 x, .pointer (some ⟨fb, 0, none⟩), .pointer (some ⟨gb, 0, none⟩)] w fun e w' => e = .returned (.bool (calA f G i x)) /\ Below w.heap.size w w' := by
 obtain ⟨f0, f1, f2, f3, f4, f5⟩ := fcells hf
 obtain ⟨g0, g1, g2, g3, g4⟩ := gcells hg
 have hlf := (gl hf)
 have hlg := (gl hg)
 have hi' : i < G.params.length := by have := GX.ek; omega
 obtain ⟨b1, o1, rfl, k1⟩ := GX.hk.at hi'
 have hl1 : b1 < w.heap.size := by have := block_lt_of_cell k1; simpa using this
 have e1 : G.params.getD i 0 = G.params[i] := by simp [hi']
 unfold calA
 rw [e1] at hpi ⊢
 simp only [wi, decide_eq_true_eq] at hpi
 obtain ⟨j, hj⟩ : ∃ j : Nat, G.params[i] = j := ⟨G.params[i].toNat, by omega⟩
 rw [hj] at k1 hpi ⊢
 have hjl : j < ll := by omega
 have hjl' : j < G.vals.length := by have := GX.el; omega
 obtain ⟨b2, o2, rfl, hl2, k2⟩ := GX.hl.at hjl'
 rw [gv_at G j hjl']
 have hll : ll <= 9223372036854775807 := by have := GX.hl.le; have := GX.hl.mx; have := GX.el; omega
 have hkl : kl <= 9223372036854775807 := by have := GX.hk.le; have := GX.hk.mx; have := GX.ek; omega
 generalize G.vals[j].ty = t at k2
 have hd : Below w.heap.size w w.drew := (Below.refl _ _).drew
 have HD : Hid (Ctx w.drew s pa pn pc r va vn vc ba bn bc fa fn fc f FS) := C.below hd (Nat.le_refl _)
 have S0 : (fun w' : World => w'.cell? ⟨fb, 0, none⟩ = some (.string s) /\ w'.cell? ⟨fb, 1, none⟩ = some (.slice pa pn pc) /\ w'.cell? ⟨fb, 2, none⟩ = some (.int .i64 r) /\ w'.cell? ⟨fb, 3, none⟩ = some (.slice va vn vc) /\ w'.cell? ⟨fb, 4, none⟩ = some (.slice ba bn bc) /\ w'.cell? ⟨fb, 5, none⟩ = some (.slice fa fn fc) /\ w'.cell? ⟨gb, 3, none⟩ = some (.slice (some ⟨b2, o2, none⟩) ll lc) /\ w'.cell? ⟨gb, 1, none⟩ = some (.slice (some ⟨b1, o1, none⟩) kl kc) /\ w'.cell? ⟨b1, o1 + i, none⟩ = some (.int .i64 (j : Int)) /\ w'.cell? ⟨b2, o2 + j * 4 + 1, none⟩ = some (.int .i64 t)) w.drew := ⟨f0, f1, f2, f3, f4, f5, g3, g1, k1, k2⟩
 have HS : Hid (∀ w1, Below w.drew.heap.size w.drew w1 -> (fun w' : World => w'.cell? ⟨fb, 0, none⟩ = some (.string s) /\ w'.cell? ⟨fb, 1, none⟩ = some (.slice pa pn pc) /\ w'.cell? ⟨fb, 2, none⟩ = some (.int .i64 r) /\ w'.cell? ⟨fb, 3, none⟩ = some (.slice va vn vc) /\ w'.cell? ⟨fb, 4, none⟩ = some (.slice ba bn bc) /\ w'.cell? ⟨fb, 5, none⟩ = some (.slice fa fn fc) /\ w'.cell? ⟨gb, 3, none⟩ = some (.slice (some ⟨b2, o2, none⟩) ll lc) /\ w'.cell? ⟨gb, 1, none⟩ = some (.slice (some ⟨b1, o1, none⟩) kl kc) /\ w'.cell? ⟨b1, o1 + i, none⟩ = some (.int .i64 (j : Int)) /\ w'.cell? ⟨b2, o2 + j * 4 + 1, none⟩ = some (.int .i64 t)) w1) := fun w1 hb1 => ⟨(hb1.cell (p := ⟨fb, 0, none⟩) hlf).trans f0, (hb1.cell (p := ⟨fb, 1, none⟩) hlf).trans f1, (hb1.cell (p := ⟨fb, 2, none⟩) hlf).trans f2, (hb1.cell (p := ⟨fb, 3, none⟩) hlf).trans f3, (hb1.cell (p := ⟨fb, 4, none⟩) hlf).trans f4, (hb1.cell (p := ⟨fb, 5, none⟩) hlf).trans f5, (hb1.cell (p := ⟨gb, 3, none⟩) hlg).trans g3, (hb1.cell (p := ⟨gb, 1, none⟩) hlg).trans g1, (hb1.cell (p := ⟨b1, o1 + i, none⟩) hl1).trans k1, (hb1.cell (p := ⟨b2, o2 + j * 4 + 1, none⟩) hl2).trans k2⟩
 generalize hR : isP f x t = R
 clear C hf hg GX hi' hpi hj hjl' e1
 go_enter Tryz.func179, Tryz.ntmps179
 go_wp2_with fail
 go_region_held (fun w' => w'.cell? ⟨fb, 0, none⟩ = some (.string s) /\ w'.cell? ⟨fb, 1, none⟩ = some (.slice pa pn pc) /\ w'.cell? ⟨fb, 2, none⟩ = some (.int .i64 r) /\ w'.cell? ⟨fb, 3, none⟩ = some (.slice va vn vc) /\ w'.cell? ⟨fb, 4, none⟩ = some (.slice ba bn bc) /\ w'.cell? ⟨fb, 5, none⟩ = some (.slice fa fn fc) /\ w'.cell? ⟨gb, 3, none⟩ = some (.slice (some ⟨b2, o2, none⟩) ll lc) /\ w'.cell? ⟨gb, 1, none⟩ = some (.slice (some ⟨b1, o1, none⟩) kl kc) /\ w'.cell? ⟨b1, o1 + i, none⟩ = some (.int .i64 (j : Int)) /\ w'.cell? ⟨b2, o2 + j * 4 + 1, none⟩ = some (.int .i64 t)) (first | exact S0 | exact S1)
  (first | (go_at_call 140; refine (is_at w.drew HD.out _ _ hx _ hR).mono ?_; rintro e w1 ⟨rfl, hb1⟩; have S1 := HS.out w1 hb1))
 all_goals go_wp2_with fail
 all_goals go_ret
 all_goals first | exact ⟨rfl, hd.trans hb1⟩ | exact ⟨rfl, below_drawn (hd.trans hb1) _⟩
theorem everyC1_at (w : World) {s : ByteArray} {pa : Option Addr} {pn pc : Nat} {r : Int} {va : Option Addr} {vn vc : Nat} {ba : Option Addr} {bn bc : Nat} {fa : Option Addr} {fn fc : Nat} {f : Fu} {FS : List Fu} (C : Ctx w s pa pn pc r va vn vc ba bn bc fa fn fc f FS) (fb gb : Nat) (hf : w.heap[fb]? = some (.cells #[.string s, .slice pa pn pc, .int .i64 r, .slice va vn vc, .slice ba bn bc, .slice fa fn fc] 85 (0, 0))) {gs : ByteArray} {xa : Option Addr} {xl xc : Nat} {gr : Int} {la : Option Addr} {ll lc : Nat} {ma : Option Addr} {ml mc : Nat} {G : Fu} (hg : w.heap[gb]? = some (.cells #[.string gs, .slice xa xl xc, .int .i64 gr, .slice la ll lc, .slice ma ml mc] 53 (0, 0))) (GX : Gx w gs xa xl xc gr la ll lc ma ml mc G) (hpi : ∀ i, i < xl -> wi ll (G.params.getD i 0) = true) (ao : Option Addr) (n c : Nat) (L : List Int) (hn : n = L.length) (hnl : n = xl) (hL : Ints w ao c L) (hx : ∀ x ∈ L, wi vn x = true) (R : Bool) (hR : evr (calA f G) 0 L = R) :
 Calls Tryz.prog 88 #[.slice ao n c, .func (.func 179) #[] #[.pointer (some ⟨fb, 0, none⟩), .pointer (some ⟨gb, 0, none⟩)]] w fun e w' => e = .returned (.bool R) /\ Below w.heap.size w w' := by
 subst hR
 refine everyI_any w ao c n L hn hL _ _ _ opens_c1 _ (Asks.two fun W i x hi hb hv' => ?_)
 obtain rfl := hv'.out
 exact calls1_any W (C.below hb (Nat.le_refl _)) fb gb ((hb.block _ (gl hf)).trans hf) ((hb.block _ (gl hg)).trans hg) (GX.below hb (Nat.le_refl _)) i (by omega) (hpi i (by omega)) L[i] (hx _ (List.getElem_mem hi))
def callP (f : Fu) (FS : List Fu) (ty imm : Int) (A : List Int) : Bool := decide (ty = (FS.getD imm.toNat noF).result) && evr (calA f (FS.getD imm.toNat noF)) 0 A
theorem paramP_wi {G : Fu} (h : evr (paramP G) 0 G.params = true) : ∀ i, i < G.params.length -> wi G.vals.length (G.params.getD i 0) = true := by
 intro i hi
 have := (evr_iff _ _ 0).1 h i hi
 simp only [paramP, Bool.and_eq_true] at this
 have e : G.params.getD i 0 = G.params[i] := by simp [hi]
 rw [e]; exact this.1
set_option maxRecDepth 100000 in
set_option maxHeartbeats 2000000 in
theorem callFits_any (w : World) {s : ByteArray} {pa : Option Addr} {pn pc : Nat} {r : Int} {va : Option Addr} {vn vc : Nat} {ba : Option Addr} {bn bc : Nat} {fa : Option Addr} {fn fc : Nat} {f : Fu} {FS : List Fu} (C : Ctx w s pa pn pc r va vn vc ba bn bc fa fn fc f FS) (op ty imm : Int) (ka : Option Addr) (kl kc : Nat) (A : List Int) (hkl : kl = A.length) (hA : Ints w ka kc A) (hx : ∀ x ∈ A, wi vn x = true) (hi : wi fn imm = true) (hcnt : kl = (FS.getD imm.toNat noF).params.length) (hfs : ∀ G ∈ FS, formP FS G = true) :
 Calls Tryz.prog 141 #[.agg #[.string s, .slice pa pn pc, .int .i64 r, .slice va vn vc, .slice ba bn bc, .slice fa fn fc], .agg #[.int .i64 op, .int .i64 ty, .int .i64 imm, .slice ka kl kc]] w fun e w' => e = .returned (.bool (callP f FS ty imm A)) /\ Below w.heap.size w w' := by
 unfold callP
 simp only [wi, decide_eq_true_eq] at hi
 obtain ⟨j, rfl⟩ : ∃ j : Nat, imm = j := ⟨imm.toNat, by omega⟩
 have hj : j < FS.length := by have := C.ef; omega
 have hjn : j < fn := by omega
 have hfn : fn <= 9223372036854775807 := by have := C.hf.le; have := C.hf.mx; have := C.ef; omega
 have eG : FS.getD (j : Int).toNat noF = FS[j] := by simp [hj]
 rw [eG] at hcnt ⊢
 have hform := hfs _ (List.getElem_mem hj)
 have hprm : evr (paramP FS[j]) 0 FS[j].params = true := by
  simp only [formP, Bool.and_eq_true] at hform
  exact hform.2.2.2.2.1
 obtain ⟨b, o, xa, xc, la, lc, ma, mc, rfl, hlt, c0, c1, c2, c3, c4, g1, g2, g3⟩ := C.hf.at hj
 have A0 : Aft w (.cells #[.string s, .slice pa pn pc, .int .i64 r, .slice va vn vc, .slice ba bn bc, .slice (some ⟨b, o, none⟩) fn fc] 85) (.cells #[.int .i64 op, .int .i64 ty, .int .i64 (j : Int), .slice ka kl kc] 45) ((w.alloc (.cells #[.string s, .slice pa pn pc, .int .i64 r, .slice va vn vc, .slice ba bn bc, .slice (some ⟨b, o, none⟩) fn fc] 85)).alloc (.cells #[.int .i64 op, .int .i64 ty, .int .i64 (j : Int), .slice ka kl kc] 45)) := Aft.refl _ _ _
 have mv : ∀ q, ((w.alloc (.cells #[.string s, .slice pa pn pc, .int .i64 r, .slice va vn vc, .slice ba bn bc, .slice (some ⟨b, o, none⟩) fn fc] 85)).alloc (.cells #[.int .i64 op, .int .i64 ty, .int .i64 (j : Int), .slice ka kl kc] 45)).cell? ⟨b, q, none⟩ = w.cell? ⟨b, q, none⟩ := fun q => A0.low.cell (p := ⟨b, q, none⟩) hlt
 rw [<- mv] at c0 c1 c2 c3 c4
 clear mv
 generalize FS[j] = G at c0 c1 c2 c3 c4 g1 g2 g3 hcnt hprm hform
 obtain ⟨gs, hgs⟩ : ∃ gs, gs = G.name := ⟨_, rfl⟩
 obtain ⟨xl, hxl⟩ : ∃ xl, xl = G.params.length := ⟨_, rfl⟩
 obtain ⟨gr, hgr⟩ : ∃ gr, gr = G.result := ⟨_, rfl⟩
 obtain ⟨ll, hll⟩ : ∃ ll, ll = G.vals.length := ⟨_, rfl⟩
 obtain ⟨ml, hml⟩ : ∃ ml, ml = G.blks.length := ⟨_, rfl⟩
 rw [<- hgs] at c0
 rw [<- hxl] at c1 hcnt
 rw [<- hgr] at c2 ⊢
 rw [<- hll] at c3
 rw [<- hml] at c4
 have A1 : Aft w (.cells #[.string s, .slice pa pn pc, .int .i64 r, .slice va vn vc, .slice ba bn bc, .slice (some ⟨b, o, none⟩) fn fc] 85) (.cells #[.int .i64 op, .int .i64 ty, .int .i64 (j : Int), .slice ka kl kc] 45) (((w.alloc (.cells #[.string s, .slice pa pn pc, .int .i64 r, .slice va vn vc, .slice ba bn bc, .slice (some ⟨b, o, none⟩) fn fc] 85)).alloc (.cells #[.int .i64 op, .int .i64 ty, .int .i64 (j : Int), .slice ka kl kc] 45)).alloc (.cells #[.string gs, .slice xa xl xc, .int .i64 gr, .slice la ll lc, .slice ma ml mc] 53)) := A0.next ((Below.refl _ _).alloc (Nat.le_refl _) _)
 have HC : Hid _ := C.below A1.low (Nat.le_refl _)
 have HA : Hid _ := hA.below A1.low (Nat.le_refl _)
 have HG : Hid (Gx (((w.alloc (.cells #[.string s, .slice pa pn pc, .int .i64 r, .slice va vn vc, .slice ba bn bc, .slice (some ⟨b, o, none⟩) fn fc] 85)).alloc (.cells #[.int .i64 op, .int .i64 ty, .int .i64 (j : Int), .slice ka kl kc] 45)).alloc (.cells #[.string gs, .slice xa xl xc, .int .i64 gr, .slice la ll lc, .slice ma ml mc] 53)) gs xa xl xc gr la ll lc ma ml mc G) := ⟨hxl, hgr, hll, g1.below A1.low (Nat.le_refl _), g2.below A1.low (Nat.le_refl _)⟩
 have hb3 : (((w.alloc (.cells #[.string s, .slice pa pn pc, .int .i64 r, .slice va vn vc, .slice ba bn bc, .slice (some ⟨b, o, none⟩) fn fc] 85)).alloc (.cells #[.int .i64 op, .int .i64 ty, .int .i64 (j : Int), .slice ka kl kc] 45)).alloc (.cells #[.string gs, .slice xa xl xc, .int .i64 gr, .slice la ll lc, .slice ma ml mc] 53)).heap[w.heap.size + 1 + 1]? = some (.cells #[.string gs, .slice xa xl xc, .int .i64 gr, .slice la ll lc, .slice ma ml mc] 53 (0, 0)) := by
  have := heap_alloc_new ((w.alloc (.cells #[.string s, .slice pa pn pc, .int .i64 r, .slice va vn vc, .slice ba bn bc, .slice (some ⟨b, o, none⟩) fn fc] 85)).alloc (.cells #[.int .i64 op, .int .i64 ty, .int .i64 (j : Int), .slice ka kl kc] 45)) (.cells #[.string gs, .slice xa xl xc, .int .i64 gr, .slice la ll lc, .slice ma ml mc] 53)
  simpa using this
 have HB : Hid _ := hb3
 have HP : Hid (∀ i, i < xl -> wi ll (G.params.getD i 0) = true) := by
  have := paramP_wi hprm
  rw [<- hxl, <- hll] at this
  exact this
 have HL : Hid (kl = A.length) := hkl
 have HN : Hid (kl = xl) := hcnt
 have HX : Hid (∀ x ∈ A, wi vn x = true) := hx
 clear C hA g1 g2 g3 hb3 hkl hcnt hx hprm hform hfs eG hgs hxl hgr hll hml hi
 by_cases ht : ty = gr
 ·subst ht
  generalize hR : evr (calA f G) 0 A = R
  go_enter Tryz.func141, Tryz.ntmps141
  go_wp2_with (go_at_call 88; refine (everyC1_at _ HC.out w.heap.size (w.heap.size + 1 + 1) A1.one HB.out HG.out HP.out _ _ _ A HL.out HN.out HA.out HX.out _ hR).mono ?_; rintro e w1 ⟨rfl, hb1⟩)
  go_ret
  exact ⟨by simp, (A1.next hb1).low⟩
 ·rw [decide_eq_false ht]
  go_enter Tryz.func141, Tryz.ntmps141
  go_wp2_with fail
  go_ret
  exact ⟨rfl, A1.low⟩
theorem typesY1_any (w : World) {s : ByteArray} {pa : Option Addr} {pn pc : Nat} {r : Int} {va : Option Addr} {vn vc : Nat} {ba : Option Addr} {bn bc : Nat} {fa : Option Addr} {fn fc : Nat} {f : Fu} {FS : List Fu} (C : Ctx w s pa pn pc r va vn vc ba bn bc fa fn fc f FS) (fb : Nat) (hf : w.heap[fb]? = some (.cells #[.string s, .slice pa pn pc, .int .i64 r, .slice va vn vc, .slice ba bn bc, .slice fa fn fc] 85 (0, 0))) (i : Nat) (ka : Option Addr) (kl kc : Nat) (la : Option Addr) (ll lc : Nat) (kd vl : Int) (ma : Option Addr) (ml mc : Nat) (na : Option Addr) (nl nc : Nat) (hx : kd = 2 \/ kd = 4 \/ ¬ vl = -1 -> wi vn vl = true) :
 Calls Tryz.prog 107 #[.int .i64 i, .agg #[.slice ka kl kc, .slice la ll lc, .int .i64 kd, .int .i64 vl, .slice ma ml mc, .slice na nl nc], .pointer (some ⟨fb, 0, none⟩)] w fun e w' => e = .returned (.bool (termTy f kd vl)) /\ Below w.heap.size w w' := by
 have A0 : Af1 w (.cells #[.slice ka kl kc, .slice la ll lc, .int .i64 kd, .int .i64 vl, .slice ma ml mc, .slice na nl nc] 50) (w.alloc (.cells #[.slice ka kl kc, .slice la ll lc, .int .i64 kd, .int .i64 vl, .slice ma ml mc, .slice na nl nc] 50)) := Af1.refl _ _
 have HC : Hid _ := C.below A0.low (Nat.le_refl _)
 obtain ⟨f0, f1, f2, f3, f4, f5⟩ := fcells ((A0.low.block _ (gl hf)).trans hf)
 have HX : Hid _ := hx
 have ht := fun w C => termTypeFits_any w (s := s) (pa := pa) (pn := pn) (pc := pc) (r := r) (va := va) (vn := vn) (vc := vc) (ba := ba) (bn := bn) (bc := bc) (fa := fa) (fn := fn) (fc := fc) (f := f) (FS := FS) C kd vl ma ml mc hx
 have HT : Hid _ := ht _ HC.out
 generalize termTy f kd vl = R at HT
 clear C hf hx ht
 go_enter Tryz.func107, Tryz.ntmps107
 go_wp2_with (go_at_call 108; refine Calls.mono HT.out ?_; rintro e w1 ⟨rfl, hb1⟩)
 go_ret
 exact ⟨rfl, (A0.next hb1).low⟩
theorem typeFits_const (w : World) {s : ByteArray} {pa : Option Addr} {pn pc : Nat} {r : Int} {va : Option Addr} {vn vc : Nat} {ba : Option Addr} {bn bc : Nat} {fa : Option Addr} {fn fc : Nat} {f : Fu} {FS : List Fu} (C : Ctx w s pa pn pc r va vn vc ba bn bc fa fn fc f FS) (i : Nat) (ty imm : Int) (ka : Option Addr) (kl kc : Nat) (A : List Int) (hkl : kl = A.length) (hA : Ints w ka kc A) (hx : ∀ x ∈ A, wi vn x = true) : Calls Tryz.prog 106 #[.agg #[.string s, .slice pa pn pc, .int .i64 r, .slice va vn vc, .slice ba bn bc, .slice fa fn fc], .int .i64 i, .agg #[.int .i64 1, .int .i64 ty, .int .i64 imm, .slice ka kl kc]] w fun e w' => e = .returned (.bool (constP ty imm)) /\ Below w.heap.size w w' := by
 have A0 : Aft w (.cells #[.string s, .slice pa pn pc, .int .i64 r, .slice va vn vc, .slice ba bn bc, .slice fa fn fc] 85) (.cells #[.int .i64 1, .int .i64 ty, .int .i64 imm, .slice ka kl kc] 45) ((w.alloc (.cells #[.string s, .slice pa pn pc, .int .i64 r, .slice va vn vc, .slice ba bn bc, .slice fa fn fc] 85)).alloc (.cells #[.int .i64 1, .int .i64 ty, .int .i64 imm, .slice ka kl kc] 45)) := Aft.refl _ _ _
 have HT : Hid _ := constantFits_any ((w.alloc (.cells #[.string s, .slice pa pn pc, .int .i64 r, .slice va vn vc, .slice ba bn bc, .slice fa fn fc] 85)).alloc (.cells #[.int .i64 1, .int .i64 ty, .int .i64 imm, .slice ka kl kc] 45)) 1 ty imm ka kl kc
 generalize constP ty imm = R at HT
 clear C hA hx hkl
 go_enter Tryz.func106, Tryz.ntmps106
 go_wp2_with (go_at_call 139; refine Calls.mono HT.out ?_; rintro e w1 ⟨rfl, hb1⟩)
 go_ret
 exact ⟨rfl, (A0.next hb1).low⟩
theorem typeFits_param (w : World) {s : ByteArray} {pa : Option Addr} {pn pc : Nat} {r : Int} {va : Option Addr} {vn vc : Nat} {ba : Option Addr} {bn bc : Nat} {fa : Option Addr} {fn fc : Nat} {f : Fu} {FS : List Fu} (C : Ctx w s pa pn pc r va vn vc ba bn bc fa fn fc f FS) (i : Nat) (ty imm : Int) (ka : Option Addr) (kl kc : Nat) (A : List Int) (hkl : kl = A.length) (hA : Ints w ka kc A) (hx : ∀ x ∈ A, wi vn x = true) : Calls Tryz.prog 106 #[.agg #[.string s, .slice pa pn pc, .int .i64 r, .slice va vn vc, .slice ba bn bc, .slice fa fn fc], .int .i64 i, .agg #[.int .i64 33, .int .i64 ty, .int .i64 imm, .slice ka kl kc]] w fun e w' => e = .returned (.bool (isTy ty)) /\ Below w.heap.size w w' := by
 have A0 : Aft w (.cells #[.string s, .slice pa pn pc, .int .i64 r, .slice va vn vc, .slice ba bn bc, .slice fa fn fc] 85) (.cells #[.int .i64 33, .int .i64 ty, .int .i64 imm, .slice ka kl kc] 45) ((w.alloc (.cells #[.string s, .slice pa pn pc, .int .i64 r, .slice va vn vc, .slice ba bn bc, .slice fa fn fc] 85)).alloc (.cells #[.int .i64 33, .int .i64 ty, .int .i64 imm, .slice ka kl kc] 45)) := Aft.refl _ _ _
 generalize hR : isTy ty = R
 clear C hA hx hkl
 go_enter Tryz.func106, Tryz.ntmps106
 go_wp2_with (go_at_call 128; refine (isType_at _ _ _ hR).mono ?_; rintro e w' ⟨rfl, rfl⟩)
 go_ret
 exact ⟨rfl, A0.low⟩
theorem typeFits_phi (w : World) {s : ByteArray} {pa : Option Addr} {pn pc : Nat} {r : Int} {va : Option Addr} {vn vc : Nat} {ba : Option Addr} {bn bc : Nat} {fa : Option Addr} {fn fc : Nat} {f : Fu} {FS : List Fu} (C : Ctx w s pa pn pc r va vn vc ba bn bc fa fn fc f FS) (i : Nat) (ty imm : Int) (ka : Option Addr) (kl kc : Nat) (A : List Int) (hkl : kl = A.length) (hA : Ints w ka kc A) (hx : ∀ x ∈ A, wi vn x = true) : Calls Tryz.prog 106 #[.agg #[.string s, .slice pa pn pc, .int .i64 r, .slice va vn vc, .slice ba bn bc, .slice fa fn fc], .int .i64 i, .agg #[.int .i64 32, .int .i64 ty, .int .i64 imm, .slice ka kl kc]] w fun e w' => e = .returned (.bool (isTy ty && A.all (fun x => isP f x ty))) /\ Below w.heap.size w w' := by
 have A0 : Aft w (.cells #[.string s, .slice pa pn pc, .int .i64 r, .slice va vn vc, .slice ba bn bc, .slice fa fn fc] 85) (.cells #[.int .i64 32, .int .i64 ty, .int .i64 imm, .slice ka kl kc] 45) ((w.alloc (.cells #[.string s, .slice pa pn pc, .int .i64 r, .slice va vn vc, .slice ba bn bc, .slice fa fn fc] 85)).alloc (.cells #[.int .i64 32, .int .i64 ty, .int .i64 imm, .slice ka kl kc] 45)) := Aft.refl _ _ _
 have HC : Hid _ := C.below A0.low (Nat.le_refl _)
 have HA : Hid _ := hA.below A0.low (Nat.le_refl _)
 have HL : Hid (kl = A.length) := hkl
 have HX : Hid (∀ x ∈ A, wi vn x = true) := hx
 clear C hA hx hkl
 cases hq : isTy ty with
 | false =>
   go_enter Tryz.func106, Tryz.ntmps106
   go_wp2_with (go_at_call 128; refine (isType_at _ _ _ hq).mono ?_; rintro e w' ⟨rfl, rfl⟩)
   go_ret
   exact ⟨rfl, A0.low⟩
 | true =>
   generalize hR : A.all (fun x => isP f x ty) = R
   go_enter Tryz.func106, Tryz.ntmps106
   go_wp2_with (first
    | (go_at_call 128; refine (isType_at _ _ _ hq).mono ?_; rintro e w' ⟨rfl, rfl⟩)
    | (go_at_call 88; refine (everyT1_at _ HC.out w.heap.size (w.heap.size + 1) A0.one A0.two _ _ _ A HL.out HA.out HX.out _ hR).mono ?_; rintro e w1 ⟨rfl, hb1⟩))
   go_ret
   exact ⟨by simp, (A0.next hb1).low⟩
theorem typeFits_call (w : World) {s : ByteArray} {pa : Option Addr} {pn pc : Nat} {r : Int} {va : Option Addr} {vn vc : Nat} {ba : Option Addr} {bn bc : Nat} {fa : Option Addr} {fn fc : Nat} {f : Fu} {FS : List Fu} (C : Ctx w s pa pn pc r va vn vc ba bn bc fa fn fc f FS) (i : Nat) (ty imm : Int) (ka : Option Addr) (kl kc : Nat) (A : List Int) (hkl : kl = A.length) (hA : Ints w ka kc A) (hx : ∀ x ∈ A, wi vn x = true) (hi : wi fn imm = true) (hcnt : kl = (FS.getD imm.toNat noF).params.length) (hfs : ∀ G ∈ FS, formP FS G = true) : Calls Tryz.prog 106 #[.agg #[.string s, .slice pa pn pc, .int .i64 r, .slice va vn vc, .slice ba bn bc, .slice fa fn fc], .int .i64 i, .agg #[.int .i64 25, .int .i64 ty, .int .i64 imm, .slice ka kl kc]] w fun e w' => e = .returned (.bool (callP f FS ty imm A)) /\ Below w.heap.size w w' := by
 have A0 : Aft w (.cells #[.string s, .slice pa pn pc, .int .i64 r, .slice va vn vc, .slice ba bn bc, .slice fa fn fc] 85) (.cells #[.int .i64 25, .int .i64 ty, .int .i64 imm, .slice ka kl kc] 45) ((w.alloc (.cells #[.string s, .slice pa pn pc, .int .i64 r, .slice va vn vc, .slice ba bn bc, .slice fa fn fc] 85)).alloc (.cells #[.int .i64 25, .int .i64 ty, .int .i64 imm, .slice ka kl kc] 45)) := Aft.refl _ _ _
 have HT : Hid _ := callFits_any ((w.alloc (.cells #[.string s, .slice pa pn pc, .int .i64 r, .slice va vn vc, .slice ba bn bc, .slice fa fn fc] 85)).alloc (.cells #[.int .i64 25, .int .i64 ty, .int .i64 imm, .slice ka kl kc] 45)) (C.below A0.low (Nat.le_refl _)) 25 ty imm ka kl kc A hkl (hA.below A0.low (Nat.le_refl _)) hx hi hcnt hfs
 generalize callP f FS ty imm A = R at HT
 clear C hA hx hkl hi hcnt hfs
 go_enter Tryz.func106, Tryz.ntmps106
 go_wp2_with (go_at_call 141; refine Calls.mono HT.out ?_; rintro e w1 ⟨rfl, hb1⟩)
 go_ret
 exact ⟨rfl, (A0.next hb1).low⟩
theorem everyT2_at (w : World) {s : ByteArray} {pa : Option Addr} {pn pc : Nat} {r : Int} {va : Option Addr} {vn vc : Nat} {ba : Option Addr} {bn bc : Nat} {fa : Option Addr} {fn fc : Nat} {f : Fu} {FS : List Fu} (C : Ctx w s pa pn pc r va vn vc ba bn bc fa fn fc f FS) (fb hbk : Nat) (hf : w.heap[fb]? = some (.cells #[.string s, .slice pa pn pc, .int .i64 r, .slice va vn vc, .slice ba bn bc, .slice fa fn fc] 85 (0, 0))) {H : Shp} (hh : w.heap[hbk]? = some (.cells #[.int .i64 H.count, .int .i64 H.a0, .int .i64 H.a1, .int .i64 H.a2, .int .i64 H.gives] 162 (0, 0))) (ao : Option Addr) (n c : Nat) (L : List Int) (hn : n = L.length) (h3 : n <= 3) (hL : Ints w ao c L) (hx : ∀ x ∈ L, wi vn x = true) (R : Bool) (hR : evr (fun i x => isP f x (shA H i)) 0 L = R) :
 Calls Tryz.prog 88 #[.slice ao n c, .func (.func 144) #[] #[.pointer (some ⟨fb, 0, none⟩), .pointer (some ⟨hbk, 0, none⟩)]] w fun e w' => e = .returned (.bool R) /\ Below w.heap.size w w' := by
 subst hR
 refine everyI_any w ao c n L hn hL _ _ _ opens_t2 _ (Asks.two fun W i x hi hb hv' => ?_)
 obtain rfl := hv'.out
 exact types2_any W (C.below hb (Nat.le_refl _)) fb hbk ((hb.block _ (gl hf)).trans hf) ((hb.block _ (gl hh)).trans hh) i (by omega) L[i] (hx _ (List.getElem_mem hi))
set_option maxRecDepth 100000 in
set_option maxHeartbeats 2000000 in
theorem typeFits_other (w : World) {s : ByteArray} {pa : Option Addr} {pn pc : Nat} {r : Int} {va : Option Addr} {vn vc : Nat} {ba : Option Addr} {bn bc : Nat} {fa : Option Addr} {fn fc : Nat} {f : Fu} {FS : List Fu} (C : Ctx w s pa pn pc r va vn vc ba bn bc fa fn fc f FS) (i : Nat) (ty imm : Int) (ka : Option Addr) (kl kc : Nat) (A : List Int) (hkl : kl = A.length) (hA : Ints w ka kc A) (hx : ∀ x ∈ A, wi vn x = true) (op : Int) (h1 : ¬ op = 1) (h13 : ¬ op = 13) (h14 : ¬ op = 14) (h25 : ¬ op = 25) (h32 : ¬ op = 32) (h33 : ¬ op = 33) (h3 : kl <= 3) : Calls Tryz.prog 106 #[.agg #[.string s, .slice pa pn pc, .int .i64 r, .slice va vn vc, .slice ba bn bc, .slice fa fn fc], .int .i64 i, .agg #[.int .i64 op, .int .i64 ty, .int .i64 imm, .slice ka kl kc]] w fun e w' => e = .returned (.bool (decide (ty = (shp op).gives) && evr (fun i x => isP f x (shA (shp op) i)) 0 A)) /\ Below w.heap.size w w' := by
 have A0 : Aft w (.cells #[.string s, .slice pa pn pc, .int .i64 r, .slice va vn vc, .slice ba bn bc, .slice fa fn fc] 85) (.cells #[.int .i64 op, .int .i64 ty, .int .i64 imm, .slice ka kl kc] 45) ((w.alloc (.cells #[.string s, .slice pa pn pc, .int .i64 r, .slice va vn vc, .slice ba bn bc, .slice fa fn fc] 85)).alloc (.cells #[.int .i64 op, .int .i64 ty, .int .i64 imm, .slice ka kl kc] 45)) := Aft.refl _ _ _
 generalize hH : shp op = H
 have hsh : ∀ w, Calls Tryz.prog 143 #[.int .i64 op] w fun e w' => e = .returned (.agg #[.int .i64 H.count, .int .i64 H.a0, .int .i64 H.a1, .int .i64 H.a2, .int .i64 H.gives]) /\ Below w.heap.size w w' := fun w => by
  have := shapeOf_any w op
  rw [hH] at this
  exact this
 have HS : Hid _ := hsh
 have HC : Hid (∀ w', Aft w (.cells #[.string s, .slice pa pn pc, .int .i64 r, .slice va vn vc, .slice ba bn bc, .slice fa fn fc] 85) (.cells #[.int .i64 op, .int .i64 ty, .int .i64 imm, .slice ka kl kc] 45) w' -> Ctx w' s pa pn pc r va vn vc ba bn bc fa fn fc f FS) := fun w' h => C.below h.low (Nat.le_refl _)
 have HA : Hid (∀ w', Aft w (.cells #[.string s, .slice pa pn pc, .int .i64 r, .slice va vn vc, .slice ba bn bc, .slice fa fn fc] 85) (.cells #[.int .i64 op, .int .i64 ty, .int .i64 imm, .slice ka kl kc] 45) w' -> Ints w' ka kc A) := fun w' h => hA.below h.low (Nat.le_refl _)
 have HL : Hid (kl = A.length) := hkl
 have HX : Hid (∀ x ∈ A, wi vn x = true) := hx
 have H3 : Hid (kl <= 3) := h3
 clear C hA hx hkl hsh hH h3
 by_cases ht : ty = H.gives
 ·rw [decide_eq_true ht]
  generalize hR : evr (fun i x => isP f x (shA H i)) 0 A = R
  have ht' : (ty == H.gives) = true := by simp [ht]
  clear ht
  go_enter Tryz.func106, Tryz.ntmps106
  go_wp2_with (first
   | (go_at_call 143; refine (HS.out _).mono ?_; rintro e w1 ⟨rfl, hb1⟩; have A1 := A0.next hb1; obtain ⟨v0, v1, v2, v3⟩ := vcells A1.two; have hs1 := A1.size; have A2 : Aft w (.cells #[.string s, .slice pa pn pc, .int .i64 r, .slice va vn vc, .slice ba bn bc, .slice fa fn fc] 85) (.cells #[.int .i64 op, .int .i64 ty, .int .i64 imm, .slice ka kl kc] 45) (w1.alloc (.cells #[.int .i64 H.count, .int .i64 H.a0, .int .i64 H.a1, .int .i64 H.a2, .int .i64 H.gives] 162)) := A1.next ((Below.refl _ _).alloc (Nat.le_refl _) _); obtain ⟨u0, u1, u2, u3⟩ := vcells A2.two)
   | (go_at_call 88; refine (everyT2_at _ (HC.out _ A2) w.heap.size w1.heap.size A2.one (heap_alloc_new _ _) _ _ _ A HL.out H3.out (HA.out _ A2) HX.out _ hR).mono ?_; rintro e w2 ⟨rfl, hb2⟩))
  go_ret
  exact ⟨by simp, (A2.next hb2).low⟩
 ·rw [decide_eq_false ht]
  have ht' : (ty == H.gives) = false := by simp [ht]
  clear ht
  go_enter Tryz.func106, Tryz.ntmps106
  go_wp2_with (go_at_call 143; refine (HS.out _).mono ?_; rintro e w1 ⟨rfl, hb1⟩; have A1 := A0.next hb1; obtain ⟨v0, v1, v2, v3⟩ := vcells A1.two; have hs1 := A1.size; have A2 : Aft w (.cells #[.string s, .slice pa pn pc, .int .i64 r, .slice va vn vc, .slice ba bn bc, .slice fa fn fc] 85) (.cells #[.int .i64 op, .int .i64 ty, .int .i64 imm, .slice ka kl kc] 45) (w1.alloc (.cells #[.int .i64 H.count, .int .i64 H.a0, .int .i64 H.a1, .int .i64 H.a2, .int .i64 H.gives] 162)) := A1.next ((Below.refl _ _).alloc (Nat.le_refl _) _); obtain ⟨u0, u1, u2, u3⟩ := vcells A2.two)
  go_ret
  exact ⟨by simp, A2.low⟩
end Go.Proofs.YtfbkopjncmkbiaaGreatDoor
