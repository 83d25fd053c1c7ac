import Derived.Test.YtfbkopjncmkbiabGreatDoorKam
set_option linter.unusedVariables false
set_option linter.unusedSimpArgs false
namespace Go.Proofs.YtfbkopjncmkbiabGreatDoor
open Go.ChangeShapes Go.WideShapes Go.ChangeAt Go.RowKit Go.Maps
theorem everyC1_at (w : World) {s : ByteArray} {pa : Option Addr} {pn pc : Nat} {r : Int} {va : Option Addr} {vn vc : Nat} {ba : Option Addr} {bn bc : Nat} {fa : Option Addr} {fn fc : Nat} {f : Fu} {FS : List Fu} (C : Ctx w s pa pn pc r va vn vc ba bn bc fa fn fc f FS) (fb gb : Nat) (hf : w.heap[fb]? = some (.cells #[.string s, .slice pa pn pc, .int .i64 r, .slice va vn vc, .slice ba bn bc, .slice fa fn fc] 77 (0, 0))) {gs : ByteArray} {xa : Option Addr} {xl xc : Nat} {gr : Int} {la : Option Addr} {ll lc : Nat} {ma : Option Addr} {ml mc : Nat} {G : Fu} (hg : w.heap[gb]? = some (.cells #[.string gs, .slice xa xl xc, .int .i64 gr, .slice la ll lc, .slice ma ml mc] 33 (0, 0))) (GX : Gx w gs xa xl xc gr la ll lc ma ml mc G) (hpi : ∀ i, i < xl -> wi ll (G.params.getD i 0) = true) (ao : Option Addr) (n c : Nat) (L : List Int) (hn : n = L.length) (hnl : n = xl) (hL : Ints w ao c L) (hx : ∀ x ∈ L, wi vn x = true) (R : Bool) (hR : evr (calA f G) 0 L = R) :
 Calls Tryz.prog 78 #[.slice ao n c, .func (.func 169) #[] #[.pointer (some ⟨fb, 0, none⟩), .pointer (some ⟨gb, 0, none⟩)]] w fun e w' => e = .returned (.bool R) /\ Below w.heap.size w w' := by
 subst hR
 refine everyI_any w ao c n L hn hL _ _ _ opens_c1 _ (Asks.two fun W i x hi hb hv' => ?_)
 obtain rfl := hv'.out
 exact calls1_any W (C.below hb (Nat.le_refl _)) fb gb ((hb.block _ (gl hf)).trans hf) ((hb.block _ (gl hg)).trans hg) (GX.below hb (Nat.le_refl _)) i (by omega) (hpi i (by omega)) L[i] (hx _ (List.getElem_mem hi))
def callP (f : Fu) (FS : List Fu) (ty imm : Int) (A : List Int) : Bool := decide (ty = (FS.getD imm.toNat noF).result) && evr (calA f (FS.getD imm.toNat noF)) 0 A
theorem paramP_wi {G : Fu} (h : evr (paramP G) 0 G.params = true) : ∀ i, i < G.params.length -> wi G.vals.length (G.params.getD i 0) = true := by
 intro i hi
 have := (evr_iff _ _ 0).1 h i hi
 simp only [paramP, Bool.and_eq_true] at this
 have e : G.params.getD i 0 = G.params[i] := by simp [hi]
 rw [e]; exact this.1
set_option maxRecDepth 100000 in
set_option maxHeartbeats 2000000 in
theorem callFits_any (w : World) {s : ByteArray} {pa : Option Addr} {pn pc : Nat} {r : Int} {va : Option Addr} {vn vc : Nat} {ba : Option Addr} {bn bc : Nat} {fa : Option Addr} {fn fc : Nat} {f : Fu} {FS : List Fu} (C : Ctx w s pa pn pc r va vn vc ba bn bc fa fn fc f FS) (op ty imm : Int) (ka : Option Addr) (kl kc : Nat) (A : List Int) (hkl : kl = A.length) (hA : Ints w ka kc A) (hx : ∀ x ∈ A, wi vn x = true) (hi : wi fn imm = true) (hcnt : kl = (FS.getD imm.toNat noF).params.length) (hfs : ∀ G ∈ FS, formP FS G = true) :
 Calls Tryz.prog 131 #[.agg #[.string s, .slice pa pn pc, .int .i64 r, .slice va vn vc, .slice ba bn bc, .slice fa fn fc], .agg #[.int .i64 op, .int .i64 ty, .int .i64 imm, .slice ka kl kc]] w fun e w' => e = .returned (.bool (callP f FS ty imm A)) /\ Below w.heap.size w w' := by
 unfold callP
 simp only [wi, decide_eq_true_eq] at hi
 obtain ⟨j, rfl⟩ : ∃ j : Nat, imm = j := ⟨imm.toNat, by omega⟩
 have hj : j < FS.length := by have := C.ef; omega
 have hjn : j < fn := by omega
 have hfn : fn <= 9223372036854775807 := by have := C.hf.le; have := C.hf.mx; have := C.ef; omega
 have eG : FS.getD (j : Int).toNat noF = FS[j] := by simp [hj]
 rw [eG] at hcnt ⊢
 have hform := hfs _ (List.getElem_mem hj)
 have hprm : evr (paramP FS[j]) 0 FS[j].params = true := by
  simp only [formP, Bool.and_eq_true] at hform
  exact hform.2.2.2.2.1
 obtain ⟨b, o, xa, xc, la, lc, ma, mc, rfl, hlt, c0, c1, c2, c3, c4, g1, g2, g3⟩ := C.hf.at hj
 have A0 : Aft w (.cells #[.string s, .slice pa pn pc, .int .i64 r, .slice va vn vc, .slice ba bn bc, .slice (some ⟨b, o, none⟩) fn fc] 77) (.cells #[.int .i64 op, .int .i64 ty, .int .i64 (j : Int), .slice ka kl kc] 25) ((w.alloc (.cells #[.string s, .slice pa pn pc, .int .i64 r, .slice va vn vc, .slice ba bn bc, .slice (some ⟨b, o, none⟩) fn fc] 77)).alloc (.cells #[.int .i64 op, .int .i64 ty, .int .i64 (j : Int), .slice ka kl kc] 25)) := Aft.refl _ _ _
 have mv : ∀ q, ((w.alloc (.cells #[.string s, .slice pa pn pc, .int .i64 r, .slice va vn vc, .slice ba bn bc, .slice (some ⟨b, o, none⟩) fn fc] 77)).alloc (.cells #[.int .i64 op, .int .i64 ty, .int .i64 (j : Int), .slice ka kl kc] 25)).cell? ⟨b, q, none⟩ = w.cell? ⟨b, q, none⟩ := fun q => A0.low.cell (p := ⟨b, q, none⟩) hlt
 rw [<- mv] at c0 c1 c2 c3 c4
 clear mv
 generalize FS[j] = G at c0 c1 c2 c3 c4 g1 g2 g3 hcnt hprm hform
 obtain ⟨gs, hgs⟩ : ∃ gs, gs = G.name := ⟨_, rfl⟩
 obtain ⟨xl, hxl⟩ : ∃ xl, xl = G.params.length := ⟨_, rfl⟩
 obtain ⟨gr, hgr⟩ : ∃ gr, gr = G.result := ⟨_, rfl⟩
 obtain ⟨ll, hll⟩ : ∃ ll, ll = G.vals.length := ⟨_, rfl⟩
 obtain ⟨ml, hml⟩ : ∃ ml, ml = G.blks.length := ⟨_, rfl⟩
 rw [<- hgs] at c0
 rw [<- hxl] at c1 hcnt
 rw [<- hgr] at c2 ⊢
 rw [<- hll] at c3
 rw [<- hml] at c4
 have A1 : Aft w (.cells #[.string s, .slice pa pn pc, .int .i64 r, .slice va vn vc, .slice ba bn bc, .slice (some ⟨b, o, none⟩) fn fc] 77) (.cells #[.int .i64 op, .int .i64 ty, .int .i64 (j : Int), .slice ka kl kc] 25) (((w.alloc (.cells #[.string s, .slice pa pn pc, .int .i64 r, .slice va vn vc, .slice ba bn bc, .slice (some ⟨b, o, none⟩) fn fc] 77)).alloc (.cells #[.int .i64 op, .int .i64 ty, .int .i64 (j : Int), .slice ka kl kc] 25)).alloc (.cells #[.string gs, .slice xa xl xc, .int .i64 gr, .slice la ll lc, .slice ma ml mc] 33)) := A0.next ((Below.refl _ _).alloc (Nat.le_refl _) _)
 have HC : Hid _ := C.below A1.low (Nat.le_refl _)
 have HA : Hid _ := hA.below A1.low (Nat.le_refl _)
 have HG : Hid (Gx (((w.alloc (.cells #[.string s, .slice pa pn pc, .int .i64 r, .slice va vn vc, .slice ba bn bc, .slice (some ⟨b, o, none⟩) fn fc] 77)).alloc (.cells #[.int .i64 op, .int .i64 ty, .int .i64 (j : Int), .slice ka kl kc] 25)).alloc (.cells #[.string gs, .slice xa xl xc, .int .i64 gr, .slice la ll lc, .slice ma ml mc] 33)) gs xa xl xc gr la ll lc ma ml mc G) := ⟨hxl, hgr, hll, g1.below A1.low (Nat.le_refl _), g2.below A1.low (Nat.le_refl _)⟩
 have hb3 : (((w.alloc (.cells #[.string s, .slice pa pn pc, .int .i64 r, .slice va vn vc, .slice ba bn bc, .slice (some ⟨b, o, none⟩) fn fc] 77)).alloc (.cells #[.int .i64 op, .int .i64 ty, .int .i64 (j : Int), .slice ka kl kc] 25)).alloc (.cells #[.string gs, .slice xa xl xc, .int .i64 gr, .slice la ll lc, .slice ma ml mc] 33)).heap[w.heap.size + 1 + 1]? = some (.cells #[.string gs, .slice xa xl xc, .int .i64 gr, .slice la ll lc, .slice ma ml mc] 33 (0, 0)) := by
  have := heap_alloc_new ((w.alloc (.cells #[.string s, .slice pa pn pc, .int .i64 r, .slice va vn vc, .slice ba bn bc, .slice (some ⟨b, o, none⟩) fn fc] 77)).alloc (.cells #[.int .i64 op, .int .i64 ty, .int .i64 (j : Int), .slice ka kl kc] 25)) (.cells #[.string gs, .slice xa xl xc, .int .i64 gr, .slice la ll lc, .slice ma ml mc] 33)
  simpa using this
 have HB : Hid _ := hb3
 have HP : Hid (∀ i, i < xl -> wi ll (G.params.getD i 0) = true) := by
  have := paramP_wi hprm
  rw [<- hxl, <- hll] at this
  exact this
 have HL : Hid (kl = A.length) := hkl
 have HN : Hid (kl = xl) := hcnt
 have HX : Hid (∀ x ∈ A, wi vn x = true) := hx
 clear C hA g1 g2 g3 hb3 hkl hcnt hx hprm hform hfs eG hgs hxl hgr hll hml hi
 by_cases ht : ty = gr
 ·subst ht
  generalize hR : evr (calA f G) 0 A = R
  go_enter Tryz.func131, Tryz.ntmps131
  go_wp2_with (go_at_call 78; refine (everyC1_at _ HC.out w.heap.size (w.heap.size + 1 + 1) A1.one HB.out HG.out HP.out _ _ _ A HL.out HN.out HA.out HX.out _ hR).mono ?_; rintro e w1 ⟨rfl, hb1⟩)
  go_ret
  exact ⟨by simp, (A1.next hb1).low⟩
 ·rw [decide_eq_false ht]
  go_enter Tryz.func131, Tryz.ntmps131
  go_wp2_with fail
  go_ret
  exact ⟨rfl, A1.low⟩
theorem typesY1_any (w : World) {s : ByteArray} {pa : Option Addr} {pn pc : Nat} {r : Int} {va : Option Addr} {vn vc : Nat} {ba : Option Addr} {bn bc : Nat} {fa : Option Addr} {fn fc : Nat} {f : Fu} {FS : List Fu} (C : Ctx w s pa pn pc r va vn vc ba bn bc fa fn fc f FS) (fb : Nat) (hf : w.heap[fb]? = some (.cells #[.string s, .slice pa pn pc, .int .i64 r, .slice va vn vc, .slice ba bn bc, .slice fa fn fc] 77 (0, 0))) (i : Nat) (ka : Option Addr) (kl kc : Nat) (la : Option Addr) (ll lc : Nat) (kd vl : Int) (ma : Option Addr) (ml mc : Nat) (na : Option Addr) (nl nc : Nat) (hx : kd = 2 \/ kd = 4 \/ ¬ vl = -1 -> wi vn vl = true) :
 Calls Tryz.prog 97 #[.int .i64 i, .agg #[.slice ka kl kc, .slice la ll lc, .int .i64 kd, .int .i64 vl, .slice ma ml mc, .slice na nl nc], .pointer (some ⟨fb, 0, none⟩)] w fun e w' => e = .returned (.bool (termTy f kd vl)) /\ Below w.heap.size w w' := by
 have A0 : Af1 w (.cells #[.slice ka kl kc, .slice la ll lc, .int .i64 kd, .int .i64 vl, .slice ma ml mc, .slice na nl nc] 30) (w.alloc (.cells #[.slice ka kl kc, .slice la ll lc, .int .i64 kd, .int .i64 vl, .slice ma ml mc, .slice na nl nc] 30)) := Af1.refl _ _
 have HC : Hid _ := C.below A0.low (Nat.le_refl _)
 obtain ⟨f0, f1, f2, f3, f4, f5⟩ := fcells ((A0.low.block _ (gl hf)).trans hf)
 have HX : Hid _ := hx
 have ht := fun w C => termTypeFits_any w (s := s) (pa := pa) (pn := pn) (pc := pc) (r := r) (va := va) (vn := vn) (vc := vc) (ba := ba) (bn := bn) (bc := bc) (fa := fa) (fn := fn) (fc := fc) (f := f) (FS := FS) C kd vl ma ml mc hx
 have HT : Hid _ := ht _ HC.out
 generalize termTy f kd vl = R at HT
 clear C hf hx ht
 go_enter Tryz.func97, Tryz.ntmps97
 go_wp2_with (go_at_call 98; refine Calls.mono HT.out ?_; rintro e w1 ⟨rfl, hb1⟩)
 go_ret
 exact ⟨rfl, (A0.next hb1).low⟩
theorem typeFits_const (w : World) {s : ByteArray} {pa : Option Addr} {pn pc : Nat} {r : Int} {va : Option Addr} {vn vc : Nat} {ba : Option Addr} {bn bc : Nat} {fa : Option Addr} {fn fc : Nat} {f : Fu} {FS : List Fu} (C : Ctx w s pa pn pc r va vn vc ba bn bc fa fn fc f FS) (i : Nat) (ty imm : Int) (ka : Option Addr) (kl kc : Nat) (A : List Int) (hkl : kl = A.length) (hA : Ints w ka kc A) (hx : ∀ x ∈ A, wi vn x = true) : Calls Tryz.prog 96 #[.agg #[.string s, .slice pa pn pc, .int .i64 r, .slice va vn vc, .slice ba bn bc, .slice fa fn fc], .int .i64 i, .agg #[.int .i64 1, .int .i64 ty, .int .i64 imm, .slice ka kl kc]] w fun e w' => e = .returned (.bool (constP ty imm)) /\ Below w.heap.size w w' := by
 have A0 : Aft w (.cells #[.string s, .slice pa pn pc, .int .i64 r, .slice va vn vc, .slice ba bn bc, .slice fa fn fc] 77) (.cells #[.int .i64 1, .int .i64 ty, .int .i64 imm, .slice ka kl kc] 25) ((w.alloc (.cells #[.string s, .slice pa pn pc, .int .i64 r, .slice va vn vc, .slice ba bn bc, .slice fa fn fc] 77)).alloc (.cells #[.int .i64 1, .int .i64 ty, .int .i64 imm, .slice ka kl kc] 25)) := Aft.refl _ _ _
 have HT : Hid _ := constantFits_any ((w.alloc (.cells #[.string s, .slice pa pn pc, .int .i64 r, .slice va vn vc, .slice ba bn bc, .slice fa fn fc] 77)).alloc (.cells #[.int .i64 1, .int .i64 ty, .int .i64 imm, .slice ka kl kc] 25)) 1 ty imm ka kl kc
 generalize constP ty imm = R at HT
 clear C hA hx hkl
 go_enter Tryz.func96, Tryz.ntmps96
 go_wp2_with (go_at_call 129; refine Calls.mono HT.out ?_; rintro e w1 ⟨rfl, hb1⟩)
 go_ret
 exact ⟨rfl, (A0.next hb1).low⟩
theorem typeFits_param (w : World) {s : ByteArray} {pa : Option Addr} {pn pc : Nat} {r : Int} {va : Option Addr} {vn vc : Nat} {ba : Option Addr} {bn bc : Nat} {fa : Option Addr} {fn fc : Nat} {f : Fu} {FS : List Fu} (C : Ctx w s pa pn pc r va vn vc ba bn bc fa fn fc f FS) (i : Nat) (ty imm : Int) (ka : Option Addr) (kl kc : Nat) (A : List Int) (hkl : kl = A.length) (hA : Ints w ka kc A) (hx : ∀ x ∈ A, wi vn x = true) : Calls Tryz.prog 96 #[.agg #[.string s, .slice pa pn pc, .int .i64 r, .slice va vn vc, .slice ba bn bc, .slice fa fn fc], .int .i64 i, .agg #[.int .i64 33, .int .i64 ty, .int .i64 imm, .slice ka kl kc]] w fun e w' => e = .returned (.bool (isTy ty)) /\ Below w.heap.size w w' := by
 have A0 : Aft w (.cells #[.string s, .slice pa pn pc, .int .i64 r, .slice va vn vc, .slice ba bn bc, .slice fa fn fc] 77) (.cells #[.int .i64 33, .int .i64 ty, .int .i64 imm, .slice ka kl kc] 25) ((w.alloc (.cells #[.string s, .slice pa pn pc, .int .i64 r, .slice va vn vc, .slice ba bn bc, .slice fa fn fc] 77)).alloc (.cells #[.int .i64 33, .int .i64 ty, .int .i64 imm, .slice ka kl kc] 25)) := Aft.refl _ _ _
 generalize hR : isTy ty = R
 clear C hA hx hkl
 go_enter Tryz.func96, Tryz.ntmps96
 go_wp2_with (go_at_call 118; refine (isType_at _ _ _ hR).mono ?_; rintro e w' ⟨rfl, rfl⟩)
 go_ret
 exact ⟨rfl, A0.low⟩
theorem typeFits_phi (w : World) {s : ByteArray} {pa : Option Addr} {pn pc : Nat} {r : Int} {va : Option Addr} {vn vc : Nat} {ba : Option Addr} {bn bc : Nat} {fa : Option Addr} {fn fc : Nat} {f : Fu} {FS : List Fu} (C : Ctx w s pa pn pc r va vn vc ba bn bc fa fn fc f FS) (i : Nat) (ty imm : Int) (ka : Option Addr) (kl kc : Nat) (A : List Int) (hkl : kl = A.length) (hA : Ints w ka kc A) (hx : ∀ x ∈ A, wi vn x = true) : Calls Tryz.prog 96 #[.agg #[.string s, .slice pa pn pc, .int .i64 r, .slice va vn vc, .slice ba bn bc, .slice fa fn fc], .int .i64 i, .agg #[.int .i64 32, .int .i64 ty, .int .i64 imm, .slice ka kl kc]] w fun e w' => e = .returned (.bool (isTy ty && A.all (fun x => isP f x ty))) /\ Below w.heap.size w w' := by
 have A0 : Aft w (.cells #[.string s, .slice pa pn pc, .int .i64 r, .slice va vn vc, .slice ba bn bc, .slice fa fn fc] 77) (.cells #[.int .i64 32, .int .i64 ty, .int .i64 imm, .slice ka kl kc] 25) ((w.alloc (.cells #[.string s, .slice pa pn pc, .int .i64 r, .slice va vn vc, .slice ba bn bc, .slice fa fn fc] 77)).alloc (.cells #[.int .i64 32, .int .i64 ty, .int .i64 imm, .slice ka kl kc] 25)) := Aft.refl _ _ _
 have HC : Hid _ := C.below A0.low (Nat.le_refl _)
 have HA : Hid _ := hA.below A0.low (Nat.le_refl _)
 have HL : Hid (kl = A.length) := hkl
 have HX : Hid (∀ x ∈ A, wi vn x = true) := hx
 clear C hA hx hkl
 cases hq : isTy ty with
 | false =>
   go_enter Tryz.func96, Tryz.ntmps96
   go_wp2_with (go_at_call 118; refine (isType_at _ _ _ hq).mono ?_; rintro e w' ⟨rfl, rfl⟩)
   go_ret
   exact ⟨rfl, A0.low⟩
 | true =>
   generalize hR : A.all (fun x => isP f x ty) = R
   go_enter Tryz.func96, Tryz.ntmps96
   go_wp2_with (first
    | (go_at_call 118; refine (isType_at _ _ _ hq).mono ?_; rintro e w' ⟨rfl, rfl⟩)
    | (go_at_call 78; refine (everyT1_at _ HC.out w.heap.size (w.heap.size + 1) A0.one A0.two _ _ _ A HL.out HA.out HX.out _ hR).mono ?_; rintro e w1 ⟨rfl, hb1⟩))
   go_ret
   exact ⟨by simp, (A0.next hb1).low⟩
theorem typeFits_call (w : World) {s : ByteArray} {pa : Option Addr} {pn pc : Nat} {r : Int} {va : Option Addr} {vn vc : Nat} {ba : Option Addr} {bn bc : Nat} {fa : Option Addr} {fn fc : Nat} {f : Fu} {FS : List Fu} (C : Ctx w s pa pn pc r va vn vc ba bn bc fa fn fc f FS) (i : Nat) (ty imm : Int) (ka : Option Addr) (kl kc : Nat) (A : List Int) (hkl : kl = A.length) (hA : Ints w ka kc A) (hx : ∀ x ∈ A, wi vn x = true) (hi : wi fn imm = true) (hcnt : kl = (FS.getD imm.toNat noF).params.length) (hfs : ∀ G ∈ FS, formP FS G = true) : Calls Tryz.prog 96 #[.agg #[.string s, .slice pa pn pc, .int .i64 r, .slice va vn vc, .slice ba bn bc, .slice fa fn fc], .int .i64 i, .agg #[.int .i64 25, .int .i64 ty, .int .i64 imm, .slice ka kl kc]] w fun e w' => e = .returned (.bool (callP f FS ty imm A)) /\ Below w.heap.size w w' := by
 have A0 : Aft w (.cells #[.string s, .slice pa pn pc, .int .i64 r, .slice va vn vc, .slice ba bn bc, .slice fa fn fc] 77) (.cells #[.int .i64 25, .int .i64 ty, .int .i64 imm, .slice ka kl kc] 25) ((w.alloc (.cells #[.string s, .slice pa pn pc, .int .i64 r, .slice va vn vc, .slice ba bn bc, .slice fa fn fc] 77)).alloc (.cells #[.int .i64 25, .int .i64 ty, .int .i64 imm, .slice ka kl kc] 25)) := Aft.refl _ _ _
 have HT : Hid _ := callFits_any ((w.alloc (.cells #[.string s, .slice pa pn pc, .int .i64 r, .slice va vn vc, .slice ba bn bc, .slice fa fn fc] 77)).alloc (.cells #[.int .i64 25, .int .i64 ty, .int .i64 imm, .slice ka kl kc] 25)) (C.below A0.low (Nat.le_refl _)) 25 ty imm ka kl kc A hkl (hA.below A0.low (Nat.le_refl _)) hx hi hcnt hfs
 generalize callP f FS ty imm A = R at HT
 clear C hA hx hkl hi hcnt hfs
 go_enter Tryz.func96, Tryz.ntmps96
 go_wp2_with (go_at_call 131; refine Calls.mono HT.out ?_; rintro e w1 ⟨rfl, hb1⟩)
 go_ret
 exact ⟨rfl, (A0.next hb1).low⟩
theorem everyT2_at (w : World) {s : ByteArray} {pa : Option Addr} {pn pc : Nat} {r : Int} {va : Option Addr} {vn vc : Nat} {ba : Option Addr} {bn bc : Nat} {fa : Option Addr} {fn fc : Nat} {f : Fu} {FS : List Fu} (C : Ctx w s pa pn pc r va vn vc ba bn bc fa fn fc f FS) (fb hbk : Nat) (hf : w.heap[fb]? = some (.cells #[.string s, .slice pa pn pc, .int .i64 r, .slice va vn vc, .slice ba bn bc, .slice fa fn fc] 77 (0, 0))) {H : Shp} (hh : w.heap[hbk]? = some (.cells #[.int .i64 H.count, .int .i64 H.a0, .int .i64 H.a1, .int .i64 H.a2, .int .i64 H.gives] 157 (0, 0))) (ao : Option Addr) (n c : Nat) (L : List Int) (hn : n = L.length) (h3 : n <= 3) (hL : Ints w ao c L) (hx : ∀ x ∈ L, wi vn x = true) (R : Bool) (hR : evr (fun i x => isP f x (shA H i)) 0 L = R) :
 Calls Tryz.prog 78 #[.slice ao n c, .func (.func 134) #[] #[.pointer (some ⟨fb, 0, none⟩), .pointer (some ⟨hbk, 0, none⟩)]] w fun e w' => e = .returned (.bool R) /\ Below w.heap.size w w' := by
 subst hR
 refine everyI_any w ao c n L hn hL _ _ _ opens_t2 _ (Asks.two fun W i x hi hb hv' => ?_)
 obtain rfl := hv'.out
 exact types2_any W (C.below hb (Nat.le_refl _)) fb hbk ((hb.block _ (gl hf)).trans hf) ((hb.block _ (gl hh)).trans hh) i (by omega) L[i] (hx _ (List.getElem_mem hi))
set_option maxRecDepth 100000 in
set_option maxHeartbeats 2000000 in
theorem typeFits_other (w : World) {s : ByteArray} {pa : Option Addr} {pn pc : Nat} {r : Int} {va : Option Addr} {vn vc : Nat} {ba : Option Addr} {bn bc : Nat} {fa : Option Addr} {fn fc : Nat} {f : Fu} {FS : List Fu} (C : Ctx w s pa pn pc r va vn vc ba bn bc fa fn fc f FS) (i : Nat) (ty imm : Int) (ka : Option Addr) (kl kc : Nat) (A : List Int) (hkl : kl = A.length) (hA : Ints w ka kc A) (hx : ∀ x ∈ A, wi vn x = true) (op : Int) (h1 : ¬ op = 1) (h13 : ¬ op = 13) (h14 : ¬ op = 14) (h25 : ¬ op = 25) (h32 : ¬ op = 32) (h33 : ¬ op = 33) (h3 : kl <= 3) : Calls Tryz.prog 96 #[.agg #[.string s, .slice pa pn pc, .int .i64 r, .slice va vn vc, .slice ba bn bc, .slice fa fn fc], .int .i64 i, .agg #[.int .i64 op, .int .i64 ty, .int .i64 imm, .slice ka kl kc]] w fun e w' => e = .returned (.bool (decide (ty = (shp op).gives) && evr (fun i x => isP f x (shA (shp op) i)) 0 A)) /\ Below w.heap.size w w' := by
 have A0 : Aft w (.cells #[.string s, .slice pa pn pc, .int .i64 r, .slice va vn vc, .slice ba bn bc, .slice fa fn fc] 77) (.cells #[.int .i64 op, .int .i64 ty, .int .i64 imm, .slice ka kl kc] 25) ((w.alloc (.cells #[.string s, .slice pa pn pc, .int .i64 r, .slice va vn vc, .slice ba bn bc, .slice fa fn fc] 77)).alloc (.cells #[.int .i64 op, .int .i64 ty, .int .i64 imm, .slice ka kl kc] 25)) := Aft.refl _ _ _
 generalize hH : shp op = H
 have hsh : ∀ w, Calls Tryz.prog 133 #[.int .i64 op] w fun e w' => e = .returned (.agg #[.int .i64 H.count, .int .i64 H.a0, .int .i64 H.a1, .int .i64 H.a2, .int .i64 H.gives]) /\ Below w.heap.size w w' := fun w => by
  have := shapeOf_any w op
  rw [hH] at this
  exact this
 have HS : Hid _ := hsh
 have HC : Hid (∀ w', Aft w (.cells #[.string s, .slice pa pn pc, .int .i64 r, .slice va vn vc, .slice ba bn bc, .slice fa fn fc] 77) (.cells #[.int .i64 op, .int .i64 ty, .int .i64 imm, .slice ka kl kc] 25) w' -> Ctx w' s pa pn pc r va vn vc ba bn bc fa fn fc f FS) := fun w' h => C.below h.low (Nat.le_refl _)
 have HA : Hid (∀ w', Aft w (.cells #[.string s, .slice pa pn pc, .int .i64 r, .slice va vn vc, .slice ba bn bc, .slice fa fn fc] 77) (.cells #[.int .i64 op, .int .i64 ty, .int .i64 imm, .slice ka kl kc] 25) w' -> Ints w' ka kc A) := fun w' h => hA.below h.low (Nat.le_refl _)
 have HL : Hid (kl = A.length) := hkl
 have HX : Hid (∀ x ∈ A, wi vn x = true) := hx
 have H3 : Hid (kl <= 3) := h3
 clear C hA hx hkl hsh hH h3
 by_cases ht : ty = H.gives
 ·rw [decide_eq_true ht]
  generalize hR : evr (fun i x => isP f x (shA H i)) 0 A = R
  have ht' : (ty == H.gives) = true := by simp [ht]
  clear ht
  go_enter Tryz.func96, Tryz.ntmps96
  go_wp2_with (first
   | (go_at_call 133; refine (HS.out _).mono ?_; rintro e w1 ⟨rfl, hb1⟩; have A1 := A0.next hb1; obtain ⟨v0, v1, v2, v3⟩ := vcells A1.two; have hs1 := A1.size; have A2 : Aft w (.cells #[.string s, .slice pa pn pc, .int .i64 r, .slice va vn vc, .slice ba bn bc, .slice fa fn fc] 77) (.cells #[.int .i64 op, .int .i64 ty, .int .i64 imm, .slice ka kl kc] 25) (w1.alloc (.cells #[.int .i64 H.count, .int .i64 H.a0, .int .i64 H.a1, .int .i64 H.a2, .int .i64 H.gives] 157)) := A1.next ((Below.refl _ _).alloc (Nat.le_refl _) _); obtain ⟨u0, u1, u2, u3⟩ := vcells A2.two)
   | (go_at_call 78; refine (everyT2_at _ (HC.out _ A2) w.heap.size w1.heap.size A2.one (heap_alloc_new _ _) _ _ _ A HL.out H3.out (HA.out _ A2) HX.out _ hR).mono ?_; rintro e w2 ⟨rfl, hb2⟩))
  go_ret
  exact ⟨by simp, (A2.next hb2).low⟩
 ·rw [decide_eq_false ht]
  have ht' : (ty == H.gives) = false := by simp [ht]
  clear ht
  go_enter Tryz.func96, Tryz.ntmps96
  go_wp2_with (go_at_call 133; refine (HS.out _).mono ?_; rintro e w1 ⟨rfl, hb1⟩; have A1 := A0.next hb1; obtain ⟨v0, v1, v2, v3⟩ := vcells A1.two; have hs1 := A1.size; have A2 : Aft w (.cells #[.string s, .slice pa pn pc, .int .i64 r, .slice va vn vc, .slice ba bn bc, .slice fa fn fc] 77) (.cells #[.int .i64 op, .int .i64 ty, .int .i64 imm, .slice ka kl kc] 25) (w1.alloc (.cells #[.int .i64 H.count, .int .i64 H.a0, .int .i64 H.a1, .int .i64 H.a2, .int .i64 H.gives] 157)) := A1.next ((Below.refl _ _).alloc (Nat.le_refl _) _); obtain ⟨u0, u1, u2, u3⟩ := vcells A2.two)
  go_ret
  exact ⟨by simp, A2.low⟩
theorem typeFits_no13 (w : World) {s : ByteArray} {pa : Option Addr} {pn pc : Nat} {r : Int} {va : Option Addr} {vn vc : Nat} {ba : Option Addr} {bn bc : Nat} {fa : Option Addr} {fn fc : Nat} (i : Nat) (ty imm : Int) (ka : Option Addr) (kl kc : Nat) (ht : ¬ ty = 2) : Calls Tryz.prog 96 #[.agg #[.string s, .slice pa pn pc, .int .i64 r, .slice va vn vc, .slice ba bn bc, .slice fa fn fc], .int .i64 i, .agg #[.int .i64 13, .int .i64 ty, .int .i64 imm, .slice ka kl kc]] w fun e w' => e = .returned (.bool false) /\ Below w.heap.size w w' := by
 have A0 : Aft w (.cells #[.string s, .slice pa pn pc, .int .i64 r, .slice va vn vc, .slice ba bn bc, .slice fa fn fc] 77) (.cells #[.int .i64 13, .int .i64 ty, .int .i64 imm, .slice ka kl kc] 25) ((w.alloc (.cells #[.string s, .slice pa pn pc, .int .i64 r, .slice va vn vc, .slice ba bn bc, .slice fa fn fc] 77)).alloc (.cells #[.int .i64 13, .int .i64 ty, .int .i64 imm, .slice ka kl kc] 25)) := Aft.refl _ _ _
 have ht' : (ty == 2) = false := by simp [ht]
 clear ht
 go_enter Tryz.func96, Tryz.ntmps96
 go_wp2_with fail
 go_quiet (fail)
 go_wp2_with fail
 go_ret
 exact ⟨rfl, below_drawn A0.low _⟩
theorem typeFits_no14 (w : World) {s : ByteArray} {pa : Option Addr} {pn pc : Nat} {r : Int} {va : Option Addr} {vn vc : Nat} {ba : Option Addr} {bn bc : Nat} {fa : Option Addr} {fn fc : Nat} (i : Nat) (ty imm : Int) (ka : Option Addr) (kl kc : Nat) (ht : ¬ ty = 2) : Calls Tryz.prog 96 #[.agg #[.string s, .slice pa pn pc, .int .i64 r, .slice va vn vc, .slice ba bn bc, .slice fa fn fc], .int .i64 i, .agg #[.int .i64 14, .int .i64 ty, .int .i64 imm, .slice ka kl kc]] w fun e w' => e = .returned (.bool false) /\ Below w.heap.size w w' := by
 have A0 : Aft w (.cells #[.string s, .slice pa pn pc, .int .i64 r, .slice va vn vc, .slice ba bn bc, .slice fa fn fc] 77) (.cells #[.int .i64 14, .int .i64 ty, .int .i64 imm, .slice ka kl kc] 25) ((w.alloc (.cells #[.string s, .slice pa pn pc, .int .i64 r, .slice va vn vc, .slice ba bn bc, .slice fa fn fc] 77)).alloc (.cells #[.int .i64 14, .int .i64 ty, .int .i64 imm, .slice ka kl kc] 25)) := Aft.refl _ _ _
 have ht' : (ty == 2) = false := by simp [ht]
 clear ht
 go_enter Tryz.func96, Tryz.ntmps96
 go_wp2_with fail
 go_quiet (fail)
 go_wp2_with fail
 go_ret
 exact ⟨rfl, below_drawn A0.low _⟩
set_option maxRecDepth 100000 in
set_option maxHeartbeats 4000000 in
theorem typeFits_yes13 (w : World) {s : ByteArray} {pa : Option Addr} {pn pc : Nat} {r : Int} {va : Option Addr} {vn vc : Nat} {ba : Option Addr} {bn bc : Nat} {fa : Option Addr} {fn fc : Nat} {f : Fu} {FS : List Fu} (C : Ctx w s pa pn pc r va vn vc ba bn bc fa fn fc f FS) (i : Nat) (imm : Int) (ka : Option Addr) (kc : Nat) (x y : Int) (hA : Ints w ka kc [x, y]) (hx : wi vn x = true) (hy : wi vn y = true) : Calls Tryz.prog 96 #[.agg #[.string s, .slice pa pn pc, .int .i64 r, .slice va vn vc, .slice ba bn bc, .slice fa fn fc], .int .i64 i, .agg #[.int .i64 13, .int .i64 2, .int .i64 imm, .slice ka 2 kc]] w fun e w' => e = .returned (.bool (isP f x (gv f y).ty)) /\ Below w.heap.size w w' := by
 obtain ⟨b1, o1, rfl, hAt⟩ := hA.out (by simp)
 have k0 : w.cell? ⟨b1, o1, none⟩ = some (.int .i64 x) := by have := hAt.cell 0 (by simp); simpa using this
 have k1 : w.cell? ⟨b1, o1 + 1, none⟩ = some (.int .i64 y) := by have := hAt.cell 1 (by simp); simpa using this
 have hl1 := hAt.lt
 obtain ⟨j, b2, o2, xa, xl, xc, rfl, hj, hvn, rfl, hl2, c0, c1, c2, c3, hkl, hI⟩ := C.val hy
 generalize (gv f (j : Int)).ty = t at c1
 have A0 : Aft w (.cells #[.string s, .slice pa pn pc, .int .i64 r, .slice (some ⟨b2, o2, none⟩) vn vc, .slice ba bn bc, .slice fa fn fc] 77) (.cells #[.int .i64 13, .int .i64 2, .int .i64 imm, .slice (some ⟨b1, o1, none⟩) 2 kc] 25) ((w.alloc (.cells #[.string s, .slice pa pn pc, .int .i64 r, .slice (some ⟨b2, o2, none⟩) vn vc, .slice ba bn bc, .slice fa fn fc] 77)).alloc (.cells #[.int .i64 13, .int .i64 2, .int .i64 imm, .slice (some ⟨b1, o1, none⟩) 2 kc] 25)) := Aft.refl _ _ _
 obtain ⟨f0, f1, f2, f3, f4, f5⟩ := fcells A0.one
 obtain ⟨v0, v1, v2, v3⟩ := vcells A0.two
 have d0 := (A0.low.cell (p := ⟨b1, o1, none⟩) hl1).trans k0
 have d1 := (A0.low.cell (p := ⟨b1, o1 + 1, none⟩) hl1).trans k1
 have d2 := (A0.low.cell (p := ⟨b2, o2 + j * 4 + 1, none⟩) hl2).trans c1
 have hd : Below ((w.alloc (.cells #[.string s, .slice pa pn pc, .int .i64 r, .slice (some ⟨b2, o2, none⟩) vn vc, .slice ba bn bc, .slice fa fn fc] 77)).alloc (.cells #[.int .i64 13, .int .i64 2, .int .i64 imm, .slice (some ⟨b1, o1, none⟩) 2 kc] 25)).heap.size ((w.alloc (.cells #[.string s, .slice pa pn pc, .int .i64 r, .slice (some ⟨b2, o2, none⟩) vn vc, .slice ba bn bc, .slice fa fn fc] 77)).alloc (.cells #[.int .i64 13, .int .i64 2, .int .i64 imm, .slice (some ⟨b1, o1, none⟩) 2 kc] 25)) ((w.alloc (.cells #[.string s, .slice pa pn pc, .int .i64 r, .slice (some ⟨b2, o2, none⟩) vn vc, .slice ba bn bc, .slice fa fn fc] 77)).alloc (.cells #[.int .i64 13, .int .i64 2, .int .i64 imm, .slice (some ⟨b1, o1, none⟩) 2 kc] 25)).drew := (Below.refl _ _).drew
 have HD : Hid (Ctx ((w.alloc (.cells #[.string s, .slice pa pn pc, .int .i64 r, .slice (some ⟨b2, o2, none⟩) vn vc, .slice ba bn bc, .slice fa fn fc] 77)).alloc (.cells #[.int .i64 13, .int .i64 2, .int .i64 imm, .slice (some ⟨b1, o1, none⟩) 2 kc] 25)).drew s pa pn pc r (some ⟨b2, o2, none⟩) vn vc ba bn bc fa fn fc f FS) := C.below (A0.next hd).low (Nat.le_refl _)
 have S0 : (fun w' : World => w'.cell? ⟨w.heap.size, 0, none⟩ = some (.string s) /\ w'.cell? ⟨w.heap.size, 1, none⟩ = some (.slice pa pn pc) /\ w'.cell? ⟨w.heap.size, 2, none⟩ = some (.int .i64 r) /\ w'.cell? ⟨w.heap.size, 3, none⟩ = some (.slice (some ⟨b2, o2, none⟩) vn vc) /\ w'.cell? ⟨w.heap.size, 4, none⟩ = some (.slice ba bn bc) /\ w'.cell? ⟨w.heap.size, 5, none⟩ = some (.slice fa fn fc) /\ w'.cell? ⟨w.heap.size + 1, 1, none⟩ = some (.int .i64 2) /\ w'.cell? ⟨w.heap.size + 1, 3, none⟩ = some (.slice (some ⟨b1, o1, none⟩) 2 kc) /\ w'.cell? ⟨b1, o1, none⟩ = some (.int .i64 x) /\ w'.cell? ⟨b1, o1 + 1, none⟩ = some (.int .i64 (j : Int)) /\ w'.cell? ⟨b2, o2 + j * 4 + 1, none⟩ = some (.int .i64 t)) ((w.alloc (.cells #[.string s, .slice pa pn pc, .int .i64 r, .slice (some ⟨b2, o2, none⟩) vn vc, .slice ba bn bc, .slice fa fn fc] 77)).alloc (.cells #[.int .i64 13, .int .i64 2, .int .i64 imm, .slice (some ⟨b1, o1, none⟩) 2 kc] 25)).drew := ⟨f0, f1, f2, f3, f4, f5, v1, v3, d0, d1, d2⟩
 have HS : Hid (∀ w1, Below ((w.alloc (.cells #[.string s, .slice pa pn pc, .int .i64 r, .slice (some ⟨b2, o2, none⟩) vn vc, .slice ba bn bc, .slice fa fn fc] 77)).alloc (.cells #[.int .i64 13, .int .i64 2, .int .i64 imm, .slice (some ⟨b1, o1, none⟩) 2 kc] 25)).drew.heap.size ((w.alloc (.cells #[.string s, .slice pa pn pc, .int .i64 r, .slice (some ⟨b2, o2, none⟩) vn vc, .slice ba bn bc, .slice fa fn fc] 77)).alloc (.cells #[.int .i64 13, .int .i64 2, .int .i64 imm, .slice (some ⟨b1, o1, none⟩) 2 kc] 25)).drew w1 -> (fun w' : World => w'.cell? ⟨w.heap.size, 0, none⟩ = some (.string s) /\ w'.cell? ⟨w.heap.size, 1, none⟩ = some (.slice pa pn pc) /\ w'.cell? ⟨w.heap.size, 2, none⟩ = some (.int .i64 r) /\ w'.cell? ⟨w.heap.size, 3, none⟩ = some (.slice (some ⟨b2, o2, none⟩) vn vc) /\ w'.cell? ⟨w.heap.size, 4, none⟩ = some (.slice ba bn bc) /\ w'.cell? ⟨w.heap.size, 5, none⟩ = some (.slice fa fn fc) /\ w'.cell? ⟨w.heap.size + 1, 1, none⟩ = some (.int .i64 2) /\ w'.cell? ⟨w.heap.size + 1, 3, none⟩ = some (.slice (some ⟨b1, o1, none⟩) 2 kc) /\ w'.cell? ⟨b1, o1, none⟩ = some (.int .i64 x) /\ w'.cell? ⟨b1, o1 + 1, none⟩ = some (.int .i64 (j : Int)) /\ w'.cell? ⟨b2, o2 + j * 4 + 1, none⟩ = some (.int .i64 t)) w1) := fun w1 hb1 => by
  have A1 := (A0.next hd).next hb1
  obtain ⟨f0, f1, f2, f3, f4, f5⟩ := fcells A1.one
  obtain ⟨v0, v1, v2, v3⟩ := vcells A1.two
  exact ⟨f0, f1, f2, f3, f4, f5, v1, v3, (A1.low.cell (p := ⟨b1, o1, none⟩) hl1).trans k0, (A1.low.cell (p := ⟨b1, o1 + 1, none⟩) hl1).trans k1, (A1.low.cell (p := ⟨b2, o2 + j * 4 + 1, none⟩) hl2).trans c1⟩
 generalize hR : isP f x t = R
 have HA0 : Hid _ := A0
 clear C hA hAt k0 k1 c0 c1 c2 c3 hkl hI hy v0 v2
 go_enter Tryz.func96, Tryz.ntmps96
 go_wp2_with fail
 go_region_held (fun w' => w'.cell? ⟨w.heap.size, 0, none⟩ = some (.string s) /\ w'.cell? ⟨w.heap.size, 1, none⟩ = some (.slice pa pn pc) /\ w'.cell? ⟨w.heap.size, 2, none⟩ = some (.int .i64 r) /\ w'.cell? ⟨w.heap.size, 3, none⟩ = some (.slice (some ⟨b2, o2, none⟩) vn vc) /\ w'.cell? ⟨w.heap.size, 4, none⟩ = some (.slice ba bn bc) /\ w'.cell? ⟨w.heap.size, 5, none⟩ = some (.slice fa fn fc) /\ w'.cell? ⟨w.heap.size + 1, 1, none⟩ = some (.int .i64 2) /\ w'.cell? ⟨w.heap.size + 1, 3, none⟩ = some (.slice (some ⟨b1, o1, none⟩) 2 kc) /\ w'.cell? ⟨b1, o1, none⟩ = some (.int .i64 x) /\ w'.cell? ⟨b1, o1 + 1, none⟩ = some (.int .i64 (j : Int)) /\ w'.cell? ⟨b2, o2 + j * 4 + 1, none⟩ = some (.int .i64 t)) (first | exact S0 | exact S1)
  (first | (go_at_call 130; refine (is_at ((w.alloc (.cells #[.string s, .slice pa pn pc, .int .i64 r, .slice (some ⟨b2, o2, none⟩) vn vc, .slice ba bn bc, .slice fa fn fc] 77)).alloc (.cells #[.int .i64 13, .int .i64 2, .int .i64 imm, .slice (some ⟨b1, o1, none⟩) 2 kc] 25)).drew HD.out _ _ hx _ hR).mono ?_; rintro e w1 ⟨rfl, hb1⟩; have S1 := HS.out w1 hb1))
 all_goals go_wp2_with fail
 all_goals go_ret
 all_goals first | exact ⟨by simp, ((HA0.out.next hd).next hb1).low⟩ | exact ⟨rfl, ((HA0.out.next hd).next hb1).low⟩
set_option maxRecDepth 100000 in
set_option maxHeartbeats 4000000 in
theorem typeFits_yes14 (w : World) {s : ByteArray} {pa : Option Addr} {pn pc : Nat} {r : Int} {va : Option Addr} {vn vc : Nat} {ba : Option Addr} {bn bc : Nat} {fa : Option Addr} {fn fc : Nat} {f : Fu} {FS : List Fu} (C : Ctx w s pa pn pc r va vn vc ba bn bc fa fn fc f FS) (i : Nat) (imm : Int) (ka : Option Addr) (kc : Nat) (x y : Int) (hA : Ints w ka kc [x, y]) (hx : wi vn x = true) (hy : wi vn y = true) : Calls Tryz.prog 96 #[.agg #[.string s, .slice pa pn pc, .int .i64 r, .slice va vn vc, .slice ba bn bc, .slice fa fn fc], .int .i64 i, .agg #[.int .i64 14, .int .i64 2, .int .i64 imm, .slice ka 2 kc]] w fun e w' => e = .returned (.bool (isP f x (gv f y).ty)) /\ Below w.heap.size w w' := by
 obtain ⟨b1, o1, rfl, hAt⟩ := hA.out (by simp)
 have k0 : w.cell? ⟨b1, o1, none⟩ = some (.int .i64 x) := by have := hAt.cell 0 (by simp); simpa using this
 have k1 : w.cell? ⟨b1, o1 + 1, none⟩ = some (.int .i64 y) := by have := hAt.cell 1 (by simp); simpa using this
 have hl1 := hAt.lt
 obtain ⟨j, b2, o2, xa, xl, xc, rfl, hj, hvn, rfl, hl2, c0, c1, c2, c3, hkl, hI⟩ := C.val hy
 generalize (gv f (j : Int)).ty = t at c1
 have A0 : Aft w (.cells #[.string s, .slice pa pn pc, .int .i64 r, .slice (some ⟨b2, o2, none⟩) vn vc, .slice ba bn bc, .slice fa fn fc] 77) (.cells #[.int .i64 14, .int .i64 2, .int .i64 imm, .slice (some ⟨b1, o1, none⟩) 2 kc] 25) ((w.alloc (.cells #[.string s, .slice pa pn pc, .int .i64 r, .slice (some ⟨b2, o2, none⟩) vn vc, .slice ba bn bc, .slice fa fn fc] 77)).alloc (.cells #[.int .i64 14, .int .i64 2, .int .i64 imm, .slice (some ⟨b1, o1, none⟩) 2 kc] 25)) := Aft.refl _ _ _
 obtain ⟨f0, f1, f2, f3, f4, f5⟩ := fcells A0.one
 obtain ⟨v0, v1, v2, v3⟩ := vcells A0.two
 have d0 := (A0.low.cell (p := ⟨b1, o1, none⟩) hl1).trans k0
 have d1 := (A0.low.cell (p := ⟨b1, o1 + 1, none⟩) hl1).trans k1
 have d2 := (A0.low.cell (p := ⟨b2, o2 + j * 4 + 1, none⟩) hl2).trans c1
 have hd : Below ((w.alloc (.cells #[.string s, .slice pa pn pc, .int .i64 r, .slice (some ⟨b2, o2, none⟩) vn vc, .slice ba bn bc, .slice fa fn fc] 77)).alloc (.cells #[.int .i64 14, .int .i64 2, .int .i64 imm, .slice (some ⟨b1, o1, none⟩) 2 kc] 25)).heap.size ((w.alloc (.cells #[.string s, .slice pa pn pc, .int .i64 r, .slice (some ⟨b2, o2, none⟩) vn vc, .slice ba bn bc, .slice fa fn fc] 77)).alloc (.cells #[.int .i64 14, .int .i64 2, .int .i64 imm, .slice (some ⟨b1, o1, none⟩) 2 kc] 25)) ((w.alloc (.cells #[.string s, .slice pa pn pc, .int .i64 r, .slice (some ⟨b2, o2, none⟩) vn vc, .slice ba bn bc, .slice fa fn fc] 77)).alloc (.cells #[.int .i64 14, .int .i64 2, .int .i64 imm, .slice (some ⟨b1, o1, none⟩) 2 kc] 25)).drew := (Below.refl _ _).drew
 have HD : Hid (Ctx ((w.alloc (.cells #[.string s, .slice pa pn pc, .int .i64 r, .slice (some ⟨b2, o2, none⟩) vn vc, .slice ba bn bc, .slice fa fn fc] 77)).alloc (.cells #[.int .i64 14, .int .i64 2, .int .i64 imm, .slice (some ⟨b1, o1, none⟩) 2 kc] 25)).drew s pa pn pc r (some ⟨b2, o2, none⟩) vn vc ba bn bc fa fn fc f FS) := C.below (A0.next hd).low (Nat.le_refl _)
 have S0 : (fun w' : World => w'.cell? ⟨w.heap.size, 0, none⟩ = some (.string s) /\ w'.cell? ⟨w.heap.size, 1, none⟩ = some (.slice pa pn pc) /\ w'.cell? ⟨w.heap.size, 2, none⟩ = some (.int .i64 r) /\ w'.cell? ⟨w.heap.size, 3, none⟩ = some (.slice (some ⟨b2, o2, none⟩) vn vc) /\ w'.cell? ⟨w.heap.size, 4, none⟩ = some (.slice ba bn bc) /\ w'.cell? ⟨w.heap.size, 5, none⟩ = some (.slice fa fn fc) /\ w'.cell? ⟨w.heap.size + 1, 1, none⟩ = some (.int .i64 2) /\ w'.cell? ⟨w.heap.size + 1, 3, none⟩ = some (.slice (some ⟨b1, o1, none⟩) 2 kc) /\ w'.cell? ⟨b1, o1, none⟩ = some (.int .i64 x) /\ w'.cell? ⟨b1, o1 + 1, none⟩ = some (.int .i64 (j : Int)) /\ w'.cell? ⟨b2, o2 + j * 4 + 1, none⟩ = some (.int .i64 t)) ((w.alloc (.cells #[.string s, .slice pa pn pc, .int .i64 r, .slice (some ⟨b2, o2, none⟩) vn vc, .slice ba bn bc, .slice fa fn fc] 77)).alloc (.cells #[.int .i64 14, .int .i64 2, .int .i64 imm, .slice (some ⟨b1, o1, none⟩) 2 kc] 25)).drew := ⟨f0, f1, f2, f3, f4, f5, v1, v3, d0, d1, d2⟩
 have HS : Hid (∀ w1, Below ((w.alloc (.cells #[.string s, .slice pa pn pc, .int .i64 r, .slice (some ⟨b2, o2, none⟩) vn vc, .slice ba bn bc, .slice fa fn fc] 77)).alloc (.cells #[.int .i64 14, .int .i64 2, .int .i64 imm, .slice (some ⟨b1, o1, none⟩) 2 kc] 25)).drew.heap.size ((w.alloc (.cells #[.string s, .slice pa pn pc, .int .i64 r, .slice (some ⟨b2, o2, none⟩) vn vc, .slice ba bn bc, .slice fa fn fc] 77)).alloc (.cells #[.int .i64 14, .int .i64 2, .int .i64 imm, .slice (some ⟨b1, o1, none⟩) 2 kc] 25)).drew w1 -> (fun w' : World => w'.cell? ⟨w.heap.size, 0, none⟩ = some (.string s) /\ w'.cell? ⟨w.heap.size, 1, none⟩ = some (.slice pa pn pc) /\ w'.cell? ⟨w.heap.size, 2, none⟩ = some (.int .i64 r) /\ w'.cell? ⟨w.heap.size, 3, none⟩ = some (.slice (some ⟨b2, o2, none⟩) vn vc) /\ w'.cell? ⟨w.heap.size, 4, none⟩ = some (.slice ba bn bc) /\ w'.cell? ⟨w.heap.size, 5, none⟩ = some (.slice fa fn fc) /\ w'.cell? ⟨w.heap.size + 1, 1, none⟩ = some (.int .i64 2) /\ w'.cell? ⟨w.heap.size + 1, 3, none⟩ = some (.slice (some ⟨b1, o1, none⟩) 2 kc) /\ w'.cell? ⟨b1, o1, none⟩ = some (.int .i64 x) /\ w'.cell? ⟨b1, o1 + 1, none⟩ = some (.int .i64 (j : Int)) /\ w'.cell? ⟨b2, o2 + j * 4 + 1, none⟩ = some (.int .i64 t)) w1) := fun w1 hb1 => by
  have A1 := (A0.next hd).next hb1
  obtain ⟨f0, f1, f2, f3, f4, f5⟩ := fcells A1.one
  obtain ⟨v0, v1, v2, v3⟩ := vcells A1.two
  exact ⟨f0, f1, f2, f3, f4, f5, v1, v3, (A1.low.cell (p := ⟨b1, o1, none⟩) hl1).trans k0, (A1.low.cell (p := ⟨b1, o1 + 1, none⟩) hl1).trans k1, (A1.low.cell (p := ⟨b2, o2 + j * 4 + 1, none⟩) hl2).trans c1⟩
 generalize hR : isP f x t = R
 have HA0 : Hid _ := A0
 clear C hA hAt k0 k1 c0 c1 c2 c3 hkl hI hy v0 v2
 go_enter Tryz.func96, Tryz.ntmps96
 go_wp2_with fail
 go_region_held (fun w' => w'.cell? ⟨w.heap.size, 0, none⟩ = some (.string s) /\ w'.cell? ⟨w.heap.size, 1, none⟩ = some (.slice pa pn pc) /\ w'.cell? ⟨w.heap.size, 2, none⟩ = some (.int .i64 r) /\ w'.cell? ⟨w.heap.size, 3, none⟩ = some (.slice (some ⟨b2, o2, none⟩) vn vc) /\ w'.cell? ⟨w.heap.size, 4, none⟩ = some (.slice ba bn bc) /\ w'.cell? ⟨w.heap.size, 5, none⟩ = some (.slice fa fn fc) /\ w'.cell? ⟨w.heap.size + 1, 1, none⟩ = some (.int .i64 2) /\ w'.cell? ⟨w.heap.size + 1, 3, none⟩ = some (.slice (some ⟨b1, o1, none⟩) 2 kc) /\ w'.cell? ⟨b1, o1, none⟩ = some (.int .i64 x) /\ w'.cell? ⟨b1, o1 + 1, none⟩ = some (.int .i64 (j : Int)) /\ w'.cell? ⟨b2, o2 + j * 4 + 1, none⟩ = some (.int .i64 t)) (first | exact S0 | exact S1)
  (first | (go_at_call 130; refine (is_at ((w.alloc (.cells #[.string s, .slice pa pn pc, .int .i64 r, .slice (some ⟨b2, o2, none⟩) vn vc, .slice ba bn bc, .slice fa fn fc] 77)).alloc (.cells #[.int .i64 14, .int .i64 2, .int .i64 imm, .slice (some ⟨b1, o1, none⟩) 2 kc] 25)).drew HD.out _ _ hx _ hR).mono ?_; rintro e w1 ⟨rfl, hb1⟩; have S1 := HS.out w1 hb1))
 all_goals go_wp2_with fail
 all_goals go_ret
 all_goals first | exact ⟨by simp, ((HA0.out.next hd).next hb1).low⟩ | exact ⟨rfl, ((HA0.out.next hd).next hb1).low⟩
end Go.Proofs.YtfbkopjncmkbiabGreatDoor
