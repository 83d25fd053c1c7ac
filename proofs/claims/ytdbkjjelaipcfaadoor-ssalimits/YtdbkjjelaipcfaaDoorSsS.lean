import Derived.Test.YtdbkjjelaipcfaaDoorLsJ
set_option linter.unusedVariables false
set_option linter.unusedSimpArgs false
namespace Go.Proofs.YtdbkjjelaipcfaaDoor
open Go.ChangeShapes Go.WideShapes Go.ChangeAt Go.RowKit Go.Maps

theorem typeFits_const (w : World) {s : ByteArray} {pa : Option Addr} {pn pc : Nat} {r : Int} {va : Option Addr} {vn vc : Nat} {ba : Option Addr} {bn bc : Nat} {fa : Option Addr} {fn fc : Nat} {f : Fu} {FS : List Fu} (C : Ctx w s pa pn pc r va vn vc ba bn bc fa fn fc f FS) (i : Nat) (ty imm : Int) (ka : Option Addr) (kl kc : Nat) (A : List Int) (hkl : kl = A.length) (hA : Ints w ka kc A) (hx : ∀ x ∈ A, wi vn x = true) : Calls Tryd.prog 43 #[.agg #[.string s, .slice pa pn pc, .int .i64 r, .slice va vn vc, .slice ba bn bc, .slice fa fn fc], .int .i64 i, .agg #[.int .i64 1, .int .i64 ty, .int .i64 imm, .slice ka kl kc]] w fun e w' => e = .returned (.bool (constP ty imm)) ∧ Below w.heap.size w w' := by
  have A0 : Aft w (.cells #[.string s, .slice pa pn pc, .int .i64 r, .slice va vn vc, .slice ba bn bc, .slice fa fn fc] 47) (.cells #[.int .i64 1, .int .i64 ty, .int .i64 imm, .slice ka kl kc] 25) ((w.alloc (.cells #[.string s, .slice pa pn pc, .int .i64 r, .slice va vn vc, .slice ba bn bc, .slice fa fn fc] 47)).alloc (.cells #[.int .i64 1, .int .i64 ty, .int .i64 imm, .slice ka kl kc] 25)) := Aft.refl _ _ _
  have HT : Hid _ := constantFits_any ((w.alloc (.cells #[.string s, .slice pa pn pc, .int .i64 r, .slice va vn vc, .slice ba bn bc, .slice fa fn fc] 47)).alloc (.cells #[.int .i64 1, .int .i64 ty, .int .i64 imm, .slice ka kl kc] 25)) 1 ty imm ka kl kc
  generalize constP ty imm = R at HT
  clear C hA hx hkl
  go_enter Tryd.func43, Tryd.ntmps43
  go_wp2_with (go_at_call 68; refine Calls.mono HT.out ?_; rintro e w1 ⟨rfl, hb1⟩)
  go_ret
  exact ⟨rfl, (A0.next hb1).low⟩
theorem typeFits_param (w : World) {s : ByteArray} {pa : Option Addr} {pn pc : Nat} {r : Int} {va : Option Addr} {vn vc : Nat} {ba : Option Addr} {bn bc : Nat} {fa : Option Addr} {fn fc : Nat} {f : Fu} {FS : List Fu} (C : Ctx w s pa pn pc r va vn vc ba bn bc fa fn fc f FS) (i : Nat) (ty imm : Int) (ka : Option Addr) (kl kc : Nat) (A : List Int) (hkl : kl = A.length) (hA : Ints w ka kc A) (hx : ∀ x ∈ A, wi vn x = true) : Calls Tryd.prog 43 #[.agg #[.string s, .slice pa pn pc, .int .i64 r, .slice va vn vc, .slice ba bn bc, .slice fa fn fc], .int .i64 i, .agg #[.int .i64 33, .int .i64 ty, .int .i64 imm, .slice ka kl kc]] w fun e w' => e = .returned (.bool (isTy ty)) ∧ Below w.heap.size w w' := by
  have A0 : Aft w (.cells #[.string s, .slice pa pn pc, .int .i64 r, .slice va vn vc, .slice ba bn bc, .slice fa fn fc] 47) (.cells #[.int .i64 33, .int .i64 ty, .int .i64 imm, .slice ka kl kc] 25) ((w.alloc (.cells #[.string s, .slice pa pn pc, .int .i64 r, .slice va vn vc, .slice ba bn bc, .slice fa fn fc] 47)).alloc (.cells #[.int .i64 33, .int .i64 ty, .int .i64 imm, .slice ka kl kc] 25)) := Aft.refl _ _ _
  generalize hR : isTy ty = R
  clear C hA hx hkl
  go_enter Tryd.func43, Tryd.ntmps43
  go_wp2_with (go_at_call 57; refine (isType_at _ _ _ hR).mono ?_; rintro e w' ⟨rfl, rfl⟩)
  go_ret
  exact ⟨rfl, A0.low⟩
theorem typeFits_phi (w : World) {s : ByteArray} {pa : Option Addr} {pn pc : Nat} {r : Int} {va : Option Addr} {vn vc : Nat} {ba : Option Addr} {bn bc : Nat} {fa : Option Addr} {fn fc : Nat} {f : Fu} {FS : List Fu} (C : Ctx w s pa pn pc r va vn vc ba bn bc fa fn fc f FS) (i : Nat) (ty imm : Int) (ka : Option Addr) (kl kc : Nat) (A : List Int) (hkl : kl = A.length) (hA : Ints w ka kc A) (hx : ∀ x ∈ A, wi vn x = true) : Calls Tryd.prog 43 #[.agg #[.string s, .slice pa pn pc, .int .i64 r, .slice va vn vc, .slice ba bn bc, .slice fa fn fc], .int .i64 i, .agg #[.int .i64 32, .int .i64 ty, .int .i64 imm, .slice ka kl kc]] w fun e w' => e = .returned (.bool (isTy ty && A.all (fun x => isP f x ty))) ∧ Below w.heap.size w w' := by
  have A0 : Aft w (.cells #[.string s, .slice pa pn pc, .int .i64 r, .slice va vn vc, .slice ba bn bc, .slice fa fn fc] 47) (.cells #[.int .i64 32, .int .i64 ty, .int .i64 imm, .slice ka kl kc] 25) ((w.alloc (.cells #[.string s, .slice pa pn pc, .int .i64 r, .slice va vn vc, .slice ba bn bc, .slice fa fn fc] 47)).alloc (.cells #[.int .i64 32, .int .i64 ty, .int .i64 imm, .slice ka kl kc] 25)) := Aft.refl _ _ _
  have HC : Hid _ := C.below A0.low (Nat.le_refl _)
  have HA : Hid _ := hA.below A0.low (Nat.le_refl _)
  have HL : Hid (kl = A.length) := hkl
  have HX : Hid (∀ x ∈ A, wi vn x = true) := hx
  clear C hA hx hkl
  cases hq : isTy ty with
  | false =>
    go_enter Tryd.func43, Tryd.ntmps43
    go_wp2_with (go_at_call 57; refine (isType_at _ _ _ hq).mono ?_; rintro e w' ⟨rfl, rfl⟩)
    go_ret
    exact ⟨rfl, A0.low⟩
  | true =>
    generalize hR : A.all (fun x => isP f x ty) = R
    go_enter Tryd.func43, Tryd.ntmps43
    go_wp2_with (first
      | (go_at_call 57; refine (isType_at _ _ _ hq).mono ?_; rintro e w' ⟨rfl, rfl⟩)
      | (go_at_call 25; refine (everyT1_at _ HC.out w.heap.size (w.heap.size + 1) A0.one A0.two _ _ _ A HL.out HA.out HX.out _ hR).mono ?_; rintro e w1 ⟨rfl, hb1⟩))
    go_ret
    exact ⟨by simp, (A0.next hb1).low⟩
theorem typeFits_call (w : World) {s : ByteArray} {pa : Option Addr} {pn pc : Nat} {r : Int} {va : Option Addr} {vn vc : Nat} {ba : Option Addr} {bn bc : Nat} {fa : Option Addr} {fn fc : Nat} {f : Fu} {FS : List Fu} (C : Ctx w s pa pn pc r va vn vc ba bn bc fa fn fc f FS) (i : Nat) (ty imm : Int) (ka : Option Addr) (kl kc : Nat) (A : List Int) (hkl : kl = A.length) (hA : Ints w ka kc A) (hx : ∀ x ∈ A, wi vn x = true) (hi : wi fn imm = true) (hcnt : kl = (FS.getD imm.toNat noF).params.length) (hfs : ∀ G ∈ FS, formP FS G = true) : Calls Tryd.prog 43 #[.agg #[.string s, .slice pa pn pc, .int .i64 r, .slice va vn vc, .slice ba bn bc, .slice fa fn fc], .int .i64 i, .agg #[.int .i64 25, .int .i64 ty, .int .i64 imm, .slice ka kl kc]] w fun e w' => e = .returned (.bool (callP f FS ty imm A)) ∧ Below w.heap.size w w' := by
  have A0 : Aft w (.cells #[.string s, .slice pa pn pc, .int .i64 r, .slice va vn vc, .slice ba bn bc, .slice fa fn fc] 47) (.cells #[.int .i64 25, .int .i64 ty, .int .i64 imm, .slice ka kl kc] 25) ((w.alloc (.cells #[.string s, .slice pa pn pc, .int .i64 r, .slice va vn vc, .slice ba bn bc, .slice fa fn fc] 47)).alloc (.cells #[.int .i64 25, .int .i64 ty, .int .i64 imm, .slice ka kl kc] 25)) := Aft.refl _ _ _
  have HT : Hid _ := callFits_any ((w.alloc (.cells #[.string s, .slice pa pn pc, .int .i64 r, .slice va vn vc, .slice ba bn bc, .slice fa fn fc] 47)).alloc (.cells #[.int .i64 25, .int .i64 ty, .int .i64 imm, .slice ka kl kc] 25)) (C.below A0.low (Nat.le_refl _)) 25 ty imm ka kl kc A hkl (hA.below A0.low (Nat.le_refl _)) hx hi hcnt hfs
  generalize callP f FS ty imm A = R at HT
  clear C hA hx hkl hi hcnt hfs
  go_enter Tryd.func43, Tryd.ntmps43
  go_wp2_with (go_at_call 70; refine Calls.mono HT.out ?_; rintro e w1 ⟨rfl, hb1⟩)
  go_ret
  exact ⟨rfl, (A0.next hb1).low⟩
theorem everyT2_at (w : World) {s : ByteArray} {pa : Option Addr} {pn pc : Nat} {r : Int} {va : Option Addr} {vn vc : Nat} {ba : Option Addr} {bn bc : Nat} {fa : Option Addr} {fn fc : Nat} {f : Fu} {FS : List Fu} (C : Ctx w s pa pn pc r va vn vc ba bn bc fa fn fc f FS) (fb hbk : Nat) (hf : w.heap[fb]? = some (.cells #[.string s, .slice pa pn pc, .int .i64 r, .slice va vn vc, .slice ba bn bc, .slice fa fn fc] 47 (0, 0))) {H : Shp} (hh : w.heap[hbk]? = some (.cells #[.int .i64 H.count, .int .i64 H.a0, .int .i64 H.a1, .int .i64 H.a2, .int .i64 H.gives] 96 (0, 0))) (ao : Option Addr) (n c : Nat) (L : List Int) (hn : n = L.length) (h3 : n ≤ 3) (hL : Ints w ao c L) (hx : ∀ x ∈ L, wi vn x = true) (R : Bool) (hR : evr (fun i x => isP f x (shA H i)) 0 L = R) :
    Calls Tryd.prog 25 #[.slice ao n c, .func (.func 73) #[] #[.pointer (some ⟨fb, 0, none⟩), .pointer (some ⟨hbk, 0, none⟩)]] w fun e w' => e = .returned (.bool R) ∧ Below w.heap.size w w' := by
  subst hR
  refine everyI_any w ao c n L hn hL _ _ _ opens_t2 _ (Asks.two fun W i x hi hb hv' => ?_)
  obtain rfl := hv'.out
  exact types2_any W (C.below hb (Nat.le_refl _)) fb hbk ((hb.block _ (Array.getElem?_eq_some_iff.1 hf).1).trans hf) ((hb.block _ (Array.getElem?_eq_some_iff.1 hh).1).trans hh) i (by omega) L[i] (hx _ (List.getElem_mem hi))
end Go.Proofs.YtdbkjjelaipcfaaDoor
