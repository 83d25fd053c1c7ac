import Derived.Test.YtjiaedckecfjbaaDoorCyL
set_option linter.unusedVariables false
set_option linter.unusedSimpArgs false
namespace Go.Proofs.YtjiaedckecfjbaaDoor
open Go.ChangeShapes Go.WideShapes Go.ChangeAt Go.RowKit Go.Maps Go.WideMaps

/-- Bytes as numbers. -/
def nbs (L : List UInt8) : List Int := L.map fun x => (x.toNat : Int)
theorem nbs_len (L : List UInt8) : (nbs L).length = L.length := List.length_map _
theorem nbs_in (L : List UInt8) : Byts (nbs L) := fun x hx => by
  obtain ⟨c, _, rfl⟩ := List.mem_map.1 hx
  have := c.toNat_lt
  omega
theorem iby_txt {W : World} {ao : Option Addr} {cap : Nat} {L : List UInt8} (h : Txt W ao cap L) : IBy W ao L.length (nbs L) :=
  ⟨(nbs_len L).symm, nbs_in L, fun hn => by
    obtain ⟨b, o, e, hl, hc⟩ := h.2.2 (by intro e; rw [e] at hn; simp at hn)
    refine ⟨b, o, e, hl, fun i hi => ?_⟩
    rw [nbs_len] at hi
    rw [hc i hi]
    congr 2
    simp [nbs]⟩
theorem IBy.keep {W W' ao n B} (h : IBy W ao n B) (b : Below W.heap.size W W') : IBy W' ao n B := h.below b
theorem flat_least {α : Type} (f : α → List Int) (k : Nat) (h : ∀ x, k ≤ (f x).length) : ∀ L : List α, L.length * k ≤ (L.flatMap f).length
  | [] => by simp
  | x :: L => by
    have := flat_least f k h L
    have := h x
    rw [List.flatMap_cons, List.length_append, List.length_cons, Nat.add_mul, Nat.one_mul]
    omega
set_option maxRecDepth 100000 in
set_option maxHeartbeats 8000000 in
theorem codeOneForm_any (w : World) (hTab : Tab w) (ao : Option Addr) (n cap : Nat) (B : List Int) (hB : IBy w ao n B) (hc : n ≤ cap) (hm : cap ≤ 9223372036854775807) :
    Calls Tryd.prog 4 #[.slice ao n cap] w fun e w' => SamP w w' true e := by
  have HT : Hid (Tab w) := hTab
  have HB : Hid (IBy w ao n B) := hB
  have HNU : Hid (∀ W x, Calls Tryd.prog 12 #[.int .i64 x] W fun e w' => e = .returned (.int .i64 x) ∧ W = w') := fun W x => (num_any W x).mono fun e w' h => ⟨h.1, h.2.symm⟩
  have HAL : Hid (Calls Tryd.prog 10 #[] w fun e w' => SamP w w' true e) := aliveC_any w hTab
  clear hTab hB
  by_cases hn : 1048576 < n
  · have hni : decide ((1048576 : Int) < (n : Int)) = true := by simp; omega
    clear hn
    go_enter Tryd.func4, Tryd.ntmps4
    go_wp2_with fail
    go_ret
    exact ⟨⟨rfl, Below.refl _ _⟩⟩
  · have hni : decide ((1048576 : Int) < (n : Int)) = false := by simp; omega
    have HN : Hid (n ≤ 1048576 ∧ n ≤ cap) := ⟨by omega, hc⟩
    clear hn
    go_enter Tryd.func4, Tryd.ntmps4
    go_wp2_with fail
    refine Calls.mono HAL.out ?_
    intro e w2 q
    have hq := q.out.1
    subst hq
    have HB2 : Hid (Below w.heap.size w w2) := q.out.2
    clear q HAL
    have HRE : Hid (Calls Tryd.prog 13 #[.slice ao n cap] w2 fun e w' => ReadP w2 w' n B e) := rRead_any (HB.out.below HB2.out) (HT.out.below HB2.out HT.out.1) ⟨hc, hm, by have := HN.out; omega⟩
    have hni2 : n ≤ 268435456 := by have := HN.out; omega
    cases hr : rdCode B with
    | error at_ =>
      have HP : Hid (at_ ≤ n) := by have q := rdCode_err hr; rw [← HB.out.len] at q; exact q
      have HRP : Hid (∀ w' e, ReadP w2 w' n B e → e = .returned (.tuple #[.agg #[.slice none 0 0, .slice none 0 0, .int .i64 0], .int .i64 (at_ : Int), .int .i64 220]) ∧ Below w2.heap.size w2 w') := fun w' e q => ⟨q.bad hni2 _ hr, q.low⟩
      clear hr hni2 hc hm
      go_wp2_with fail
      refine Calls.mono HRE.out ?_
      intro e w5 q
      obtain ⟨he, hl⟩ := HRP.out w5 e q
      obtain ⟨W6, hW6⟩ : ∃ W6, W6 = w5.alloc (.cells #[.slice none 0 0, .slice none 0 0, .int .i64 0] 25) := ⟨_, rfl⟩
      obtain ⟨p2, hp2⟩ : ∃ p2, p2 = w5.heap.size := ⟨_, rfl⟩
      have b6 : Below w5.heap.size w5 W6 := by rw [hW6]; exact below_newX _ _
      have HL6 : Hid (Below w.heap.size w W6) := (HB2.out.trans (hl.mono HB2.out.size)).trans (b6.mono (Nat.le_trans HB2.out.size hl.size))
      have hbx : W6.heap[p2]? = some (.cells #[.slice none 0 0, .slice none 0 0, .int .i64 0] 25 (0, 0)) := by rw [hW6, hp2]; exact heap_alloc_new _ _
      have z0 : W6.cell? ⟨p2, 0, none⟩ = some (.slice none 0 0) := cell_arr hbx rfl
      have z1 : W6.cell? ⟨p2, 1, none⟩ = some (.slice none 0 0) := cell_arr hbx rfl
      have z2 : W6.cell? ⟨p2, 2, none⟩ = some (.int .i64 0) := cell_arr hbx rfl
      have lp := (Array.getElem?_eq_some_iff.1 hbx).1
      subst he
      clear q hl HRE b6 hbx HRP
      go_upto_region 5 with fail
      rw [← hW6, ← hp2]
      clear hW6 hp2
      have g1 : decide ((0 : Int) ≤ (at_ : Int)) = true := by simp
      have g2 : decide ((at_ : Int) ≤ (n : Int)) = true := by have := HP.out; simp; omega
      go_wp2_with (go_at_call 12; refine (HNU.out _ _).mono ?_; rintro e w9 ⟨rfl, rfl⟩)
      go_ret
      exact ⟨⟨rfl, HL6.out⟩⟩
    | ok cd =>
      obtain ⟨m, FS, L⟩ := cd
      have HR : Hid (formR L FS m = true ∧ wrC L FS m = B ∧ CdN L FS m) := by
        obtain ⟨q1, q2, q3, q4, q5⟩ := rdCode_back HB.out.by_ hr
        exact ⟨q1, q2, fun x hx => q3 x hx, q4, q5⟩
      have HZ : Hid (szC L FS = n) := by
        show szC L FS = n
        rw [← wrC_len L FS m, HR.out.2.1, HB.out.len]
      have HLN : Hid (L.length ≤ n ∧ FS.length * 14 ≤ n ∧ 0 < n) := by
        show _ ∧ _ ∧ _
        have q := HZ.out
        have q1 := flat_least wrI 1 (fun x => by rw [wrI_len]; omega) L
        have q2 := flat_least wrR 14 (fun x => by rw [wrR_len]; omega) FS
        unfold szC at q
        rw [fwB_all, iwB_all] at q
        omega
      have HRP : Hid (∀ w' e, ReadP w2 w' n B e → (∃ gi gf fc, e = .returned (.tuple #[.agg #[.slice (some ⟨gi, 0, none⟩) L.length L.length, .slice (some ⟨gf, 0, none⟩) FS.length fc, .int .i64 m], .int .i64 0, .int .i64 0]) ∧ w'.ownsRow w2.heap.size 55 5 (.slice (some ⟨gi, 0, none⟩) L.length L.length) L.length (L.map riv).flatten ∧ Row w' w2.heap.size 40 5 (.slice (some ⟨gf, 0, none⟩) FS.length fc) (FS.map rfv)) ∧ Below w2.heap.size w2 w') := fun w' e q => by
        obtain ⟨gi, gf, fc, h1, h2, h3, -⟩ := q.ok hni2 _ _ _ hr
        exact ⟨⟨gi, gf, fc, h1, h2, h3⟩, q.low⟩
      obtain ⟨bb, oo, hao, -, -⟩ := HB.out.out HLN.out.2.2
      subst hao
      clear hr hni2 hc hm
      have HCF : Hid (0 < L.length ∧ 0 < FS.length) := form_some HR.out.1
      obtain ⟨cn, hcn⟩ : ∃ cn, cn = L.length := ⟨_, rfl⟩
      obtain ⟨fn, hfn⟩ : ∃ fn, fn = FS.length := ⟨_, rfl⟩
      have HL : Hid (cn = L.length ∧ fn = FS.length) := ⟨hcn, hfn⟩
      clear hcn hfn
      go_wp2_with fail
      refine Calls.mono HRE.out ?_
      intro e w5 q
      obtain ⟨⟨gi, gf, fc', he, hro, hrf⟩, hl⟩ := HRP.out w5 e q
      rw [← HL.out.1, ← HL.out.2] at he
      obtain ⟨W6, hW6⟩ : ∃ W6, W6 = w5.alloc (.cells #[.slice (some ⟨gi, 0, none⟩) cn cn, .slice (some ⟨gf, 0, none⟩) fn fc', .int .i64 m] 25) := ⟨_, rfl⟩
      obtain ⟨p2, hp2⟩ : ∃ p2, p2 = w5.heap.size := ⟨_, rfl⟩
      have b6 : Below w5.heap.size w5 W6 := by rw [hW6]; exact below_newX _ _
      have HL6 : Hid (Below w.heap.size w W6) := (HB2.out.trans (hl.mono HB2.out.size)).trans (b6.mono (Nat.le_trans HB2.out.size hl.size))
      have HB6 : Hid (BrS W6 p2 gi gf fc' m L FS) := by
        have z := rowSts (⟨by rw [List.length_map]; exact hro, fun x hx => by obtain ⟨y, _, rfl⟩ := List.mem_map.1 hx; rfl⟩ : Row w5 w2.heap.size 55 5 (.slice (some ⟨gi, 0, none⟩) L.length L.length) (L.map riv)) (by rw [List.length_map]; exact HCF.out.1) (by omega) (riv_one L)
        have z2 := rowSts hrf (by rw [List.length_map]; exact HCF.out.2) (by omega) (rfv_one FS)
        exact ⟨by rw [hW6, hp2, HL.out.1, HL.out.2]; exact heap_alloc_new _ _, z.2.1.below b6 (Nat.le_refl _), z2.2.1.below b6 (Nat.le_refl _)⟩
      have z0 : W6.cell? ⟨p2, 0, none⟩ = some (.slice (some ⟨gi, 0, none⟩) cn cn) := by rw [HL.out.1]; exact cell_arr HB6.out.bx rfl
      have z1 : W6.cell? ⟨p2, 1, none⟩ = some (.slice (some ⟨gf, 0, none⟩) fn fc') := by rw [HL.out.2]; exact cell_arr HB6.out.bx rfl
      have z2 : W6.cell? ⟨p2, 2, none⟩ = some (.int .i64 m) := cell_arr HB6.out.bx rfl
      have lp := (Array.getElem?_eq_some_iff.1 HB6.out.bx).1
      have HWR : Hid (Calls Tryd.prog 11 #[.agg #[.slice (some ⟨gi, 0, none⟩) cn cn, .slice (some ⟨gf, 0, none⟩) fn fc', .int .i64 m]] W6 fun e w' => WrA W6 w' L FS m e) := write_any W6 (HT.out.below HL6.out HT.out.1) _ cn cn _ fn fc' m L FS HL.out.1 HL.out.2 (by rw [HL.out.1]; exact HB6.out.c) HB6.out.f (by have := HLN.out; have := HN.out; have := HL.out; omega) (by have := HLN.out; have := HN.out; have := HL.out; omega) HR.out.2.2
      subst he
      clear q hro hrf HRE b6 hl HRP
      go_upto_region 5 with fail
      rw [← hW6, ← hp2]
      clear hW6 hp2
      go_wp2_with (go_at_call 12; refine (HNU.out _ _).mono ?_; rintro e w9 ⟨rfl, rfl⟩)
      refine Calls.mono HWR.out ?_
      intro e w7 q
      obtain ⟨b, he, hb, -⟩ := q.ok HR.out.1 (by have := HZ.out; have := HN.out; omega)
      rw [HZ.out] at he
      rw [HR.out.2.1] at hb
      have HL7 : Hid (Below w.heap.size w w7) := HL6.out.trans (q.low.mono HL6.out.size)
      have k1 : (convert 28 9 (.slice (some ⟨b, 0, none⟩) n n)).run Tryd.prog w7 = .ok (.string (bs (txB B))) w7 := by
        have z := iby_exact hb HB.out.by_
        rw [← HB.out.len] at z
        exact z.conv HLN.out.2.2
      have k2 : (convert 28 9 (.slice (some ⟨bb, oo, none⟩) n cap)).run Tryd.prog w7 = .ok (.string (bs (txB B))) w7 := (HB.out.below HL7.out).conv HLN.out.2.2
      subst he
      clear q hb HWR z0 z1 z2 lp
      go_wp2_with (go_at_call 12; refine (HNU.out _ _).mono ?_; rintro e w9 ⟨rfl, rfl⟩)
      go_ret
      exact ⟨⟨rfl, HL7.out⟩⟩
end Go.Proofs.YtjiaedckecfjbaaDoor
