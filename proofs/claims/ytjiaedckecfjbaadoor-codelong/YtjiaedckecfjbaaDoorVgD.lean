import Derived.Test.YtjiaedckecfjbaaDoorVgC
set_option linter.unusedVariables false
set_option linter.unusedSimpArgs false
namespace Go.Proofs.YtjiaedckecfjbaaDoor
open Go.ChangeShapes Go.WideShapes Go.ChangeAt Go.RowKit Go.Maps Go.WideMaps

/-- Structs in a block of their own. -/
theorem stsG_exactC {w : World} {g z : Nat} {xs : List (List Value)} {A : Array Value} {t : TypeId} (h : w.heap[g]? = some (.cells A t (0, 0))) (hA : A = xs.flatten.toArray) (hl : (xs.all fun x => x.length == z) = true) (h1 : (xs.flatten.all fun u => u.oneCell') = true) (hm : xs.length ≤ 9223372036854775807) : StsG w (some ⟨g, 0, none⟩) xs.length z xs :=
  ⟨Nat.le_refl _, hm, fun x hx => by simpa using List.all_eq_true.1 hl x hx, fun u hu => List.all_eq_true.1 h1 u hu, fun _ => ⟨g, 0, rfl, (Array.getElem?_eq_some_iff.1 h).1, fun j u hu => by
    rw [Nat.zero_add]
    exact cell_arr h (by rw [hA]; simpa using hu)⟩⟩
/-- The code of the chapter's example, its bytes. -/
def sC : List Ri := [⟨27, 0, 0, 0, 0⟩]
def sF : List Rf := [⟨⟨#[109, 97, 105, 110]⟩, 2, 0, 1, 0⟩]
def wantB : List Int := [113, 114, 49, 54, 1, 0, 0, 0, 0, 0, 0, 0, 4, 109, 97, 105, 110, 2, 0, 0, 0, 0, 0, 0, 0, 1, 0, 0, 0, 0, 27]
def wantA : Array Value := #[.int .u8 113, .int .u8 114, .int .u8 49, .int .u8 54, .int .u8 1, .int .u8 0, .int .u8 0, .int .u8 0, .int .u8 0, .int .u8 0, .int .u8 0, .int .u8 0, .int .u8 4, .int .u8 109, .int .u8 97, .int .u8 105, .int .u8 110, .int .u8 2, .int .u8 0, .int .u8 0, .int .u8 0, .int .u8 0, .int .u8 0, .int .u8 0, .int .u8 0, .int .u8 1, .int .u8 0, .int .u8 0, .int .u8 0, .int .u8 0, .int .u8 27]
theorem want_u8 : u8s wantB = wantA := rfl
theorem want_in : ∀ x ∈ wantB, 0 ≤ x ∧ x < 256 := by decide
set_option maxRecDepth 100000 in
theorem s_form : formR sC sF 0 = true := by decide
set_option maxRecDepth 100000 in
theorem s_wr : wrC sC sF 0 = wantB := by decide
set_option maxRecDepth 100000 in
theorem s_less : rdCode (wantB.take 30) = .error 30 := by kernel_rfl
theorem s_rd : rdCode wantB = .ok (0, sF, sC) := by
  rw [← s_wr]
  exact rdCode_wr s_form (by intro x hx; simp [sC] at hx; subst hx; decide) (by decide) (by decide)
theorem s_sz : szC sC sF = 31 := by rw [← wrC_len sC sF 0, s_wr]; rfl
theorem s_cdn : CdN sC sF 0 := by
  refine ⟨fun x hx => ?_, fun f hf => ?_, by unfold Fits; omega⟩
  · simp [sC] at hx
    subst hx
    unfold Fits
    decide
  · simp [sF] at hf
    subst hf
    unfold Fits
    decide
/-- What sample answers. -/
structure SmpP (w w' : World) (e : Ending) : Prop where
  out : ∃ ca cc fa fc, e = .returned (.agg #[.slice ca 1 cc, .slice fa 1 fc, .int .i64 0]) ∧ StsG w' ca cc 5 (sC.map riv) ∧ StsG w' fa fc 5 (sF.map rfv) ∧ Below w.heap.size w w'
set_option maxRecDepth 100000 in
set_option maxHeartbeats 4000000 in
theorem sampleC_any (w : World) : Calls Tryd.prog 15 #[] w fun e w' => SmpP w w' e := by
  obtain ⟨b, h0, h1, h2, -⟩ := three_new w (.cells #[.slice (some ⟨w.heap.size + 1, 0, none⟩) 1 1, .slice (some ⟨w.heap.size + 2, 0, none⟩) 1 1, .int .i64 0] 25) (.cells #[.int .i64 27, .int .i64 0, .int .i64 0, .int .i64 0, .int .i64 0] 55) (.cells #[.string ⟨#[109, 97, 105, 110]⟩, .int .i64 2, .int .i64 0, .int .i64 1, .int .i64 0] 40)
  have HB : Hid _ := b
  have H0 : Hid _ := h0
  have H1 : Hid _ := h1
  have H2 : Hid _ := h2
  clear b h0 h1 h2
  go_enter Tryd.func15, Tryd.ntmps15
  go_wp2_with fail
  refine bodyPost_ret (v := .agg #[.slice (some ⟨w.heap.size + 1, 0, none⟩) 1 1, .slice (some ⟨w.heap.size + 2, 0, none⟩) 1 1, .int .i64 0]) ?_ rfl ⟨⟨_, 1, _, 1, rfl, stsG_exactC (xs := sC.map riv) H1.out rfl rfl rfl (by decide), stsG_exactC (xs := sF.map rfv) H2.out rfl rfl rfl (by decide), HB.out⟩⟩
  exact results_cell_row Tryd.results15 _ _ w.heap.size 25 _ (0, 0) _ rfl H0.out Tryd.underlying25 rfl (by kernel_rfl)
/-- Bytes in a block of their own. -/
theorem iby_exact {W : World} {b : Nat} {B : List Int} (h : W.heap[b]? = some (.cells (u8s B) 5 (0, 0))) (hB : ∀ x ∈ B, 0 ≤ x ∧ x < 256) : IBy W (some ⟨b, 0, none⟩) B.length B :=
  ⟨rfl, hB, fun _ => ⟨b, 0, rfl, (Array.getElem?_eq_some_iff.1 h).1, fun i hi => by
    rw [Nat.zero_add]
    exact cell_arr h (by unfold u8s; simp [hi])⟩⟩
theorem IBy.take {W ao n B} (h : IBy W ao n B) {k : Nat} (hk : k ≤ n) : IBy W ao k (B.take k) :=
  ⟨by rw [List.length_take, ← h.len]; omega, fun x hx => h.by_ x (List.mem_of_mem_take hx), fun h0 => by
    obtain ⟨b, o, e, hl, hc⟩ := h.out (by omega)
    refine ⟨b, o, e, hl, fun i hi => ?_⟩
    rw [List.length_take] at hi
    rw [hc i (by omega), List.getElem_take]⟩
/-- Bytes as a text. -/
def txB (B : List Int) : List UInt8 := B.map fun x => UInt8.ofNat x.toNat
theorem IBy.conv {W : World} {b o n c : Nat} {B : List Int} (h : IBy W (some ⟨b, o, none⟩) n B) (hn : 0 < n) : (convert 28 9 (.slice (some ⟨b, o, none⟩) n c)).run Tryd.prog W = .ok (.string (bs (txB B))) W := by
  obtain ⟨b', o', e, hl, hc⟩ := h.out hn
  cases e
  have hT : (txB B).length = n := by unfold txB; rw [List.length_map, h.len]
  have hA : At W b o (txB B) := ⟨hl, fun i hi => by
    have hi2 : i < B.length := by rw [← h.len]; omega
    have hx := h.by_ _ (List.getElem_mem hi2)
    rw [hc i hi2]
    have e : (txB B)[i] = UInt8.ofNat (B[i].toNat) := List.getElem_map _
    rw [e]
    congr 2
    rw [UInt8.toNat_ofNat']
    omega⟩
  have q := hA.conv c
  rw [hT] at q
  exact q
/-- What alive has when it compares. -/
structure AlS (w W : World) (b wb pb gi : Nat) (fa : Option Addr) (fc : Nat) : Prop where
  bt : W.heap[b]? = some (.cells (u8s wantB) 5 (0, 0))
  wt : W.heap[wb]? = some (.cells (u8s wantB) 5 (0, 0))
  bx : W.heap[pb]? = some (.cells #[.slice (some ⟨gi, 0, none⟩) 1 1, .slice fa 1 fc, .int .i64 0] 25 (0, 0))
  c : StsG W (some ⟨gi, 0, none⟩) 1 5 (sC.map riv)
  f : StsG W fa fc 5 (sF.map rfv)
  low : Below w.heap.size w W
theorem AlS.keep {w W W' b wb pb gi fa fc} (h : AlS w W b wb pb gi fa fc) (k : Below W.heap.size W W') : AlS w W' b wb pb gi fa fc :=
  ⟨(k.block _ (Array.getElem?_eq_some_iff.1 h.bt).1).trans h.bt, (k.block _ (Array.getElem?_eq_some_iff.1 h.wt).1).trans h.wt, (k.block _ (Array.getElem?_eq_some_iff.1 h.bx).1).trans h.bx, h.c.below k (Nat.le_refl _), h.f.below k (Nat.le_refl _), h.low.trans (k.mono h.low.size)⟩
set_option maxRecDepth 100000 in
set_option maxHeartbeats 8000000 in
theorem aliveC_any (w : World) (hTab : Tab w) : Calls Tryd.prog 10 #[] w fun e w' => SamP w w' true e := by
  have HT : Hid (Tab w) := hTab
  have HSM : Hid (∀ W, Calls Tryd.prog 15 #[] W fun e w' => SmpP W w' e) := sampleC_any
  clear hTab
  go_enter Tryd.func10, Tryd.ntmps10
  go_wp2_with fail
  refine Calls.mono (HSM.out _) ?_
  intro e w1 q
  obtain ⟨ca, cc, fa, fc, rfl, hC, hF, b1⟩ := q.out
  have HB1 : Hid (Below w.heap.size w w1) := b1
  have HW : Hid (Calls Tryd.prog 11 #[.agg #[.slice ca 1 cc, .slice fa 1 fc, .int .i64 0]] w1 fun e w' => WrA w1 w' sC sF 0 e) := write_any w1 (HT.out.below b1 HT.out.1) ca 1 cc fa 1 fc 0 sC sF rfl rfl hC hF (by omega) (by omega) s_cdn
  clear hC hF b1 q
  go_wp2_with fail
  refine Calls.mono HW.out ?_
  intro e w2 q
  obtain ⟨b, he, hb, hlo⟩ := q.ok s_form (by rw [s_sz]; omega)
  rw [s_sz] at he
  rw [s_wr] at hb
  have HB2 : Hid (Below w.heap.size w w2) := HB1.out.trans (q.low.mono HB1.out.size)
  have HBT : Hid (w2.heap[b]? = some (.cells (u8s wantB) 5 (0, 0))) := hb
  subst he
  clear q hb hlo HW HB1
  go_upto_region 3 with fail
  obtain ⟨wb, hwb⟩ : ∃ wb, wb = w2.heap.size := ⟨_, rfl⟩
  obtain ⟨W3, hW3⟩ : ∃ W3, W3 = w2.alloc (.cells #[.int .u8 113, .int .u8 114, .int .u8 49, .int .u8 54, .int .u8 1, .int .u8 0, .int .u8 0, .int .u8 0, .int .u8 0, .int .u8 0, .int .u8 0, .int .u8 0, .int .u8 4, .int .u8 109, .int .u8 97, .int .u8 105, .int .u8 110, .int .u8 2, .int .u8 0, .int .u8 0, .int .u8 0, .int .u8 0, .int .u8 0, .int .u8 0, .int .u8 0, .int .u8 1, .int .u8 0, .int .u8 0, .int .u8 0, .int .u8 0, .int .u8 27] 5) := ⟨_, rfl⟩
  rw [← hW3, ← hwb]
  have b3 : Below w2.heap.size w2 W3 := by rw [hW3]; exact below_newX _ _
  have HWT : Hid (W3.heap[wb]? = some (.cells (u8s wantB) 5 (0, 0))) := by rw [hW3, hwb]; exact heap_alloc_new _ _
  have HBT3 : Hid (W3.heap[b]? = some (.cells (u8s wantB) 5 (0, 0))) := (b3.block _ (Array.getElem?_eq_some_iff.1 HBT.out).1).trans HBT.out
  have HB3 : Hid (Below w.heap.size w W3) := HB2.out.trans (b3.mono HB2.out.size)
  have HR : Hid (Calls Tryd.prog 13 #[.slice (some ⟨wb, 0, none⟩) 31 31] W3 fun e w' => ReadP W3 w' 31 wantB e) := rRead_any (iby_exact HWT.out want_in) (HT.out.below HB3.out HT.out.1) (by omega)
  clear hW3 hwb b3 HB2 HBT
  go_wp2_with fail
  refine Calls.mono HR.out ?_
  intro e w4 q
  obtain ⟨gi, gf, fc', he, hro, hrf, -⟩ := q.ok (by omega) 0 sF sC s_rd
  have HB4 : Hid (Below W3.heap.size W3 w4) := q.low
  have HI4 : Hid (StsG w4 (some ⟨gi, 0, none⟩) 1 5 (sC.map riv)) := by
    have z := rowSts (⟨hro, by decide⟩ : Row w4 W3.heap.size 55 5 (.slice (some ⟨gi, 0, none⟩) 1 1) (sC.map riv)) (by decide) (by omega) (by decide)
    exact z.2.1
  have HF4 : Hid (StsG w4 (some ⟨gf, 0, none⟩) fc' 5 (sF.map rfv)) := (rowSts hrf (by decide) (by omega) (by decide)).2.1
  have he2 : e = .returned (.tuple #[.agg #[.slice (some ⟨gi, 0, none⟩) 1 1, .slice (some ⟨gf, 0, none⟩) 1 fc', .int .i64 0], .int .i64 0, .int .i64 0]) := he
  subst he2
  clear q he hro hrf HR
  go_upto_region 4 with fail
  obtain ⟨pb, hpb⟩ : ∃ pb, pb = w4.heap.size := ⟨_, rfl⟩
  obtain ⟨W5, hW5⟩ : ∃ W5, W5 = w4.alloc (.cells #[.slice (some ⟨gi, 0, none⟩) 1 1, .slice (some ⟨gf, 0, none⟩) 1 fc', .int .i64 0] 25) := ⟨_, rfl⟩
  rw [← hW5, ← hpb]
  have b5 : Below w4.heap.size w4 W5 := by rw [hW5]; exact below_newX _ _
  have b45 : Below W3.heap.size W3 W5 := HB4.out.trans (b5.mono HB4.out.size)
  have HA5 : Hid (AlS w W5 b wb pb gi (some ⟨gf, 0, none⟩) fc') := ⟨(b45.block _ (Array.getElem?_eq_some_iff.1 HBT3.out).1).trans HBT3.out, (b45.block _ (Array.getElem?_eq_some_iff.1 HWT.out).1).trans HWT.out, by rw [hW5, hpb]; exact heap_alloc_new _ _, HI4.out.below b5 (Nat.le_refl _), HF4.out.below b5 (Nat.le_refl _), HB3.out.trans (b45.mono HB3.out.size)⟩
  have HR2 : Hid (Calls Tryd.prog 13 #[.slice (some ⟨wb, 0, none⟩) 30 31] W5 fun e w' => ReadP W5 w' 30 (wantB.take 30) e) := rRead_any (IBy.take (iby_exact HA5.out.wt want_in) (by decide)) (HT.out.below HA5.out.low HT.out.1) (by omega)
  clear hW5 hpb b5 b45 HB4 HBT3 HWT HB3 HI4 HF4
  go_wp2_with fail
  refine Calls.mono HR2.out ?_
  intro e w6 q
  have he := q.bad (by omega) 30 s_less
  have HA6 : Hid (AlS w w6 b wb pb gi (some ⟨gf, 0, none⟩) fc') := HA5.out.keep q.low
  have he2 : e = .returned (.tuple #[.agg #[.slice none 0 0, .slice none 0 0, .int .i64 0], .int .i64 30, .int .i64 220]) := he
  subst he2
  clear q he HR2 HA5
  go_upto_region 5 with fail
  obtain ⟨W7, hW7⟩ : ∃ W7, W7 = w6.alloc (.cells #[.slice none 0 0, .slice none 0 0, .int .i64 0] 25) := ⟨_, rfl⟩
  obtain ⟨p2, hp2⟩ : ∃ p2, p2 = w6.heap.size := ⟨_, rfl⟩
  rw [← hW7, ← hp2]
  have HA7 : Hid (AlS w W7 b wb pb gi (some ⟨gf, 0, none⟩) fc') := HA6.out.keep (by rw [hW7]; exact below_newX _ _)
  clear hW7 hp2 HA6
  have HS7 : Hid (∀ V, Below W7.heap.size W7 V → (fun w' : World => (convert 28 9 (.slice (some ⟨b, 0, none⟩) 31 31)).run Tryd.prog w' = .ok (.string (bs (txB wantB))) w' ∧ (convert 28 9 (.slice (some ⟨wb, 0, none⟩) 31 31)).run Tryd.prog w' = .ok (.string (bs (txB wantB))) w' ∧ w'.cell? ⟨pb, 0, none⟩ = some (.slice (some ⟨gi, 0, none⟩) 1 1) ∧ w'.cell? ⟨pb, 1, none⟩ = some (.slice (some ⟨gf, 0, none⟩) 1 fc') ∧ w'.cell? ⟨pb, 2, none⟩ = some (.int .i64 0) ∧ pb < w'.heap.size) V) := fun V k => by
    have z := HA7.out.keep k
    exact ⟨(iby_exact z.bt want_in).conv (by decide), (iby_exact z.wt want_in).conv (by decide), cell_arr z.bx rfl, cell_arr z.bx rfl, cell_arr z.bx rfl, (Array.getElem?_eq_some_iff.1 z.bx).1⟩
  have HNU : Hid (∀ W x, Calls Tryd.prog 12 #[.int .i64 x] W fun e w' => e = .returned (.int .i64 x) ∧ w' = W) := num_any
  have Sz := HS7.out W7.drew (Below.refl _ _).drew
  have HBz : Hid (Below W7.heap.size W7 W7.drew) := (Below.refl _ _).drew
  refine lec_start (S := fun w' : World => (convert 28 9 (.slice (some ⟨b, 0, none⟩) 31 31)).run Tryd.prog w' = .ok (.string (bs (txB wantB))) w' ∧ (convert 28 9 (.slice (some ⟨wb, 0, none⟩) 31 31)).run Tryd.prog w' = .ok (.string (bs (txB wantB))) w' ∧ w'.cell? ⟨pb, 0, none⟩ = some (.slice (some ⟨gi, 0, none⟩) 1 1) ∧ w'.cell? ⟨pb, 1, none⟩ = some (.slice (some ⟨gf, 0, none⟩) 1 fc') ∧ w'.cell? ⟨pb, 2, none⟩ = some (.int .i64 0) ∧ pb < w'.heap.size) (z := 33) (by kernel_rfl) ?_
  show lec _ _ _ _ _ 34 _ _ _
  try simp only [List.size_toArray, List.length_cons, List.length_nil, Array.replicate]
  refine lec_takeP (i := 0) (v := ?v0a) rfl (by kernel_rfl) (by kernel_rfl) (by kernel_rfl) (by kernel_rfl) (fun _ _ _ h => h) (.inl ⟨by rfl, ?hy0a⟩) Sz ?rest0a
  case hy0a =>
    rintro w' _
    go_simp
    all_goals with_reducible rfl
  try simp only [Act.put, List.getElem_toArray, List.getElem_cons_succ, List.getElem_cons_zero, List.setIfInBounds_toArray, List.set_cons_zero, List.set_cons_succ]
  refine lec_one (i := 1) rfl (by kernel_rfl) ?_
  intro K1 hK1
  rw [if_pos (by rfl)]
  go_simp
  refine Calls.mono (HNU.out _ _) ?_
  rintro e wN1 ⟨rfl, rfl⟩
  go_simp
  refine hK1 _ _ (fun _ => Sz) ?_
  clear hK1
  try simp only [Act.put, List.getElem_toArray, List.getElem_cons_succ, List.getElem_cons_zero, List.setIfInBounds_toArray, List.set_cons_zero, List.set_cons_succ]
  refine lec_takeP (i := 2) (v := ?v2a) rfl (by kernel_rfl) (by kernel_rfl) (by kernel_rfl) (by kernel_rfl) (fun _ _ _ h => h) (.inl ⟨by rfl, ?hy2a⟩) Sz ?rest2a
  case hy2a =>
    rintro w' _
    go_simp
    all_goals with_reducible rfl
  try simp only [Act.put, List.getElem_toArray, List.getElem_cons_succ, List.getElem_cons_zero, List.setIfInBounds_toArray, List.set_cons_zero, List.set_cons_succ]
  refine lec_takeP (i := 3) (v := ?v3a) rfl (by kernel_rfl) (by kernel_rfl) (by kernel_rfl) (by kernel_rfl) (fun _ _ _ h => h) (.inl ⟨by rfl, ?hy3a⟩) Sz ?rest3a
  case hy3a =>
    rintro w' _
    go_simp
    all_goals with_reducible rfl
  try simp only [Act.put, List.getElem_toArray, List.getElem_cons_succ, List.getElem_cons_zero, List.setIfInBounds_toArray, List.set_cons_zero, List.set_cons_succ]
  refine lec_takeP (i := 4) (v := ?v4a) rfl (by kernel_rfl) (by kernel_rfl) (by kernel_rfl) (by kernel_rfl) (fun _ _ _ h => h) (.inl ⟨by rfl, ?hy4a⟩) Sz ?rest4a
  case hy4a =>
    rintro w' _
    go_simp
    all_goals with_reducible rfl
  try simp only [Act.put, List.getElem_toArray, List.getElem_cons_succ, List.getElem_cons_zero, List.setIfInBounds_toArray, List.set_cons_zero, List.set_cons_succ]
  refine lec_takeT [8, 9, 10, 11, 12, 13, 14, 15, 16, 17, 18, 19, 20, 21, 22, 23, 24, 25, 26, 27, 28, 29, 30, 31, 32, 33] (i := 5) (v := ?v5a) rfl (by kernel_rfl) (by kernel_rfl) (by kernel_rfl) (by kernel_rfl) (fun _ _ _ h => h) (.inl ⟨by rfl, ?hy5a⟩) Sz ?rest5a
  case hy5a =>
    rintro w' ⟨h1, h2, h3, h4, h5, h6⟩
    go_simp
    all_goals with_reducible rfl
  try simp only [Act.put, List.getElem_toArray, List.getElem_cons_succ, List.getElem_cons_zero, List.setIfInBounds_toArray, List.set_cons_zero, List.set_cons_succ]
  refine lec_takeP (i := 6) (v := ?v6a) rfl (by kernel_rfl) (by kernel_rfl) (by kernel_rfl) (by kernel_rfl) (fun _ _ _ h => h) (.inl ⟨by rfl, ?hy6a⟩) Sz ?rest6a
  case hy6a =>
    rintro w' _
    go_simp
    all_goals with_reducible rfl
  try simp only [Act.put, List.getElem_toArray, List.getElem_cons_succ, List.getElem_cons_zero, List.setIfInBounds_toArray, List.set_cons_zero, List.set_cons_succ]
  refine lec_takeT [8, 9, 10, 11, 12, 13, 14, 15, 16, 17, 18, 19, 20, 21, 22, 23, 24, 25, 26, 27, 28, 29, 30, 31, 32, 33] (i := 7) (v := ?v7a) rfl (by kernel_rfl) (by kernel_rfl) (by kernel_rfl) (by kernel_rfl) (fun _ _ _ h => h) (.inl ⟨by rfl, ?hy7a⟩) Sz ?rest7a
  case hy7a =>
    rintro w' ⟨h1, h2, h3, h4, h5, h6⟩
    go_simp
    all_goals with_reducible rfl
  try simp only [Act.put, List.getElem_toArray, List.getElem_cons_succ, List.getElem_cons_zero, List.setIfInBounds_toArray, List.set_cons_zero, List.set_cons_succ]
  refine lec_takeP (i := 8) (v := ?v8a) rfl (by kernel_rfl) (by kernel_rfl) (by kernel_rfl) (by kernel_rfl) (fun _ _ _ h => h) (.inl ⟨by rfl, ?hy8a⟩) Sz ?rest8a
  case hy8a =>
    rintro w' _
    go_simp
    all_goals with_reducible rfl
  try simp only [Act.put, List.getElem_toArray, List.getElem_cons_succ, List.getElem_cons_zero, List.setIfInBounds_toArray, List.set_cons_zero, List.set_cons_succ]
  refine lec_takeP (i := 9) (v := ?v9a) rfl (by kernel_rfl) (by kernel_rfl) (by kernel_rfl) (by kernel_rfl) (fun _ _ _ h => h) (.inl ⟨by rfl, ?hy9a⟩) Sz ?rest9a
  case hy9a =>
    rintro w' _
    go_simp
    all_goals with_reducible rfl
  try simp only [Act.put, List.getElem_toArray, List.getElem_cons_succ, List.getElem_cons_zero, List.setIfInBounds_toArray, List.set_cons_zero, List.set_cons_succ]
  refine lec_takeP (i := 10) (v := ?v10a) rfl (by kernel_rfl) (by kernel_rfl) (by kernel_rfl) (by kernel_rfl) (fun _ _ _ h => h) (.inl ⟨by rfl, ?hy10a⟩) Sz ?rest10a
  case hy10a =>
    rintro w' _
    go_simp
    all_goals with_reducible rfl
  try simp only [Act.put, List.getElem_toArray, List.getElem_cons_succ, List.getElem_cons_zero, List.setIfInBounds_toArray, List.set_cons_zero, List.set_cons_succ]
  refine lec_takeP (i := 11) (v := ?v11a) rfl (by kernel_rfl) (by kernel_rfl) (by kernel_rfl) (by kernel_rfl) (fun _ _ _ h => h) (.inl ⟨by rfl, ?hy11a⟩) Sz ?rest11a
  case hy11a =>
    rintro w' _
    go_simp
    all_goals with_reducible rfl
  try simp only [Act.put, List.getElem_toArray, List.getElem_cons_succ, List.getElem_cons_zero, List.setIfInBounds_toArray, List.set_cons_zero, List.set_cons_succ]
  refine lec_one (i := 12) rfl (by kernel_rfl) ?_
  intro K12 hK12
  rw [if_pos (by rfl)]
  go_simp
  refine Calls.mono (HNU.out _ _) ?_
  rintro e wN12 ⟨rfl, rfl⟩
  go_simp
  refine hK12 _ _ (fun _ => Sz) ?_
  clear hK12
  try simp only [Act.put, List.getElem_toArray, List.getElem_cons_succ, List.getElem_cons_zero, List.setIfInBounds_toArray, List.set_cons_zero, List.set_cons_succ]
  refine lec_takeP (i := 13) (v := ?v13a) rfl (by kernel_rfl) (by kernel_rfl) (by kernel_rfl) (by kernel_rfl) (fun _ _ _ h => h) (.inl ⟨by rfl, ?hy13a⟩) Sz ?rest13a
  case hy13a =>
    rintro w' _
    go_simp
    all_goals with_reducible rfl
  try simp only [Act.put, List.getElem_toArray, List.getElem_cons_succ, List.getElem_cons_zero, List.setIfInBounds_toArray, List.set_cons_zero, List.set_cons_succ]
  refine lec_takeP (i := 14) (v := ?v14a) rfl (by kernel_rfl) (by kernel_rfl) (by kernel_rfl) (by kernel_rfl) (fun _ _ _ h => h) (.inl ⟨by rfl, ?hy14a⟩) Sz ?rest14a
  case hy14a =>
    rintro w' _
    go_simp
    all_goals with_reducible rfl
  try simp only [Act.put, List.getElem_toArray, List.getElem_cons_succ, List.getElem_cons_zero, List.setIfInBounds_toArray, List.set_cons_zero, List.set_cons_succ]
  refine lec_takeP (i := 15) (v := ?v15a) rfl (by kernel_rfl) (by kernel_rfl) (by kernel_rfl) (by kernel_rfl) (fun _ _ _ h => h) (.inl ⟨by rfl, ?hy15a⟩) Sz ?rest15a
  case hy15a =>
    rintro w' _
    go_simp
    all_goals with_reducible rfl
  try simp only [Act.put, List.getElem_toArray, List.getElem_cons_succ, List.getElem_cons_zero, List.setIfInBounds_toArray, List.set_cons_zero, List.set_cons_succ]
  refine lec_takeP (i := 16) (v := ?v16a) rfl (by kernel_rfl) (by kernel_rfl) (by kernel_rfl) (by kernel_rfl) (fun _ _ _ h => h) (.inl ⟨by rfl, ?hy16a⟩) Sz ?rest16a
  case hy16a =>
    rintro w' _
    go_simp
    all_goals with_reducible rfl
  try simp only [Act.put, List.getElem_toArray, List.getElem_cons_succ, List.getElem_cons_zero, List.setIfInBounds_toArray, List.set_cons_zero, List.set_cons_succ]
  refine lec_takeP (i := 17) (v := ?v17a) rfl (by kernel_rfl) (by kernel_rfl) (by kernel_rfl) (by kernel_rfl) (fun _ _ _ h => h) (.inl ⟨by rfl, ?hy17a⟩) Sz ?rest17a
  case hy17a =>
    rintro w' _
    go_simp
    all_goals with_reducible rfl
  try simp only [Act.put, List.getElem_toArray, List.getElem_cons_succ, List.getElem_cons_zero, List.setIfInBounds_toArray, List.set_cons_zero, List.set_cons_succ]
  refine lec_takeP (i := 18) (v := ?v18a) rfl (by kernel_rfl) (by kernel_rfl) (by kernel_rfl) (by kernel_rfl) (fun _ _ _ h => h) (.inl ⟨by rfl, ?hy18a⟩) Sz ?rest18a
  case hy18a =>
    rintro w' _
    go_simp
    all_goals with_reducible rfl
  try simp only [Act.put, List.getElem_toArray, List.getElem_cons_succ, List.getElem_cons_zero, List.setIfInBounds_toArray, List.set_cons_zero, List.set_cons_succ]
  refine lec_takeP (i := 19) (v := ?v19a) rfl (by kernel_rfl) (by kernel_rfl) (by kernel_rfl) (by kernel_rfl) (fun _ _ _ h => h) (.inl ⟨by rfl, ?hy19a⟩) Sz ?rest19a
  case hy19a =>
    rintro w' _
    go_simp
    all_goals with_reducible rfl
  try simp only [Act.put, List.getElem_toArray, List.getElem_cons_succ, List.getElem_cons_zero, List.setIfInBounds_toArray, List.set_cons_zero, List.set_cons_succ]
  refine lec_takeT [22, 23, 24, 25, 26, 27, 28, 29, 30, 31, 32, 33] (i := 20) (v := ?v20a) rfl (by kernel_rfl) (by kernel_rfl) (by kernel_rfl) (by kernel_rfl) (fun _ _ _ h => h) (.inl ⟨by rfl, ?hy20a⟩) Sz ?rest20a
  case hy20a =>
    rintro w' ⟨h1, h2, h3, h4, h5, h6⟩
    go_simp
    all_goals with_reducible rfl
  try simp only [Act.put, List.getElem_toArray, List.getElem_cons_succ, List.getElem_cons_zero, List.setIfInBounds_toArray, List.set_cons_zero, List.set_cons_succ]
  refine lec_one (i := 21) rfl (by kernel_rfl) ?_
  intro K21 hK21
  rw [if_pos (by rfl)]
  go_simp
  refine Calls.mono (HSM.out _) ?_
  intro e wS q
  obtain ⟨ca2, cc2, fa2, fc2, rfl, hC2, hF2, bS⟩ := q.out
  have HBS : Hid (Below W7.heap.size W7 wS) := HBz.out.trans (bS.mono HBz.out.size)
  have Sq := HS7.out wS HBS.out
  have HSA : Hid (Calls Tryd.prog 14 #[.agg #[.slice (some ⟨gi, 0, none⟩) 1 1, .slice (some ⟨gf, 0, none⟩) 1 fc', .int .i64 0], .agg #[.slice ca2 1 cc2, .slice fa2 1 fc2, .int .i64 0]] wS fun e w' => SamP wS w' true e) := by
    have z := HA7.out.keep HBS.out
    exact sameC_any wS _ 1 1 _ 1 fc' 0 ca2 1 cc2 fa2 1 fc2 0 sC sC sF sF ⟨rfl, rfl, rfl, rfl⟩ z.c hC2 z.f hF2 (by unfold sameC; simp)
  clear bS hC2 hF2 q
  go_simp
  refine hK21 _ _ (fun _ => Sq) ?_
  clear hK21
  try simp only [Act.put, List.getElem_toArray, List.getElem_cons_succ, List.getElem_cons_zero, List.setIfInBounds_toArray, List.set_cons_zero, List.set_cons_succ]
  have Sz := Sq
  refine lec_one (i := 22) rfl (by kernel_rfl) ?_
  intro K22 hK22
  rw [if_pos (by rfl)]
  go_simp
  refine Calls.mono HSA.out ?_
  intro e wM q
  have hq := q.out.1
  subst hq
  have HBM : Hid (Below W7.heap.size W7 wM) := HBS.out.trans (q.out.2.mono HBS.out.size)
  have Sr := HS7.out wM HBM.out
  clear q
  go_simp
  refine hK22 _ _ (fun _ => Sr) ?_
  clear hK22
  try simp only [Act.put, List.getElem_toArray, List.getElem_cons_succ, List.getElem_cons_zero, List.setIfInBounds_toArray, List.set_cons_zero, List.set_cons_succ]
  have Sz := Sr
  refine lec_takeP (i := 23) (v := ?v23a) rfl (by kernel_rfl) (by kernel_rfl) (by kernel_rfl) (by kernel_rfl) (fun _ _ _ h => h) (.inl ⟨by rfl, ?hy23a⟩) Sz ?rest23a
  case hy23a =>
    rintro w' _
    go_simp
    all_goals with_reducible rfl
  try simp only [Act.put, List.getElem_toArray, List.getElem_cons_succ, List.getElem_cons_zero, List.setIfInBounds_toArray, List.set_cons_zero, List.set_cons_succ]
  refine lec_takeP (i := 24) (v := ?v24a) rfl (by kernel_rfl) (by kernel_rfl) (by kernel_rfl) (by kernel_rfl) (fun _ _ _ h => h) (.inl ⟨by rfl, ?hy24a⟩) Sz ?rest24a
  case hy24a =>
    rintro w' _
    go_simp
    all_goals with_reducible rfl
  try simp only [Act.put, List.getElem_toArray, List.getElem_cons_succ, List.getElem_cons_zero, List.setIfInBounds_toArray, List.set_cons_zero, List.set_cons_succ]
  refine lec_takeP (i := 25) (v := ?v25a) rfl (by kernel_rfl) (by kernel_rfl) (by kernel_rfl) (by kernel_rfl) (fun _ _ _ h => h) (.inl ⟨by rfl, ?hy25a⟩) Sz ?rest25a
  case hy25a =>
    rintro w' _
    go_simp
    all_goals with_reducible rfl
  try simp only [Act.put, List.getElem_toArray, List.getElem_cons_succ, List.getElem_cons_zero, List.setIfInBounds_toArray, List.set_cons_zero, List.set_cons_succ]
  refine lec_takeP (i := 26) (v := ?v26a) rfl (by kernel_rfl) (by kernel_rfl) (by kernel_rfl) (by kernel_rfl) (fun _ _ _ h => h) (.inl ⟨by rfl, ?hy26a⟩) Sz ?rest26a
  case hy26a =>
    rintro w' _
    go_simp
    all_goals with_reducible rfl
  try simp only [Act.put, List.getElem_toArray, List.getElem_cons_succ, List.getElem_cons_zero, List.setIfInBounds_toArray, List.set_cons_zero, List.set_cons_succ]
  refine lec_takeP (i := 27) (v := ?v27a) rfl (by kernel_rfl) (by kernel_rfl) (by kernel_rfl) (by kernel_rfl) (fun _ _ _ h => h) (.inl ⟨by rfl, ?hy27a⟩) Sz ?rest27a
  case hy27a =>
    rintro w' _
    go_simp
    all_goals with_reducible rfl
  try simp only [Act.put, List.getElem_toArray, List.getElem_cons_succ, List.getElem_cons_zero, List.setIfInBounds_toArray, List.set_cons_zero, List.set_cons_succ]
  refine lec_takeP (i := 28) (v := ?v28a) rfl (by kernel_rfl) (by kernel_rfl) (by kernel_rfl) (by kernel_rfl) (fun _ _ _ h => h) (.inl ⟨by rfl, ?hy28a⟩) Sz ?rest28a
  case hy28a =>
    rintro w' _
    go_simp
    all_goals with_reducible rfl
  try simp only [Act.put, List.getElem_toArray, List.getElem_cons_succ, List.getElem_cons_zero, List.setIfInBounds_toArray, List.set_cons_zero, List.set_cons_succ]
  refine lec_takeP (i := 29) (v := ?v29a) rfl (by kernel_rfl) (by kernel_rfl) (by kernel_rfl) (by kernel_rfl) (fun _ _ _ h => h) (.inl ⟨by rfl, ?hy29a⟩) Sz ?rest29a
  case hy29a =>
    rintro w' _
    go_simp
    all_goals with_reducible rfl
  try simp only [Act.put, List.getElem_toArray, List.getElem_cons_succ, List.getElem_cons_zero, List.setIfInBounds_toArray, List.set_cons_zero, List.set_cons_succ]
  refine lec_one (i := 30) rfl (by kernel_rfl) ?_
  intro K30 hK30
  rw [if_pos (by rfl)]
  go_simp
  refine Calls.mono (HNU.out _ _) ?_
  rintro e wN30 ⟨rfl, rfl⟩
  go_simp
  refine hK30 _ _ (fun _ => Sz) ?_
  clear hK30
  try simp only [Act.put, List.getElem_toArray, List.getElem_cons_succ, List.getElem_cons_zero, List.setIfInBounds_toArray, List.set_cons_zero, List.set_cons_succ]
  refine lec_takeP (i := 31) (v := ?v31a) rfl (by kernel_rfl) (by kernel_rfl) (by kernel_rfl) (by kernel_rfl) (fun _ _ _ h => h) (.inl ⟨by rfl, ?hy31a⟩) Sz ?rest31a
  case hy31a =>
    rintro w' _
    go_simp
    all_goals with_reducible rfl
  try simp only [Act.put, List.getElem_toArray, List.getElem_cons_succ, List.getElem_cons_zero, List.setIfInBounds_toArray, List.set_cons_zero, List.set_cons_succ]
  refine lec_takeP (i := 32) (v := ?v32a) rfl (by kernel_rfl) (by kernel_rfl) (by kernel_rfl) (by kernel_rfl) (fun _ _ _ h => h) (.inl ⟨by rfl, ?hy32a⟩) Sz ?rest32a
  case hy32a =>
    rintro w' _
    go_simp
    all_goals with_reducible rfl
  try simp only [Act.put, List.getElem_toArray, List.getElem_cons_succ, List.getElem_cons_zero, List.setIfInBounds_toArray, List.set_cons_zero, List.set_cons_succ]
  refine lec_one (i := 33) rfl (by kernel_rfl) ?_
  intro K33 hK33
  rw [if_pos (by rfl)]
  go_simp
  refine hK33 _ _ (fun h => by simp at h) ?_
  clear hK33
  try simp only [Act.put, List.getElem_toArray, List.getElem_cons_succ, List.getElem_cons_zero, List.setIfInBounds_toArray, List.set_cons_zero, List.set_cons_succ]
  refine lec_done (by kernel_rfl) ?_
  go_wp2_with fail
  go_ret
  exact ⟨⟨rfl, HA7.out.low.trans (HBM.out.mono HA7.out.low.size)⟩⟩
end Go.Proofs.YtjiaedckecfjbaaDoor
