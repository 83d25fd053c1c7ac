import Derived.Test.YtjiaedckecfjbaaDoorCyJ
set_option linter.unusedVariables false
set_option linter.unusedSimpArgs false
namespace Go.Proofs.YtjiaedckecfjbaaDoor
open Go.ChangeShapes Go.WideShapes Go.ChangeAt Go.RowKit Go.Maps

/-- The operations that have a number. -/
def hasNC (op : Int) : Bool := decide (op = 1 ∨ op = 21 ∨ op = 22 ∨ op = 23 ∨ op = 24 ∨ op = 25 ∨ op = 26 ∨ op = 32 ∨ op = 33 ∨ op = 34 ∨ op = 35)
set_option maxRecDepth 100000 in
set_option maxHeartbeats 4000000 in
theorem hasNum_any (w : World) (op : Int) {T : Bool} (hT : hasNC op = T) : Calls Tryd.prog 23 #[.int .i64 op] w fun e w' => e = .returned (.bool T) ∧ w' = w := by
  subst hT
  by_cases h1 : op = 1
  · subst h1
    rw [show hasNC 1 = true from rfl]
    go_enter Tryd.func23, Tryd.ntmps23
    go_wp2_with fail
    go_ret
    exact ⟨rfl, rfl⟩
  by_cases h21 : op = 21
  · subst h21
    rw [show hasNC 21 = true from rfl]
    go_enter Tryd.func23, Tryd.ntmps23
    go_wp2_with fail
    go_ret
    exact ⟨rfl, rfl⟩
  by_cases h22 : op = 22
  · subst h22
    rw [show hasNC 22 = true from rfl]
    go_enter Tryd.func23, Tryd.ntmps23
    go_wp2_with fail
    go_ret
    exact ⟨rfl, rfl⟩
  by_cases h23 : op = 23
  · subst h23
    rw [show hasNC 23 = true from rfl]
    go_enter Tryd.func23, Tryd.ntmps23
    go_wp2_with fail
    go_ret
    exact ⟨rfl, rfl⟩
  by_cases h24 : op = 24
  · subst h24
    rw [show hasNC 24 = true from rfl]
    go_enter Tryd.func23, Tryd.ntmps23
    go_wp2_with fail
    go_ret
    exact ⟨rfl, rfl⟩
  by_cases h25 : op = 25
  · subst h25
    rw [show hasNC 25 = true from rfl]
    go_enter Tryd.func23, Tryd.ntmps23
    go_wp2_with fail
    go_ret
    exact ⟨rfl, rfl⟩
  by_cases h26 : op = 26
  · subst h26
    rw [show hasNC 26 = true from rfl]
    go_enter Tryd.func23, Tryd.ntmps23
    go_wp2_with fail
    go_ret
    exact ⟨rfl, rfl⟩
  by_cases h32 : op = 32
  · subst h32
    rw [show hasNC 32 = true from rfl]
    go_enter Tryd.func23, Tryd.ntmps23
    go_wp2_with fail
    go_ret
    exact ⟨rfl, rfl⟩
  by_cases h33 : op = 33
  · subst h33
    rw [show hasNC 33 = true from rfl]
    go_enter Tryd.func23, Tryd.ntmps23
    go_wp2_with fail
    go_ret
    exact ⟨rfl, rfl⟩
  by_cases h34 : op = 34
  · subst h34
    rw [show hasNC 34 = true from rfl]
    go_enter Tryd.func23, Tryd.ntmps23
    go_wp2_with fail
    go_ret
    exact ⟨rfl, rfl⟩
  by_cases h35 : op = 35
  · subst h35
    rw [show hasNC 35 = true from rfl]
    go_enter Tryd.func23, Tryd.ntmps23
    go_wp2_with fail
    go_ret
    exact ⟨rfl, rfl⟩
  have e : hasNC op = false := by unfold hasNC; rw [decide_eq_false_iff_not]; omega
  rw [e]
  have t1 : (op == 1) = false := by simpa using h1
  have t21 : (op == 21) = false := by simpa using h21
  have t22 : (op == 22) = false := by simpa using h22
  have t23 : (op == 23) = false := by simpa using h23
  have t24 : (op == 24) = false := by simpa using h24
  have t25 : (op == 25) = false := by simpa using h25
  have t26 : (op == 26) = false := by simpa using h26
  have t32 : (op == 32) = false := by simpa using h32
  have t33 : (op == 33) = false := by simpa using h33
  have t34 : (op == 34) = false := by simpa using h34
  have t35 : (op == 35) = false := by simpa using h35
  clear h1 h21 h22 h23 h24 h25 h26 h32 h33 h34 h35 e
  go_enter Tryd.func23, Tryd.ntmps23
  go_wp2_with fail
  go_ret
  exact ⟨rfl, rfl⟩
theorem WrS.rebase {w W wb b N D} (h : WrS w W wb b N D) : WrS W W wb b N D := ⟨h.wbx, h.by_, h.le, Only.refl _ _⟩
theorem WrS.back {w W W1 W' wb b N D D'} (h : WrS w W wb b N D) (hb : Below W.heap.size W W1) (k : WrS W1 W' wb b N D') : WrS w W' wb b N D' :=
  ⟨k.wbx, k.by_, k.le, (h.only.trans (Only.of_below hb (fun _ => False)) fun _ _ q => q.elim).trans k.only fun _ _ q => q⟩
/-- Another block stays. -/
theorem WrS.other {w W wb b N D q} {A : Obj} (h : WrS w W wb b N D) (hq : w.heap[q]? = some A) (h1 : q ≠ wb) (h2 : q ≠ b) : W.heap[q]? = some A :=
  (h.only.block q (Array.getElem?_eq_some_iff.1 hq).1 fun e => by rcases e with rfl | rfl; exact h1 rfl; exact h2 rfl).trans hq
/-- A function's bytes. -/
def wrR (f : Rf) : List Int := lo 1 (f.name.size : Int) ++ tby f.name ++ lo 8 f.fr ++ lo 4 f.ct ++ lo 1 f.pa
theorem wrR_len (f : Rf) : (wrR f).length = 14 + f.name.size := by
  unfold wrR
  simp only [List.length_append, lo_len, tby_len]
  omega
set_option maxRecDepth 100000 in
set_option maxHeartbeats 4000000 in
theorem wFun_any {w0 w : World} {wb b N : Nat} {D : List Int} (h : WrS w0 w wb b N D) (f : Rf) (hk : D.length + (14 + f.name.size) ≤ N) (hs : 1 ≤ f.name.size ∧ f.name.size ≤ 64) (hN : N ≤ 1000000000000000000) (h1 : Fits f.fr) (h2 : Fits f.ct) (h3 : Fits f.pa) :
    Calls Tryd.prog 26 #[.pointer (some ⟨wb, 0, none⟩), .agg #[.string f.name, .int .i64 f.fr, .int .i64 f.fi, .int .i64 f.ct, .int .i64 f.pa]] w fun e w' => e = .returned (.tuple #[]) ∧ WrS w0 w' wb b N (D ++ wrR f) := by
  obtain ⟨W1, hW1⟩ : ∃ W, W = w.alloc (.cells #[.string f.name, .int .i64 f.fr, .int .i64 f.fi, .int .i64 f.ct, .int .i64 f.pa] 40) := ⟨_, rfl⟩
  obtain ⟨q, hq⟩ : ∃ q, q = w.heap.size := ⟨_, rfl⟩
  have k0 : W1.heap[q]? = some (.cells #[.string f.name, .int .i64 f.fr, .int .i64 f.fi, .int .i64 f.ct, .int .i64 f.pa] 40 (0, 0)) := by rw [hW1, hq]; exact heap_alloc_new _ _
  have b1 : Below w.heap.size w W1 := by rw [hW1]; exact below_newR w _
  have HB1 : Hid _ := b1
  have HS0 : Hid _ := h
  have HS1 : Hid (WrS W1 W1 wb b N D) := (h.keep b1).rebase
  have HQ : Hid (q ≠ wb ∧ q ≠ b) := by
    have a := (Array.getElem?_eq_some_iff.1 h.wbx).1
    have c := (Array.getElem?_eq_some_iff.1 h.by_).1
    exact ⟨by omega, by omega⟩
  have HK : Hid _ := k0
  obtain ⟨s, hs'⟩ : ∃ s, s = f.name := ⟨_, rfl⟩
  obtain ⟨fr, hfr⟩ : ∃ s, s = f.fr := ⟨_, rfl⟩
  obtain ⟨ct, hct⟩ : ∃ s, s = f.ct := ⟨_, rfl⟩
  obtain ⟨pa, hpa⟩ : ∃ s, s = f.pa := ⟨_, rfl⟩
  obtain ⟨fi, hfi⟩ : ∃ s, s = f.fi := ⟨_, rfl⟩
  obtain ⟨z, hz⟩ : ∃ z, z = s.size := ⟨_, rfl⟩
  have HF : Hid (wrR f = lo 1 (z : Int) ++ tby s ++ lo 8 fr ++ lo 4 ct ++ lo 1 pa) := by show _ = _; unfold wrR; rw [hz, hs', hfr, hct, hpa]
  rw [← hs', ← hfr, ← hfi, ← hct, ← hpa] at hW1 HK
  rw [← hs'] at hk hs
  rw [← hfr] at h1
  rw [← hct] at h2
  rw [← hpa] at h3
  rw [← hs', ← hfr, ← hfi, ← hct, ← hpa]
  rw [← hz] at hk hs
  have HX : Hid (D.length + (14 + z) ≤ N ∧ (1 ≤ z ∧ z ≤ 64) ∧ N ≤ 1000000000000000000 ∧ z = s.size) := ⟨hk, hs, hN, hz⟩
  have HV : Hid (Fits fr ∧ Fits ct ∧ Fits pa) := ⟨h1, h2, h3⟩
  have hsz : s.size = z := hz.symm
  clear h hk hs hN h1 h2 h3 k0 b1 hs' hfr hfi hct hpa hz
  go_enter Tryd.func26, Tryd.ntmps26
  go_upto_region 1 with fail
  rw [← hW1, ← hq]
  clear hW1 hq
  have bx0 := HS1.out.other HK.out HQ.out.1 HQ.out.2
  have c0 : W1.cell? ⟨q, 0, none⟩ = some (.string s) := cell_arr bx0 rfl
  have l0 := (Array.getElem?_eq_some_iff.1 bx0).1
  clear bx0
  have HC0 : Hid _ := wNum_any HS1.out (z : Int) (k := 1) (by have := HX.out; (try simp only [List.length_append, lo_len, tby_len]); omega) (by omega) HX.out.2.2.1 (by have := HX.out.2.1; omega)
  go_wp2_with fail
  refine Calls.mono HC0.out ?_
  rintro e W2 ⟨rfl, hS⟩
  have HS2 : Hid _ := hS
  clear hS HC0 c0 l0
  have bx1 := HS2.out.other HK.out HQ.out.1 HQ.out.2
  have c1 : W2.cell? ⟨q, 0, none⟩ = some (.string s) := cell_arr bx1 rfl
  have l1 := (Array.getElem?_eq_some_iff.1 bx1).1
  clear bx1
  have HC1 : Hid _ := wText_any HS2.out s (by have := HX.out; (try simp only [List.length_append, lo_len, tby_len]); omega) (by have := HX.out; omega) HX.out.2.2.1
  go_wp2_with fail
  refine Calls.mono HC1.out ?_
  rintro e W3 ⟨rfl, hS⟩
  have HS3 : Hid _ := hS
  clear hS HC1 c1 l1 HS2
  have bx2 := HS3.out.other HK.out HQ.out.1 HQ.out.2
  have c2 : W3.cell? ⟨q, 1, none⟩ = some (.int .i64 fr) := cell_arr bx2 rfl
  have l2 := (Array.getElem?_eq_some_iff.1 bx2).1
  clear bx2
  have HC2 : Hid _ := wNum_any HS3.out fr (k := 8) (by have := HX.out; (try simp only [List.length_append, lo_len, tby_len]); omega) (by omega) HX.out.2.2.1 (HV.out.1)
  go_wp2_with fail
  refine Calls.mono HC2.out ?_
  rintro e W4 ⟨rfl, hS⟩
  have HS4 : Hid _ := hS
  clear hS HC2 c2 l2 HS3
  have bx3 := HS4.out.other HK.out HQ.out.1 HQ.out.2
  have c3 : W4.cell? ⟨q, 3, none⟩ = some (.int .i64 ct) := cell_arr bx3 rfl
  have l3 := (Array.getElem?_eq_some_iff.1 bx3).1
  clear bx3
  have HC3 : Hid _ := wNum_any HS4.out ct (k := 4) (by have := HX.out; (try simp only [List.length_append, lo_len, tby_len]); omega) (by omega) HX.out.2.2.1 (HV.out.2.1)
  go_wp2_with fail
  refine Calls.mono HC3.out ?_
  rintro e W5 ⟨rfl, hS⟩
  have HS5 : Hid _ := hS
  clear hS HC3 c3 l3 HS4
  have bx4 := HS5.out.other HK.out HQ.out.1 HQ.out.2
  have c4 : W5.cell? ⟨q, 4, none⟩ = some (.int .i64 pa) := cell_arr bx4 rfl
  have l4 := (Array.getElem?_eq_some_iff.1 bx4).1
  clear bx4
  have HC4 : Hid _ := wNum_any HS5.out pa (k := 1) (by have := HX.out; (try simp only [List.length_append, lo_len, tby_len]); omega) (by omega) HX.out.2.2.1 (HV.out.2.2)
  go_wp2_with fail
  refine Calls.mono HC4.out ?_
  rintro e W6 ⟨rfl, hS⟩
  have HS6 : Hid _ := hS
  clear hS HC4 c4 l4 HS5
  have HF2 : Hid (WrS w0 W6 wb b N (D ++ wrR f)) := by
    have := HS0.out.back HB1.out HS6.out
    rw [HF.out]
    simp only [List.append_assoc] at this ⊢
    exact this
  clear HS6
  go_wp2_with fail
  exact bodyPost_end (v := .tuple #[]) (by simp [results, Tryd.results26, go_sem]) rfl ⟨rfl, HF2.out⟩
end Go.Proofs.YtjiaedckecfjbaaDoor
