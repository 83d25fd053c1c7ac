import Derived.Test.YteplldbhfjfbpaaGreatDoorVdA
set_option linter.unusedVariables false
set_option linter.unusedSimpArgs false
namespace Go.Proofs.YteplldbhfjfbpaaGreatDoor
open Go.ChangeShapes Go.WideShapes Go.ChangeAt Go.RowKit Go.Maps

/-- The instructions for blocks of these sizes; the words taken; what is to be told; do they fit? -/
def hpP : List Int → List Ri
  | [] => []
  | n :: L => hpI n ++ hpP L
def hpT : Int → List Int → Int
  | tk, [] => tk
  | tk, n :: L => hpT (tk + n + 1) L
def hpV (tk n : Int) : List Int := [tk + 1, n] ++ (if n > 0 then [0, n] else [])
def hpW : Int → List Int → List Int
  | _, [] => []
  | tk, n :: L => hpV tk n ++ hpW (tk + n + 1) L
def hpF (room : Int) : Int → List Int → Prop
  | _, [] => True
  | tk, n :: L => ¬ n ≥ room - tk ∧ hpF room (tk + n + 1) L
def evt (x : Int) : Int × Int := (1, x)
theorem hpE_eq (tk n : Int) : hpE tk n = (hpV tk n).map evt := by
  unfold hpE hpV
  by_cases h : n > 0
  · rw [if_pos h, if_pos h]; rfl
  · rw [if_neg h, if_neg h]; rfl
theorem hpI_len (n : Int) : (hpI n).length ≤ 11 := by
  unfold hpI
  by_cases h : n > 0
  · rw [if_pos h]; show 11 ≤ 11; omega
  · rw [if_neg h]; show 5 ≤ 11; omega
theorem hpV_len (tk n : Int) : (hpV tk n).length ≤ 4 := by
  unfold hpV
  by_cases h : n > 0
  · rw [if_pos h]; simp
  · rw [if_neg h]; simp
theorem hpP_app : ∀ (L M : List Int), hpP (L ++ M) = hpP L ++ hpP M
  | [], M => rfl
  | n :: L, M => by
    show hpI n ++ hpP (L ++ M) = _
    rw [hpP_app L M, ← List.append_assoc]
    rfl
theorem hpT_app : ∀ (tk : Int) (L M : List Int), hpT tk (L ++ M) = hpT (hpT tk L) M
  | tk, [], M => rfl
  | tk, n :: L, M => hpT_app (tk + n + 1) L M
theorem hpW_app : ∀ (tk : Int) (L M : List Int), hpW tk (L ++ M) = hpW tk L ++ hpW (hpT tk L) M
  | tk, [], M => rfl
  | tk, n :: L, M => by
    show hpV tk n ++ hpW (tk + n + 1) (L ++ M) = (hpV tk n ++ hpW (tk + n + 1) L) ++ hpW (hpT (tk + n + 1) L) M
    rw [hpW_app (tk + n + 1) L M, List.append_assoc]
theorem hpF_app (room : Int) : ∀ (tk : Int) (L M : List Int), hpF room tk L → hpF room (hpT tk L) M → hpF room tk (L ++ M)
  | tk, [], M, _, h => h
  | tk, n :: L, M, ⟨h1, h2⟩, h => ⟨h1, hpF_app room (tk + n + 1) L M h2 h⟩
theorem hpP_len : ∀ L : List Int, (hpP L).length ≤ 11 * L.length
  | [] => Nat.le_refl _
  | n :: L => by
    have h1 := hpI_len n
    have h2 := hpP_len L
    show (hpI n ++ hpP L).length ≤ _
    rw [List.length_append, List.length_cons]
    omega
theorem hpW_len : ∀ (tk : Int) (L : List Int), (hpW tk L).length ≤ 4 * L.length
  | _, [] => Nat.le_refl _
  | tk, n :: L => by
    have h1 := hpV_len tk n
    have h2 := hpW_len (tk + n + 1) L
    show (hpV tk n ++ hpW (tk + n + 1) L).length ≤ _
    rw [List.length_append, List.length_cons]
    omega
theorem hpT_le : ∀ (tk : Int) (L : List Int), (∀ n ∈ L, 0 ≤ n ∧ n ≤ 16383) → tk ≤ hpT tk L ∧ hpT tk L ≤ tk + 16384 * (L.length : Int)
  | tk, [], _ => ⟨Int.le_refl _, by simp [hpT]⟩
  | tk, n :: L, h => by
    have h1 := h n (List.mem_cons_self ..)
    have h2 := hpT_le (tk + n + 1) L fun x hx => h x (List.mem_cons_of_mem _ hx)
    show tk ≤ hpT (tk + n + 1) L ∧ hpT (tk + n + 1) L ≤ _
    rw [List.length_cons]
    omega
/-- All of them are made. -/
theorem hp_blocks {P : List Ri} {room : Int} : ∀ (L : List Int) {p : Nat} {r2 r3 r4 r5 r6 tk : Int} {ln : Int → Option Int} {mm : Int → Int} {hc : Nat} {E : List (Int × Int)} {t : Int}, (∀ n ∈ L, 0 ≤ n ∧ n ≤ 16383) → (∀ i, i < (hpP L).length → P[p + i]? = (hpP L)[i]?) → 0 ≤ tk → hpF room tk L → (∀ a, tk < a → mm a = 0) → E.length + 4 * L.length < 1048576 →
    ∃ r2' r3' r4' r5' r6' ln' mm' hc', Wy P (oneF P 2) 2 room (hpP L).length (hq (p : Int) r2 r3 r4 r5 r6 tk ln mm hc E t) (hq ((p + (hpP L).length : Nat) : Int) r2' r3' r4' r5' r6' (hpT tk L) ln' mm' hc' (E ++ (hpW tk L).map evt) (t + ((hpP L).length : Nat)))
  | [], p, r2, r3, r4, r5, r6, tk, ln, mm, hc, E, t, _, _, _, _, _, _ => ⟨r2, r3, r4, r5, r6, ln, mm, hc, by simpa [hpP, hpT, hpW] using Wy.none (C := P) (FS := oneF P 2) (S := 2) (room := room) (hq (p : Int) r2 r3 r4 r5 r6 tk ln mm hc E t)⟩
  | n :: L, p, r2, r3, r4, r5, r6, tk, ln, mm, hc, E, t, hL, hP, ht, ⟨hf1, hf2⟩, hm, hE => by
    have hn := hL n (List.mem_cons_self ..)
    have hlen : (hpP (n :: L)).length = (hpI n).length + (hpP L).length := List.length_append
    rw [List.length_cons] at hE
    obtain ⟨a2, a3, a4, a5, a6, l', m', c', w, hm'⟩ := hp_block (P := P) (room := room) hn.1 (p := p) (r2 := r2) (r3 := r3) (r4 := r4) (r5 := r5) (r6 := r6) (tk := tk) (ln := ln) (mm := mm) (hc := hc) (E := E) (t := t) (fun i hi => by
      have := hP i (by omega)
      rw [this]
      show (hpI n ++ hpP L)[i]? = _
      rw [List.getElem?_append_left hi]) ht hf1 hm (by omega)
    have hvl := hpV_len tk n
    obtain ⟨b2, b3, b4, b5, b6, l2, m2, c2, w2⟩ := hp_blocks L (p := p + (hpI n).length) (r2 := a2) (r3 := a3) (r4 := a4) (r5 := a5) (r6 := a6) (tk := tk + n + 1) (ln := l') (mm := m') (hc := c') (E := E ++ hpE tk n) (t := t + ((hpI n).length : Nat)) (fun x hx => hL x (List.mem_cons_of_mem _ hx)) (fun i hi => by
      have := hP ((hpI n).length + i) (by omega)
      rw [Nat.add_assoc, this]
      show (hpI n ++ hpP L)[(hpI n).length + i]? = _
      rw [List.getElem?_append_right (by omega), Nat.add_sub_cancel_left]) (by omega) hf2 hm' (by rw [hpE_eq, List.length_append, List.length_map]; omega)
    refine ⟨b2, b3, b4, b5, b6, l2, m2, c2, ?_⟩
    have ww := w.trans w2
    rw [hlen]
    have e1 : E ++ hpE tk n ++ (hpW (tk + n + 1) L).map evt = E ++ (hpW tk (n :: L)).map evt := by
      show _ = E ++ (hpV tk n ++ hpW (tk + n + 1) L).map evt
      rw [List.map_append, hpE_eq, List.append_assoc]
    have e2 : p + (hpI n).length + (hpP L).length = p + ((hpI n).length + (hpP L).length) := by omega
    have e3 : t + ((hpI n).length : Nat) + ((hpP L).length : Nat) = t + (((hpI n).length + (hpP L).length : Nat) : Int) := by omega
    rw [e1, e2, e3] at ww
    exact ww
def hp0 (n : Nat) : Rv := (Rv.zero []).call 2 ⟨⟨#[109, 97, 105, 110]⟩, 2, 0, n, 0⟩ (-1)
theorem hp0_eq (n : Nat) : hp0 n = hq ((0 : Nat) : Int) 0 0 0 0 0 0 (fun _ => none) (fun _ => 0) 0 [] 0 := rfl
/-- Where all fit. -/
theorem hp_all {room : Int} (L : List Int) (hL : ∀ n ∈ L, 0 ≤ n ∧ n ≤ 16383) (hl : L.length ≤ 300) (hF : hpF room 0 L) {P : List Ri} (hP : P = hpP L ++ [⟨27, 0, 0, 0, 0⟩]) : ∃ RF, smG P (oneF P 2) 2 room (P.length + 1) (hp0 P.length) = RF ∧ RF.over = true ∧ RF.ev = (hpW 0 L).map evt ∧ RF.fin = 1 ∧ RF.steps = (P.length : Int) ∧ RF.words = hpT 0 L := by
  have hlen : P.length = (hpP L).length + 1 := by rw [hP, List.length_append]; rfl
  rw [hp0_eq]
  obtain ⟨r2, r3, r4, r5, r6, ln, mm, hc, w⟩ := hp_blocks (P := P) (room := room) L (p := 0) (r2 := 0) (r3 := 0) (r4 := 0) (r5 := 0) (r6 := 0) (tk := 0) (ln := fun _ => none) (mm := fun _ => 0) (hc := 0) (E := []) (t := 0) hL (fun i hi => by rw [Nat.zero_add, hP, List.getElem?_append_left hi]) (Int.le_refl _) hF (fun _ _ => rfl) (by show 0 + 4 * L.length < _; omega)
  rw [Nat.zero_add] at w
  have hx : P[(hpP L).length]? = some ⟨27, 0, 0, 0, 0⟩ := by rw [hP, List.getElem?_append_right (Nat.le_refl _), Nat.sub_self]; rfl
  have s := stp_ok (C := P) (FS := oneF P 2) (S := 2) (room := room) (R := hq (((hpP L).length : Nat) : Int) r2 r3 r4 r5 r6 (hpT 0 L) ln mm hc ([] ++ (hpW 0 L).map evt) (0 + ((hpP L).length : Nat))) (x := ⟨27, 0, 0, 0, 0⟩) (R1 := (hq (((hpP L).length : Nat) : Int) r2 r3 r4 r5 r6 (hpT 0 L) ln mm hc ([] ++ (hpW 0 L).map evt) (0 + ((hpP L).length : Nat))).on.back) rfl (hq_at hx) rfl rfl rfl
  refine ⟨_, Wy.ends (w.trans (Wy.one s)) rfl (by omega), rfl, rfl, rfl, ?_, rfl⟩
  show (0 : Int) + ((hpP L).length : Nat) + 1 = _
  rw [hlen]
  omega
/-- Where one does not. -/
theorem hp_ends {room n : Int} (L : List Int) (hL : ∀ n ∈ L, 0 ≤ n ∧ n ≤ 16383) (hl : L.length ≤ 300) (hF : hpF room 0 L) (hn : 0 ≤ n) (hr : n ≥ room - hpT 0 L) {P : List Ri} (hP : P = hpP L ++ (hpA n ++ [⟨27, 0, 0, 0, 0⟩])) : ∃ RF, smG P (oneF P 2) 2 room (P.length + 1) (hp0 P.length) = RF ∧ RF.over = true ∧ RF.ev = (hpW 0 L).map evt ∧ RF.fin = 2 ∧ RF.kd = 8 ∧ RF.steps = (P.length : Int) - 1 ∧ RF.words = hpT 0 L := by
  have hlen : P.length = (hpP L).length + 3 := by rw [hP, List.length_append]; rfl
  rw [hp0_eq]
  obtain ⟨r2, r3, r4, r5, r6, ln, mm, hc, w⟩ := hp_blocks (P := P) (room := room) L (p := 0) (r2 := 0) (r3 := 0) (r4 := 0) (r5 := 0) (r6 := 0) (tk := 0) (ln := fun _ => none) (mm := fun _ => 0) (hc := 0) (E := []) (t := 0) hL (fun i hi => by rw [Nat.zero_add, hP, List.getElem?_append_left hi]) (Int.le_refl _) hF (fun _ _ => rfl) (by show 0 + 4 * L.length < _; omega)
  rw [Nat.zero_add] at w
  have hx : P[(hpP L).length]? = some ⟨1, 2, 0, 0, n⟩ := by rw [hP, List.getElem?_append_right (Nat.le_refl _), Nat.sub_self]; rfl
  have hx2 : P[(hpP L).length + 1]? = some ⟨28, 3, 2, 0, 0⟩ := by rw [hP, List.getElem?_append_right (by omega), Nat.add_sub_cancel_left]; rfl
  refine ⟨_, Wy.ends (w.trans (Wy.cons (hq_ldi2 hx) (Wy.one (hq_full hx2 hn hr)))) rfl (by omega), rfl, rfl, rfl, rfl, ?_, rfl⟩
  show (0 : Int) + ((hpP L).length : Nat) + 1 + 1 = _
  rw [hlen]
  omega
/-- Its form. -/
theorem hpI_form {n : Int} (hn : 0 ≤ n ∧ n ≤ 16383) (f : Rf) : ∀ x ∈ hpI n, (regsF x = true ∧ numF 1 f x = true) ∧ Fits x.n := by
  intro x hx
  have h0 : Fits 0 := by unfold Fits; omega
  have h1 : Fits n := by unfold Fits; omega
  have h2 : Fits (n - 1) := by unfold Fits; omega
  unfold hpI hpA hpB hpC at hx
  by_cases h : n > 0
  · rw [if_pos h] at hx
    simp only [List.cons_append, List.nil_append, List.mem_cons, List.not_mem_nil, or_false] at hx
    rcases hx with rfl | rfl | rfl | rfl | rfl | rfl | rfl | rfl | rfl | rfl | rfl
    · exact ⟨⟨rfl, fits_numF rfl h1⟩, h1⟩
    · exact ⟨⟨rfl, rfl⟩, h0⟩
    · exact ⟨⟨rfl, rfl⟩, h0⟩
    · exact ⟨⟨rfl, rfl⟩, h0⟩
    · exact ⟨⟨rfl, rfl⟩, h0⟩
    · exact ⟨⟨rfl, fits_numF rfl h2⟩, h2⟩
    · exact ⟨⟨rfl, rfl⟩, h0⟩
    · exact ⟨⟨rfl, rfl⟩, h0⟩
    · exact ⟨⟨rfl, rfl⟩, h0⟩
    · exact ⟨⟨rfl, rfl⟩, h0⟩
    · exact ⟨⟨rfl, rfl⟩, h0⟩
  · rw [if_neg h] at hx
    simp only [List.cons_append, List.nil_append, List.append_nil, List.mem_cons, List.not_mem_nil, or_false] at hx
    rcases hx with rfl | rfl | rfl | rfl | rfl
    · exact ⟨⟨rfl, fits_numF rfl h1⟩, h1⟩
    · exact ⟨⟨rfl, rfl⟩, h0⟩
    · exact ⟨⟨rfl, rfl⟩, h0⟩
    · exact ⟨⟨rfl, rfl⟩, h0⟩
    · exact ⟨⟨rfl, rfl⟩, h0⟩
theorem hpP_form (f : Rf) : ∀ L : List Int, (∀ n ∈ L, 0 ≤ n ∧ n ≤ 16383) → ∀ x ∈ hpP L, (regsF x = true ∧ numF 1 f x = true) ∧ Fits x.n
  | [], _, x, hx => by simp [hpP] at hx
  | n :: L, h, x, hx => by
    rcases List.mem_append.1 (show x ∈ hpI n ++ hpP L from hx) with q | q
    · exact hpI_form (h n (List.mem_cons_self ..)) f x q
    · exact hpP_form f L (fun y hy => h y (List.mem_cons_of_mem _ hy)) x q
theorem hp_form {C : List Ri} (h : ∀ f, ∀ x ∈ C, (regsF x = true ∧ numF 1 f x = true) ∧ Fits x.n) : formR (C ++ [⟨27, 0, 0, 0, 0⟩]) (oneF (C ++ [⟨27, 0, 0, 0, 0⟩]) 2) 0 = true ∧ ∀ x ∈ C ++ [⟨27, 0, 0, 0, 0⟩], Fits x.n := by
  refine ⟨form_one (by simp) (by omega) (fun x hx => ?_) ?_, fun x hx => ?_⟩
  · rcases List.mem_append.1 hx with q | q
    · exact (h _ x q).1
    · rw [List.mem_singleton.1 q]; exact ⟨rfl, rfl⟩
  · simp [List.getD, lastF]
  · rcases List.mem_append.1 hx with q | q
    · exact (h ⟨ByteArray.empty, 0, 0, 0, 0⟩ x q).2
    · rw [List.mem_singleton.1 q]; unfold Fits; simp
end Go.Proofs.YteplldbhfjfbpaaGreatDoor
