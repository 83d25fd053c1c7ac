import Derived.Test.YtpgbkkllnbahpaaSoB
set_option linter.unusedVariables false
set_option linter.unusedSimpArgs false
namespace Go.Proofs.Ytpgbkkllnbahpaa

/-- A state whose places have one more behind. -/
def SS.ext (s : SS) : SS := ⟨s.act, s.sp, s.pl ++ [(0, 0)], s.sl⟩
theorem plc_ext {pl : List Lc} {r : Int} (h : 0 ≤ r ∧ r < (pl.length : Int)) : plc (pl ++ [(0, 0)]) r = plc pl r := by
  unfold plc
  simp only [List.getD_eq_getElem?_getD]
  rw [List.getElem?_append_left (by omega)]
theorem fre_ext (F : Int) (pl : List Lc) : ∀ (a : List Iv) (sp : List Int), (∀ y ∈ a, 0 ≤ y.1 ∧ y.1 < (pl.length : Int)) → fre F (pl ++ [(0, 0)]) a sp = fre F pl a sp
  | [], sp, _ => rfl
  | x :: a, sp, h => by
    unfold fre
    rw [plc_ext (h x (by simp)), fre_ext F pl a _ fun y hy => h y (by simp [hy])]
theorem free_ext {s : SS} (h : InR s) (F : Int) : s.ext.free F = (s.free F).ext := by
  unfold SS.free SS.ext
  simp only [fre_ext F s.pl s.act s.sp h]
theorem set_ext {pl : List Lc} {q : Nat} (h : q < pl.length) (p : Lc) : (pl ++ [(0, 0)]).set q p = pl.set q p ++ [(0, 0)] := List.set_append_left _ _ h
theorem take_ext {s : SS} (h : InR s) {x : Iv} (hx : 0 ≤ x.1 ∧ x.1 < (s.pl.length : Int)) : s.ext.take x = (s.take x).ext := by
  have hl : 0 ≤ (lastOf (wth (aft x) x s.act)).1 ∧ (lastOf (wth (aft x) x s.act)).1 < (s.pl.length : Int) := by
    have hne : wth (aft x) x s.act ≠ [] := by intro q; have := wth_len (aft x) x s.act; rw [q] at this; simp at this
    rcases wth_mem.1 (lastOf_mem hne) with q | q
    · rw [q]; exact hx
    · exact h _ q
  unfold SS.take SS.ext
  simp only
  split
  · next r sp e => simp only [set_ext (show x.1.toNat < s.pl.length by omega)]
  · next e =>
    simp only [plc_ext hl, set_ext (show x.1.toNat < s.pl.length by omega)]
    rw [set_ext (by simp; omega)]
theorem scnN_ext {L : List Iv} {r m : Nat} (h : ∀ x ∈ L, 0 ≤ x.1 ∧ x.1 < (m : Int)) (k : Nat) (hk : k ≤ L.length) : scnN (L.take k) r (m + 1) = (scnN (L.take k) r m).ext := by
  induction k with
  | zero =>
    unfold scnN SS.ext SS.init
    simp [List.replicate_succ']
  | succ k ih =>
    have hk' : k < L.length := by omega
    have hb := Bnd.scan (r := r) h k (by omega)
    rw [scnN_step hk', scnN_step hk', ih (by omega), free_ext hb.inr, take_ext (hb.free _).inr (by rw [(hb.free _).pl]; exact h _ (List.getElem_mem hk'))]
/-- What comes behind all others gets the first register. -/
theorem scan_on {L : List Iv} (h : Srt L) {r : Nat} (hr : 1 ≤ r) {x : Iv} (hx : x.1 = grt L + 1) (ht : ∀ y ∈ L, y.2.2 < x.2.1) : (scn (L ++ [x]) r).pl = (scn L r).pl ++ [(1, 0)] ∧ (scn (L ++ [x]) r).sl = (scn L r).sl := by
  have g := h.g1
  obtain ⟨m, hm⟩ : ∃ m : Nat, m = (grt L + 1).toNat := ⟨_, rfl⟩
  have hge := grt_ge L
  have e1 : grt (L ++ [x]) = (m : Int) := by
    have : grt (L ++ [x]) = max (grt L) x.1 := by unfold grt; rw [List.foldl_append]; rfl
    rw [this, hx]
    omega
  have e2 : scn (L ++ [x]) r = ((scnN L r (m + 1)).free x.2.1).take x := by
    unfold scn
    rw [e1, show ((m : Int) + 1).toNat = m + 1 by omega]
    unfold scnN
    rw [List.foldl_append]
    rfl
  have hreg : ∀ y ∈ L, 0 ≤ y.1 ∧ y.1 < (m : Int) := by rw [hm]; exact g.reg
  have e3 : scnN L r (m + 1) = (scnN L r m).ext := by
    have := scnN_ext (r := r) hreg L.length (Nat.le_refl _)
    rwa [List.take_of_length_le (Nat.le_refl _)] at this
  have e4 : scn L r = scnN L r m := by unfold scn; rw [hm]
  have hb : Bnd (scnN L r m) m L.length r := by
    have := Bnd.scan (r := r) hreg L.length (Nat.le_refl _)
    rwa [List.take_of_length_le (Nat.le_refl _)] at this
  obtain ⟨F, hinv, _⟩ := inv_scan (r := r) (m := m) (by rw [hm]; exact g) L.length (Nat.le_refl _)
  rw [List.take_of_length_le (Nat.le_refl _)] at hinv
  have hF : Inv L r L.length (max F x.2.1) ((scnN L r m).free (max F x.2.1)) := hinv.free (by omega)
  rw [e2, e3, free_ext hb.inr]
  obtain ⟨k1, k2, k3, k4⟩ := fre_inv x.2.1 (scnN L r m).pl r (scnN L r m).act (scnN L r m).sp hinv.srt hinv.sps (fun y hy => by
    obtain ⟨q1, q2, _⟩ := (hinv.act y).1 hy
    rcases hinv.kin y q1 with q | q
    · exact q.2
    · omega) hinv.spm hinv.dis
  have ha : ((scnN L r m).free x.2.1).act = [] := by
    rw [List.eq_nil_iff_forall_not_mem]
    intro y hy
    have h1 := (k1 y).1 hy
    have h2 := (hinv.act y).1 h1.1
    have := ht y (List.mem_of_mem_take h2.1)
    omega
  have hsp : ∃ sp, ((scnN L r m).free x.2.1).sp = 0 :: sp := by
    have ha' : (fre x.2.1 (scnN L r m).pl (scnN L r m).act (scnN L r m).sp).1 = [] := ha
    have h0 : (0 : Int) ∈ ((scnN L r m).free x.2.1).sp := (k4 0).2 ⟨by omega, by omega, fun y hy => by rw [ha'] at hy; simp at hy⟩
    cases hs : ((scnN L r m).free x.2.1).sp with
    | nil => rw [hs] at h0; simp at h0
    | cons q sp =>
      have hq : q ∈ ((scnN L r m).free x.2.1).sp := by rw [hs]; simp
      have hq0 := ((k4 q).1 hq).1
      have k3' : (((scnN L r m).free x.2.1).sp).Pairwise (· < ·) := k3
      rw [hs] at h0 k3'
      rcases List.mem_cons.1 h0 with e | e
      · exact ⟨sp, by rw [← e]⟩
      · have := (List.pairwise_cons.1 k3').1 0 e
        omega
  obtain ⟨sp, hsp⟩ := hsp
  have hpl : ((scnN L r m).free x.2.1).pl = (scnN L r m).pl := rfl
  have hsl : ((scnN L r m).free x.2.1).sl = (scnN L r m).sl := rfl
  rw [e4]
  unfold SS.take SS.ext
  simp only [hsp, hpl, hsl]
  refine ⟨?_, by trivial⟩
  rw [hx, ← hm, List.set_append_right _ _ (by rw [hb.pl]; omega), hb.pl]
  simp
end Go.Proofs.Ytpgbkkllnbahpaa
