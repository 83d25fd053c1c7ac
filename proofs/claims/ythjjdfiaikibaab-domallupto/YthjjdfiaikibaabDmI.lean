import Derived.Test.YthjjdfiaikibaabDmH
import Derived.Deep.OwnRows
import Derived.Laws.OwnMore
set_option linter.unusedVariables false
set_option linter.unusedSimpArgs false
namespace Go.Proofs.Ythjjdfiaikibaab
open Go.ChangeShapes Go.WideShapes Go.ChangeAt Go.RowKit Go.Maps

theorem made_own (w : World) (B : Nat) (hB : B ≤ w.heap.size) (z : Value) (e : TypeId) (n : Nat) (hn : n ≤ 9223372036854775807) : (w.alloc (.cells (madeCells #[z] n) e)).ownsRow B e 1 (.slice (some ⟨w.heap.size, 0, none⟩) n n) n (List.replicate n z) :=
  ⟨by simp, .inr ⟨w.heap.size, n, madeCells #[z] n, rfl, hB, heap_alloc_new _ _, Nat.le_refl _, by unfold maxLen; omega, by rw [size_madeCells]; omega, by rw [toList_madeCells_one, List.take_of_length_le (by simp)]⟩⟩
/-- A slice of bools in a row of its own. -/
structure OwnBl (w : World) (B : Nat) (v : Value) (n : Nat) (L : List Bool) : Prop where
  len : n = L.length
  out : w.ownsRow B 4 1 v n (L.map Value.bool)
theorem OwnBl.nil (w : World) (B : Nat) : OwnBl w B (.slice none 0 0) 0 [] := ⟨rfl, World.ownsRow_nil _ _ _ _⟩
theorem OwnBl.keep {w w' B v n L} (h : OwnBl w B v n L) (hb : Below w.heap.size w w') : OwnBl w' B v n L := ⟨h.len, own_keep h.out hb.block⟩
theorem OwnBl.move {w w' : World} {B v n L} (h : OwnBl w B v n L) (hk : ∀ g, v.ownBlock = some g → w'.heap[g]? = w.heap[g]?) : OwnBl w' B v n L := ⟨h.len, own_move h.out hk⟩
theorem OwnBl.bls {w B v n L} (h : OwnBl w B v n L) : ∃ ao c, v = .slice ao n c ∧ Bls w ao c L := by
  obtain ⟨ao, c, e, h1, h2⟩ := own_slice h.out
  subst e
  refine ⟨ao, c, rfl, by rw [← h.len]; exact h1, h2, fun hn => ?_⟩
  have hp : 0 < n := by rw [h.len]; exact List.length_pos_iff.2 hn
  obtain ⟨g, c', e, _, _, hB, hg⟩ := own_some h.out hp
  cases e
  refine ⟨g, 0, rfl, hg, fun i hi => ?_⟩
  have := own_cell h.out i (by rw [h.len]; omega)
  rw [Nat.zero_add, this]
  simp [hi]
theorem OwnBl.set {w : World} {B g c n : Nat} {L : List Bool} (h : OwnBl w B (.slice (some ⟨g, 0, none⟩) n c) n L) (q : Nat) (hq : q < n) (u : Bool) : OwnBl (w.setCell ⟨g, q, none⟩ (.bool u)) B (.slice (some ⟨g, 0, none⟩) n c) n (L.set q u) :=
  ⟨by simpa using h.len, by have := own_set h.out q (by omega) (.bool u); rwa [← List.map_set] at this⟩
theorem infoBool : (Try.prog.info? 4).map (fun i => (i.zero, i.size, i.bytes)) = some (some (.bool false), 1, 1) := by kernel_rfl
def rch (n : Nat) (bl : List Int) : List Bool := (List.range n).map fun i : Nat => decide ((i : Int) ∈ bl)
theorem rch_len (n : Nat) (bl : List Int) : (rch n bl).length = n := by simp [rch]
theorem rch_nil (n : Nat) : rch n [] = List.replicate n false := by
  refine List.ext_getElem (by simp [rch]) fun i h1 h2 => ?_
  simp [rch]
theorem rch_set (n : Nat) (bl : List Int) (b : Nat) : (rch n bl).set b true = rch n (bl ++ [(b : Int)]) := by
  refine List.ext_getElem (by simp [rch]) fun i h1 h2 => ?_
  rw [List.getElem_set]
  simp only [rch, List.getElem_map, List.getElem_range, List.mem_append, List.mem_singleton]
  by_cases e : b = i
  · subst e; simp
  · rw [if_neg e]
    have : ¬ ((i : Int) = b) := by omega
    simp [this]
def reachP (Ls : List (List Int)) : List Bool := if goodP Ls = true then rch Ls.length (walkP Ls).bl else []
theorem wrun_wi {Ls : List (List Int)} (hg : goodP Ls = true) : ∀ (k : Nat) (s : DS), WI Ls s → WI Ls (wrun Ls k s)
  | 0, s, h => h
  | k + 1, s, h => by
    rw [wrun]
    split
    · exact h
    · next hne =>
      obtain ⟨bl, mt, op⟩ := s
      rcases List.eq_nil_or_concat op with he | ⟨st, ⟨b, t⟩, he⟩
      · exact absurd he hne
      · rw [List.concat_eq_append] at he
        subst he
        refine wrun_wi hg k _ ?_
        cases e : fst0 bl ((rowOf Ls b).drop t) with
        | none =>
          have : wstep Ls ⟨bl, mt, st ++ [(b, t)]⟩ = ⟨bl, mt, st⟩ := by simp [wstep, e]
          rw [this]
          exact ⟨h.nd, h.rng, h.len, fun p hp => h.ops p (by simp; exact .inl hp), by have := h.few; simp at this ⊢; omega⟩
        | some j =>
          obtain ⟨h1, h2, h3⟩ := fst0_some e
          obtain ⟨p1, p2, _⟩ := h.push hg (k := j) (by simp at h1; omega) (by simpa [List.getD] using h2) (fun i hi => by simpa [List.getD] using h3 i hi)
          rw [p2]; exact p1
theorem walkP_wi {Ls : List (List Int)} (hg : goodP Ls = true) : WI Ls (walkP Ls) := wrun_wi hg _ _ (WI.zero hg)

set_option maxHeartbeats 1000000 in
theorem reach_any (w : World) (ao : Option Addr) (n c : Nat) (Ls : List (List Int)) (hn : n = Ls.length) (h : IRow w ao c Ls) (hsz : n ≤ 100000000) :
    Calls Try.prog 10 #[.slice ao n c] w fun e w' => ∃ v, e = .returned v ∧ OwnBl w' w.heap.size v (reachP Ls).length (reachP Ls) ∧ Below w.heap.size w w' := by
  have hgd := good_any w ao n c Ls hn h
  by_cases hg : goodP Ls = true
  · rw [hg] at hgd
    have hwi := walkP_wi hg
    have hmk := run_make_row' (P := Try.prog) 36 4 (.bool false) 1 Try.underlying36 infoBool rfl .i64 .i64 n (by omega) (by omega)
    obtain ⟨w1, hw1⟩ : ∃ w1, w1 = w.alloc (.cells (madeCells #[.bool false] n) 4) := ⟨_, rfl⟩
    have o1 : OwnBl w1 w.heap.size (.slice (some ⟨w.heap.size, 0, none⟩) n n) n (rch n []) := ⟨by simp [rch], by rw [hw1, rch_nil]; simpa using made_own w w.heap.size (Nat.le_refl _) (.bool false) 4 n (by omega)⟩
    have hb1 : Below w.heap.size w w1 := by rw [hw1]; exact (Below.refl _ _).alloc (Nat.le_refl _) _
    have hs1 : w1.heap.size = w.heap.size + 1 := by rw [hw1]; simp
    have hwk := walkOf_any w1 ao n c Ls hn (h.below hb1 (Nat.le_refl _)) hg hsz
    have HN : Hid (n = Ls.length) := hn
    have HR : Hid (reachP Ls = rch n (walkP Ls).bl) := by show _ = _; rw [reachP, if_pos hg, hn]
    have HWI : Hid _ := hwi
    have HO1 : Hid _ := o1
    have HB1 : Hid _ := hb1
    have hle : (walkP Ls).bl.length ≤ n := by have := hwi.le; omega
    clear h hn hg hwi o1 hb1
    go_enter Try.func10, Try.ntmps10
    go_wp2_with fail
    refine hgd.mono ?_
    rintro e w' ⟨rfl, rfl⟩
    go_wp2_with fail
    rw [← hw1]
    refine hwk.mono ?_
    rintro e w2 ⟨rfl, ⟨v1, v2, HW⟩, hb2⟩
    clear hwk hgd hmk
    have hsB := hb2.size
    obtain ⟨a1, c1, e1, n1, n1'⟩ := own_slice HW.o1.out
    have kb : w2.cell? ⟨w1.heap.size + 1, 0, none⟩ = some v1 := cell_arr (i := 0) HW.box rfl
    rw [e1] at kb
    obtain ⟨bl, hbl⟩ : ∃ bl, bl = (walkP Ls).bl := ⟨_, rfl⟩
    rw [← hbl] at kb hle n1
    have HI1 : Hid (OwnI w2 w1.heap.size (.slice a1 bl.length c1) bl.length bl) := by have := HW.o1; rw [e1, ← hbl] at this; exact this
    have HRG : Hid (∀ x ∈ bl, 0 ≤ x ∧ x < n) := by rw [hbl]; intro x hx; have := HWI.out.rng x hx; have := HN.out; omega
    have O2 := HO1.out.keep hb2
    have HB2 : Hid (Below w'.heap.size w' w2) := HB1.out.trans (hb2.mono HB1.out.size)
    rw [← hbl] at HR
    clear HW hb2 hbl HO1 HB1 HWI e1 hw1
    rw [hs1] at kb
    go_wp2_with fail
    go_loopw [18] (fun v wr => ∃ k : Nat, k ≤ bl.length ∧ v = .int .i64 k ∧ Hid (OwnBl wr w'.heap.size (.slice (some ⟨w'.heap.size, 0, none⟩) n n) n (rch n (bl.take k))) ∧ Hid (OwnI wr w1.heap.size (.slice a1 bl.length c1) bl.length bl) ∧ Hid (Below w'.heap.size w' wr)) (fun v _ => bl.length - (intOf v).toNat)
    case atStart => exact ⟨0, by omega, rfl, O2, HI1.out, HB2.out⟩
    case round =>
      obtain ⟨k, hk, rfl, HO, HI, HB⟩ := hrel
      by_cases hlt : k < bl.length
      · obtain ⟨ao1, co1, e1, hI⟩ := HI.out.ints
        cases e1
        obtain ⟨b0, o0, rfl, kx⟩ := hI.at hlt
        have hx := HRG.out bl[k] (List.getElem_mem hlt)
        obtain ⟨x, hxx⟩ : ∃ x, x = bl[k] := ⟨_, rfl⟩
        rw [← hxx] at kx hx
        obtain ⟨xn, rfl⟩ : ∃ xn : Nat, x = (xn : Int) := ⟨x.toNat, by omega⟩
        have hxn : xn < n := by omega
        have HX : Hid ((xn : Int) = bl[k]) := hxx
        have kc : wr.cell? ⟨w'.heap.size, xn, none⟩ = some (.bool ((rch n (bl.take k))[xn]'(by rw [rch_len]; exact hxn))) := by
          have := own_cell HO.out.out xn (by omega)
          rw [this]; simp [rch_len, hxn]
        have kf := own_fz HO.out.out xn
        have HO' := HO.out.set xn hxn true
        rw [rch_set] at HO'
        have HOX : Hid _ := HO'
        have HIX : Hid (OwnI (wr.setCell ⟨w'.heap.size, xn, none⟩ (.bool true)) w1.heap.size (.slice (some ⟨b0, o0, none⟩) bl.length c1) bl.length bl) := ⟨HI.out.len, own_move HI.out.out fun g hg => heap_set_other (own_apart HI.out.out HO.out.out (by decide) g hg ∘ (fun e => by rw [e]; rfl))⟩
        have HBX : Hid (Below w'.heap.size w' (wr.setCell ⟨w'.heap.size, xn, none⟩ (.bool true))) := HB.out.setCell (Nat.le_refl _) _
        clear hxx hx hI HO'
        go_wp2_with fail
        go_roundw
        case rel =>
          refine ⟨k + 1, by omega, by go_num, ?_, HIX.out, HBX.out⟩
          rw [← List.take_append_getElem hlt, ← HX.out]
          exact HOX.out
        case measure => simp [intOf]; omega
      · have hkn : k = bl.length := by omega
        subst hkn
        go_wp2_with fail
        go_ret
        have := HO.out
        rw [List.take_of_length_le (Nat.le_refl _)] at this
        refine ⟨_, rfl, ?_, HB.out⟩
        rw [HR.out, rch_len]
        exact this
  · have hf : goodP Ls = false := by simpa using hg
    have HR : Hid (reachP Ls = []) := by show _ = _; rw [reachP, if_neg hg]
    rw [hf] at hgd
    clear h hg hf hn
    go_enter Try.func10, Try.ntmps10
    go_wp2_with fail
    refine hgd.mono ?_
    rintro e w' ⟨rfl, rfl⟩
    go_wp2_with fail
    go_ret
    rw [HR.out]
    exact ⟨_, rfl, OwnBl.nil _ _, Below.refl _ _⟩
end Go.Proofs.Ythjjdfiaikibaab
