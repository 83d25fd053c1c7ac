import Derived.Test.YtjepkcebfojiaaaDoorTrL
set_option linter.unusedVariables false
set_option linter.unusedSimpArgs false
namespace Go.Proofs.YtjepkcebfojiaaaDoor
open Go.ChangeShapes Go.WideShapes Go.ChangeAt Go.RowKit

theorem cellA {w : World} {ob : Obj} {a : Addr} {v : Value} (h : w.cell? a = some v) : (w.alloc ob).cell? a = some v := by
  have hlt : a.block < w.heap.size := block_lt_of_cell h
  rw [World.cell?_of_block (w := w) (w' := w.alloc ob) (heap_alloc_old w ob hlt)]; exact h
theorem cellD {w : World} {a : Addr} {v : Value} (h : w.cell? a = some v) : w.drew.cell? a = some v := h
theorem ptv_new (w : World) (C : Array Value) (t : TypeId) (L : List Pt) (n g : Nat) (hg : g = w.heap.size) (hC : C.toList = pcs L) (hn : n = L.length) (hl : n ≤ 9223372036854775807) : PtV (w.alloc (.cells C t)) (some ⟨g, 0, none⟩) n L := by
  subst hg
  refine ⟨by omega, hl, fun _ => ⟨w.heap.size, rfl, by simp, fun i hi => ?_⟩⟩
  have hc : ∀ j, j < 3 → (w.alloc (.cells C t)).cell? ⟨w.heap.size, i * 3 + j, none⟩ = (pc L[i])[j]? := by
    intro j hj
    have h1 := pcs_at L i hi j hj
    rw [← h1, ← hC]
    simp
  exact ⟨hc 0 (by omega), hc 1 (by omega), hc 2 (by omega)⟩
theorem PtV.drewN {w a c L} (h : PtV w a c L) (q : Nat) : PtV (w.drewN q) a c L := h.oth (fun _ _ _ => rfl) (Nat.le_refl _)

theorem PSt.le {w B F pb nv S} (h : PSt w B F pb nv S) : B ≤ F := by obtain ⟨_, _, _, _, h⟩ := h.out; have := h.base; have := h.lt; omega
/-- Parts that were just made are put. -/
theorem put_new (W0 : World) (C : Array Value) (B F pb : Nat) (nv : Value) (S : Ps) (L : List Pt) (n g : Nat) (hS : PSt W0 B F pb nv S) (hF : F ≤ W0.heap.size) (hg : g = W0.heap.size) (hC : C.toList = pcs L) (hn : n = L.length) (hmn : S.todo.length + n ≤ 100000000) :
    Calls Tryd.prog 17 #[.pointer (some ⟨pb, 0, none⟩), .slice (some ⟨g, 0, none⟩) n n] (W0.alloc (.cells C 52)) fun e w' => e = .returned (.tuple #[]) ∧ PSt w' B w'.heap.size pb nv ⟨S.text, L ++ S.todo, S.opn⟩ ∧ Below B W0 w' ∧ (∀ a v, (F ≤ a.block ∨ a.block < B) → W0.cell? a = some v → w'.cell? a = some v) := by
  have hB := hS.le
  refine (put_st _ B F pb nv S L n _ n (hS.below ((Below.refl _ _).alloc hF _) (Nat.le_refl _)) (by simp; omega) (ptv_new _ _ _ _ _ _ hg hC hn (by omega)) hn hmn (fun g' hg' => by cases hg'; omega)).mono ?_
  rintro e w' ⟨h1, h2, h3, h4⟩
  exact ⟨h1, h2, ((Below.refl _ _).alloc (by omega) _).trans h3, fun a v ha hv => h4 a v ha (cellA hv)⟩

theorem put_newD (W0 : World) (C : Array Value) (B F pb : Nat) (nv : Value) (S : Ps) (L : List Pt) (n g : Nat) (hS : PSt W0 B F pb nv S) (hF : F ≤ W0.heap.size) (hg : g = W0.heap.size) (hC : C.toList = pcs L) (hn : n = L.length) (hmn : S.todo.length + n ≤ 100000000) :
    Calls Tryd.prog 17 #[.pointer (some ⟨pb, 0, none⟩), .slice (some ⟨g, 0, none⟩) n n] ((W0.alloc (.cells C 52)).drew) fun e w' => e = .returned (.tuple #[]) ∧ PSt w' B w'.heap.size pb nv ⟨S.text, L ++ S.todo, S.opn⟩ ∧ Below B W0 w' ∧ (∀ a v, (F ≤ a.block ∨ a.block < B) → W0.cell? a = some v → w'.cell? a = some v) := by
  have hB := hS.le
  refine (put_st _ B F pb nv S L n _ n (hS.below ((Below.refl _ _).alloc hF _).drew (Nat.le_refl _)) (by rw [drew_heap]; simp; omega) ((ptv_new _ _ _ _ _ _ hg hC hn (by omega)).oth (fun _ _ _ => rfl) (Nat.le_refl _)) hn hmn (fun g' hg' => by cases hg'; omega)).mono ?_
  rintro e w' ⟨h1, h2, h3, h4⟩
  exact ⟨h1, h2, (((Below.refl _ _).alloc (by omega) _).drew).trans h3, fun a v ha hv => h4 a v ha (cellA hv)⟩

set_option maxRecDepth 10000 in
set_option maxHeartbeats 4000000 in
theorem putWith_st (w : World) (B F pb : Nat) (nv : Value) (S : Ps) (hS : PSt w B F pb nv S) (hF : F ≤ w.heap.size) (hmn : S.todo.length + 4 ≤ 100000000) (head lead : List UInt8) (a : Option Addr) (c n : Nat) (L : List Int) (hL : Ints w a c L) (hn : n = L.length) :
    Calls Tryd.prog 53 #[.pointer (some ⟨pb, 0, none⟩), .string (bs head), .string (bs lead), .slice a n c] w fun e w' => e = .returned (.tuple #[]) ∧ PSt w' B w'.heap.size pb nv ⟨S.text, valParts head lead L ++ S.todo, S.opn⟩ ∧ Below B w w' := by
  have hB := hS.le
  have b1 : n ≤ 9223372036854775807 := by have := hL.le; have := hL.mx; omega
  cases L with
  | nil =>
    simp at hn
    subst hn
    go_enter Tryd.func53, Tryd.ntmps53
    go_wp2_with (first
      | (go_at_call 44; refine (text_any _ _).mono ?_; rintro e w' ⟨rfl, rfl⟩)
      | (go_at_call 17; refine (put_new _ _ B F pb nv S (valParts head lead []) 2 _ (hS.below (by repeat (first | refine Below.alloc ?_ (by first | omega | (simp; omega)) _ | refine Below.drew ?_ | exact Below.refl _ _)) (Nat.le_refl _)) (by simp; omega) (by simp) rfl rfl (by omega)).mono ?_; rintro e w' ⟨rfl, HS, hb, _⟩; have hbb : Below B w w' := (by refine Below.trans ?_ hb; exact (by repeat (first | refine Below.alloc ?_ (by first | omega | (simp; omega)) _ | refine Below.drew ?_ | exact Below.refl _ _))); clear hb))
    refine bodyPost_ret (v := .tuple #[]) (by simp [results, Tryd.results53, go_sem]) rfl ⟨rfl, HS, hbb⟩
  | cons k L =>
    obtain ⟨b, o, rfl, hA⟩ := hL.out (by simp)
    have p0 := hA.cell 0 (by simp)
    simp at p0
    have hn1 : 0 < n := by rw [hn]; simp
    have hl0 := hA.lt
    have hl1 : b < w.heap.size + 1 := by omega
    have hl2 : b < w.heap.size + 1 + 1 := by omega
    have hl3 : b < w.heap.size + 1 + 1 + 1 := by omega
    have HN : Hid _ := hn
    clear hn
    go_enter Tryd.func53, Tryd.ntmps53
    go_wp2_with fail
    go_region_with (first
      | (go_at_call 44; refine (text_any _ _).mono ?_; rintro e w' ⟨rfl, rfl⟩)
      | (go_at_call 18; refine (whole_any _ _).mono ?_; rintro e w' ⟨rfl, rfl⟩)
      | (go_at_call 17; refine (put_newD _ _ B F pb nv S (valParts head lead (k :: L)) 4 _ (hS.below (by repeat (first | refine Below.alloc ?_ (by first | omega | (simp; omega)) _ | refine Below.drew ?_ | exact Below.refl _ _)) (Nat.le_refl _)) (by simp; omega) (by simp) rfl rfl (by omega)).mono ?_; rintro e w' ⟨rfl, HS, hb, _⟩; have hbb : Below B w w' := (by refine Below.trans ?_ hb; exact (by repeat (first | refine Below.alloc ?_ (by first | omega | (simp; omega)) _ | refine Below.drew ?_ | exact Below.refl _ _))); clear hb))
    all_goals exact bodyPost_end (v := .tuple #[]) (by simp [results, Tryd.results53, go_sem]) rfl ⟨rfl, HS, hbb⟩
end Go.Proofs.YtjepkcebfojiaaaDoor
