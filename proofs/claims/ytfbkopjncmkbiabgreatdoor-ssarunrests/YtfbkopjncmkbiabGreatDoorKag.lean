import Derived.Laws.AppendOwnNone
import Derived.Deep.Cut
import Derived.SizedLaws
import Derived.Deep.Slices
import Derived.OpenShut
import Derived.ChangeOld
import Derived.ChangeSlices
import Derived.ArgAppend
import Derived.Test.YtfbkopjncmkbiabGreatDoorKaf
set_option linter.unusedVariables false
set_option linter.unusedSimpArgs false
namespace Go.Proofs.YtfbkopjncmkbiabGreatDoor
open Go.ChangeShapes Go.WideShapes Go.ChangeAt Go.RowKit Go.Maps
def treeIn (bl over : List Int) (n : Nat) : Nat -> List Int
 | 0 => List.replicate n (-1)
 | k + 1 => if k = 0 then treeIn bl over n 0 else (treeIn bl over n k).set (gn bl k).toNat (gn bl (gn over k).toNat)
def treeP (Ls : List (List Int)) : List Int := if goodP Ls = true then treeIn (walkP Ls).bl (domP (walkP Ls).mt (srcs (walkP Ls).bl Ls)) Ls.length (walkP Ls).bl.length else []
theorem treeIn_len (bl over : List Int) (n : Nat) : ∀ k, (treeIn bl over n k).length = n
 | 0 => by simp [treeIn]
 | k + 1 => by
   rw [treeIn]
   split
   ·simp [treeIn]
   ·rw [List.length_set]; exact treeIn_len bl over n k
structure WJ (Ls : List (List Int)) (s : DS) : Prop where
 mt : ∀ i, 1 <= i -> i < s.bl.length -> 0 <= gn s.mt i /\ gn s.mt i < i
 pos : 0 < s.bl.length
theorem WJ.zero (Ls : List (List Int)) : WJ Ls ds0 := ⟨fun i h1 h2 => by simp [ds0] at h2; omega, by simp [ds0]⟩
theorem gn_app {l r : List Int} {i : Nat} (h : i < l.length) : gn (l ++ r) i = gn l i := by
 unfold gn
 rw [List.getD, List.getD, List.getElem?_append_left h]
theorem WJ.step {Ls : List (List Int)} {s : DS} (h : WI Ls s) (j : WJ Ls s) : WJ Ls (wstep Ls s) := by
 obtain ⟨bl, mt, op⟩ := s
 rcases List.eq_nil_or_concat op with he | ⟨st, ⟨b, t⟩, he⟩
 ·subst he; exact j
 ·rw [List.concat_eq_append] at he
  subst he
  have hl := h.len
  have jp := j.pos
  have jm := j.mt
  simp only at hl jp jm
  cases e : fst0 bl ((rowOf Ls b).drop t) with
  | none =>
    have e2 : wstep Ls ⟨bl, mt, st ++ [(b, t)]⟩ = ⟨bl, mt, st⟩ := by simp [wstep, e]
    rw [e2]; exact ⟨j.mt, j.pos⟩
  | some k =>
    have e2 : wstep Ls ⟨bl, mt, st ++ [(b, t)]⟩ = ⟨bl ++ [((rowOf Ls b).drop t).getD k 0], mt ++ [plc bl b], st ++ [(b, t + k + 1), (((rowOf Ls b).drop t).getD k 0, 0)]⟩ := by simp [wstep, e]
    rw [e2]
    refine ⟨fun i h1 h2 => ?_, by simp⟩
    simp only [List.length_append, List.length_cons, List.length_nil] at h2 ⊢
    by_cases hi : i < bl.length
    ·rw [gn_app (by omega)]; exact jm i h1 hi
    ·have e3 : i = bl.length := by omega
     have e4 : gn (mt ++ [plc bl b]) i = plc bl b := by simp [gn, List.getD, e3, <- hl]
     rw [e4]
     have hb : b ∈ bl := (h.ops (b, t) (by simp)).1
     unfold plc
     rw [if_pos hb]
     have := List.idxOf_lt_length_of_mem hb
     omega
theorem wrun_wj {Ls : List (List Int)} (hg : goodP Ls = true) : ∀ (k : Nat) (s : DS), WI Ls s -> WJ Ls s -> WJ Ls (wrun Ls k s)
 | 0, s, _, j => j
 | k + 1, s, h, j => by
   rw [wrun]
   split
   ·exact j
   ·next hne =>
    refine wrun_wj hg k _ ?_ (j.step h)
    have := wrun_wi hg 1 s h
    rw [wrun, if_neg hne, wrun] at this
    exact this
theorem walkP_wj {Ls : List (List Int)} (hg : goodP Ls = true) : WJ Ls (walkP Ls) := wrun_wj hg _ _ (WI.zero hg) (WJ.zero Ls)
theorem wstep_two {Ls : List (List Int)} (hg : goodP Ls = true) {bl mt : List Int} {st : List (Int × Nat)} {b : Int} {t : Nat} (h : WI Ls ⟨bl, mt, st ++ [(b, t)]⟩) :
 ((∀ i, t + i < (rowOf Ls b).length -> (rowOf Ls b).getD (t + i) 0 ∈ bl) /\ WI Ls ⟨bl, mt, st⟩ /\ wstep Ls ⟨bl, mt, st ++ [(b, t)]⟩ = ⟨bl, mt, st⟩ /\ msr Ls.length ⟨bl, mt, st ++ [(b, t)]⟩ = msr Ls.length ⟨bl, mt, st⟩ + 1) \/
 ∃ k x, t + k < (rowOf Ls b).length /\ x = (rowOf Ls b).getD (t + k) 0 /\ (∀ i, i < k -> (rowOf Ls b).getD (t + i) 0 ∈ bl) /\ WI Ls ⟨bl ++ [x], mt ++ [plc bl b], st ++ [(b, t + k + 1), (x, 0)]⟩ /\ wstep Ls ⟨bl, mt, st ++ [(b, t)]⟩ = ⟨bl ++ [x], mt ++ [plc bl b], st ++ [(b, t + k + 1), (x, 0)]⟩ /\ msr Ls.length ⟨bl, mt, st ++ [(b, t)]⟩ = msr Ls.length ⟨bl ++ [x], mt ++ [plc bl b], st ++ [(b, t + k + 1), (x, 0)]⟩ + 1 := by
 cases e : fst0 bl ((rowOf Ls b).drop t) with
 | none =>
   left
   have hall : ∀ i, t + i < (rowOf Ls b).length -> (rowOf Ls b).getD (t + i) 0 ∈ bl := by
    have key : ∀ l : List Int, fst0 bl l = none -> ∀ i, i < l.length -> l.getD i 0 ∈ bl := by
     intro l
     induction l with
     | nil => intro _ i hi; simp at hi
     | cons y l ih =>
       intro h0 i hi
       simp only [fst0] at h0
       split at h0
       ·next hy =>
        cases i with
        | zero => simpa using hy
        | succ i => simpa using ih (by simpa using h0) i (by simpa using hi)
       ·cases h0
    intro i hi
    have := key _ e i (by simp; omega)
    simpa [List.getD] using this
   exact ⟨hall, h.pop hall⟩
 | some k =>
   right
   obtain ⟨h1, h2, h3⟩ := fst0_some e
   have a1 : t + k < (rowOf Ls b).length := by simp at h1; omega
   have a2 : (rowOf Ls b).getD (t + k) 0 ∉ bl := by simpa [List.getD] using h2
   have a3 : ∀ i, i < k -> (rowOf Ls b).getD (t + i) 0 ∈ bl := fun i hi => by simpa [List.getD] using h3 i hi
   obtain ⟨p1, p2, p3, _⟩ := h.push hg a1 a2 a3
   exact ⟨k, _, a1, rfl, a3, p1, p2, p3⟩
theorem wrun_end {Ls : List (List Int)} (hg : goodP Ls = true) : ∀ (k : Nat) (s : DS), WI Ls s -> msr Ls.length s <= k -> (wrun Ls k s).op = []
 | 0, s, h, hk => by
   have : s.op.length = 0 := by simp [msr] at hk; exact hk.2 ▸ (by simp [hk.2])
   exact List.length_eq_zero_iff.1 this
 | k + 1, s, h, hk => by
   rw [wrun]
   split
   ·assumption
   ·next hne =>
    obtain ⟨bl, mt, op⟩ := s
    rcases List.eq_nil_or_concat op with he | ⟨st, ⟨b, t⟩, he⟩
    ·exact absurd he hne
    ·rw [List.concat_eq_append] at he
     subst he
     rcases wstep_two hg h with ⟨_, p1, p2, p3⟩ | ⟨j, x, _, _, _, p1, p2, p3⟩
     ·rw [p2]; exact wrun_end hg k _ p1 (by omega)
     ·rw [p2]; exact wrun_end hg k _ p1 (by omega)
def WC (Ls : List (List Int)) (s : DS) : Prop := ∀ x ∈ s.bl, (∃ t, (x, t) ∈ s.op /\ ∀ i, i < t -> i < (rowOf Ls x).length -> (rowOf Ls x).getD i 0 ∈ s.bl) \/ ∀ i, i < (rowOf Ls x).length -> (rowOf Ls x).getD i 0 ∈ s.bl
theorem wrun_wc {Ls : List (List Int)} (hg : goodP Ls = true) : ∀ (k : Nat) (s : DS), WI Ls s -> WC Ls s -> WC Ls (wrun Ls k s)
 | 0, s, _, c => c
 | k + 1, s, h, c => by
   rw [wrun]
   split
   ·exact c
   ·next hne =>
    obtain ⟨bl, mt, op⟩ := s
    rcases List.eq_nil_or_concat op with he | ⟨st, ⟨b, t⟩, he⟩
    ·exact absurd he hne
    ·rw [List.concat_eq_append] at he
     subst he
     rcases wstep_two hg h with ⟨hall, p1, p2, p3⟩ | ⟨j, x, hj, hx, hb, p1, p2, p3⟩
     ·rw [p2]
      refine wrun_wc hg k _ p1 fun y hy => ?_
      rcases c y hy with ⟨t', h1, h2⟩ | h1
      ·simp only [List.mem_append, List.mem_singleton] at h1
       rcases h1 with h1 | h1
       ·exact .inl ⟨t', h1, h2⟩
       ·simp only [Prod.mk.injEq] at h1
        obtain ⟨rfl, rfl⟩ := h1
        right
        intro i hi
        by_cases hit : i < t'
        ·exact h2 i hit hi
        ·have := hall (i - t') (by omega)
         rwa [show t' + (i - t') = i by omega] at this
      ·exact .inr h1
     ·rw [p2]
      refine wrun_wc hg k _ p1 fun y hy => ?_
      simp only [List.mem_append, List.mem_singleton] at hy
      rcases hy with hy | rfl
      ·rcases c y hy with ⟨t', h1, h2⟩ | h1
       ·simp only [List.mem_append, List.mem_singleton] at h1
        rcases h1 with h1 | h1
        ·exact .inl ⟨t', by simp [h1], fun i hi hl => List.mem_append_left _ (h2 i hi hl)⟩
        ·simp only [Prod.mk.injEq] at h1
         obtain ⟨rfl, rfl⟩ := h1
         refine .inl ⟨t' + j + 1, by simp, fun i hi hl => ?_⟩
         by_cases h4 : i < t'
         ·exact List.mem_append_left _ (h2 i h4 hl)
         ·by_cases h5 : i = t' + j
          ·subst h5; rw [<- hx]; simp
          ·have := hb (i - t') (by omega)
           rw [show t' + (i - t') = i by omega] at this
           exact List.mem_append_left _ this
       ·exact .inr fun i hi => List.mem_append_left _ (h1 i hi)
      ·exact .inl ⟨0, by simp, fun i hi => by omega⟩
theorem walkP_closed {Ls : List (List Int)} (hg : goodP Ls = true) : ∀ x ∈ (walkP Ls).bl, ∀ y ∈ rowOf Ls x, y ∈ (walkP Ls).bl := by
 have h0 : WC Ls ds0 := by
  intro x hx
  simp [ds0] at hx
  subst hx
  exact .inl ⟨0, by simp [ds0], fun i hi => by omega⟩
 have he := wrun_end hg (msr Ls.length ds0) ds0 (WI.zero hg) (Nat.le_refl _)
 have hc := wrun_wc hg (msr Ls.length ds0) ds0 (WI.zero hg) h0
 intro x hx y hy
 obtain ⟨i, hi, rfl⟩ := List.mem_iff_getElem.1 hy
 rcases hc x hx with ⟨t, h1, _⟩ | h1
 ·rw [he] at h1; simp at h1
 ·have := h1 i hi
  have e3 : (rowOf Ls x).getD i 0 = (rowOf Ls x)[i] := by simp [hi]
  rw [e3] at this
  exact this
theorem srcIn_ok {n : Nat} {bl : List Int} {k : Nat} (hk : k < n) : ∀ (row : List Int) (S : List (List Int)), S.length = n -> (∀ l ∈ S, ∀ y ∈ l, 0 <= y /\ y < (n : Int)) -> (srcIn bl k row S).length = n /\ ∀ l ∈ srcIn bl k row S, ∀ y ∈ l, 0 <= y /\ y < (n : Int)
 | [], S, h1, h2 => ⟨h1, h2⟩
 | x :: row, S, h1, h2 => by
   refine srcIn_ok hk row _ (by simpa using h1) fun l hl y hy => ?_
   rcases List.mem_or_eq_of_mem_set hl with h | rfl
   ·exact h2 l h y hy
   ·rcases List.mem_append.1 hy with h | h
    ·by_cases hp : (plc bl x).toNat < S.length
     ·have e : S.getD (plc bl x).toNat [] = S[(plc bl x).toNat] := by simp [hp]
      rw [e] at h
      exact h2 _ (List.getElem_mem hp) y h
     ·rw [List.getD, List.getElem?_eq_none (by omega)] at h
      simp at h
    ·simp at h; omega
theorem srcN_ok (bl : List Int) (Ls : List (List Int)) : ∀ k, k <= bl.length -> (srcN bl Ls k).length = bl.length /\ ∀ l ∈ srcN bl Ls k, ∀ y ∈ l, 0 <= y /\ y < (bl.length : Int)
 | 0, _ => ⟨by simp [srcN], fun l hl y hy => by simp [srcN] at hl; rw [hl.2] at hy; simp at hy⟩
 | k + 1, hk => by
   obtain ⟨h1, h2⟩ := srcN_ok bl Ls k (by omega)
   exact srcIn_ok (by omega) _ _ h1 h2
theorem own_of_exact {w : World} {B g n : Nat} {L : List Int} (hL : L.length = n) (hn : n <= 9223372036854775807) (hB : B <= g) (h : w.heap[g]? = some (.cells (ivs L).toArray 3 (0, 0))) : OwnI w B (.slice (some ⟨g, 0, none⟩) n n) n L :=
 ⟨hL.symm, by simp [ivs, hL], .inr ⟨g, n, (ivs L).toArray, rfl, hB, h, Nat.le_refl _, by unfold maxLen; omega, by simp [ivs, hL], List.take_of_length_le (by simp [ivs, hL])⟩⟩
theorem row_set {w : World} {g i : Nat} {L : List Int} {v : Int} (h : w.heap[g]? = some (.cells (ivs L).toArray 3 (0, 0))) : (w.setCell ⟨g, i, none⟩ (.int .i64 v)).heap[g]? = some (.cells (ivs (L.set i v)).toArray 3 (0, 0)) := by
 have := heap_set_at (i := i) (v := .int .i64 v) h
 rw [ivs_set] at this; exact this
theorem domP_ok {mt : List Int} {fr : List (List Int)} (hp : 0 < mt.length) (hfl : fr.length = mt.length) (hs : ∀ l ∈ fr, ∀ y ∈ l, 0 <= y /\ y < (mt.length : Int)) (hmt : ∀ i, 1 <= i -> i < mt.length -> 0 <= gn mt i /\ gn mt i < i) : (domP mt fr).length = mt.length /\ ∀ i, i < mt.length -> 0 <= gn (domP mt fr) i /\ gn (domP mt fr) i < (mt.length : Int) := by
 have key : ∀ (k : Nat) (s : St), k < mt.length -> FI mt.length s.door s.f -> s.over.length = mt.length -> (∀ i, i < mt.length -> 0 <= gn s.over i /\ gn s.over i < (mt.length : Int)) -> (∀ a, ∀ x ∈ s.wt a, 0 <= x /\ x < (mt.length : Int)) -> (drun mt fr k s).over.length = mt.length /\ ∀ i, i < mt.length -> 0 <= gn (drun mt fr k s).over i /\ gn (drun mt fr k s).over i < (mt.length : Int) := by
  intro k
  induction k with
  | zero => intro s _ _ h2 h3 _; exact ⟨h2, h3⟩
  | succ k ih =>
    intro s hk h1 h2 h3 h4
    rw [drun]
    have hx : k + 1 < mt.length := hk
    have hm := hmt (k + 1) (by omega) hx
    have hsr : ∀ y ∈ fr.getD (k + 1) [], 0 <= y /\ y < (mt.length : Int) := by
     have hf : k + 1 < fr.length := by omega
     have e : fr.getD (k + 1) [] = fr[k + 1] := by simp [hf]
     rw [e]; exact hs _ (List.getElem_mem hf)
    have f1 := dIn_fi hx (fr.getD (k + 1) []) hsr h1
    have f2 := f1.hang hx (v := gn mt (k + 1)) (by omega) (by omega)
    have hwt : ∀ a, ∀ x ∈ upd s.wt (gn (dIn (k + 1) (fr.getD (k + 1) []) (s.door, s.f)).1 (k + 1)) (s.wt (gn (dIn (k + 1) (fr.getD (k + 1) []) (s.door, s.f)).1 (k + 1)) ++ [((k + 1 : Nat) : Int)]) a, 0 <= x /\ x < (mt.length : Int) := by
     intro a x hxx
     unfold upd at hxx
     split at hxx
     ·rcases List.mem_append.1 hxx with h | h
      ·exact h4 _ x h
      ·simp at h; omega
     ·exact h4 _ x hxx
    obtain ⟨g1, g2, g3⟩ := dOv_ok (n := mt.length) (above := (gn mt (k + 1)).toNat) (by omega) (upd s.wt (gn (dIn (k + 1) (fr.getD (k + 1) []) (s.door, s.f)).1 (k + 1)) (s.wt (gn (dIn (k + 1) (fr.getD (k + 1) []) (s.door, s.f)).1 (k + 1)) ++ [((k + 1 : Nat) : Int)]) (gn mt (k + 1))) (s.over, ⟨(dIn (k + 1) (fr.getD (k + 1) []) (s.door, s.f)).2.up.set (k + 1) (gn mt (k + 1)), (dIn (k + 1) (fr.getD (k + 1) []) (s.door, s.f)).2.best⟩) (hwt _) f2 h2 h3
    refine ih _ (by omega) g1 g2 g3 fun a x hxx => ?_
    simp only [dstep] at hxx
    unfold upd at hxx
    split at hxx
    ·simp at hxx
    ·exact hwt a x (by unfold upd; exact hxx)
 obtain ⟨q1, q2⟩ := key (mt.length - 1) (st0 mt.length) (by omega) (FI.zero _) (by simp [st0]) (fun i hi => by rw [gn_at (by simpa [st0] using hi)]; simp [st0]; omega) (fun a x hx => by simp [st0] at hx)
 exact fpass_ok _ _ (by omega) q1 q2
set_option maxRecDepth 100000 in
set_option maxHeartbeats 4000000 in
theorem tree_any (w : World) (ao : Option Addr) (n c : Nat) (Ls : List (List Int)) (hn : n = Ls.length) (h : IRow w ao c Ls) (hsz : n <= 1000000) (hM : ∀ l ∈ Ls, l.length <= 1000000) :
 Calls Tryz.prog 101 #[.slice ao n c] w fun e w' => ∃ v, e = .returned v /\ OwnI w' w.heap.size v (treeP Ls).length (treeP Ls) /\ Below w.heap.size w w' := by
 have hgd := good_any w ao n c Ls hn h
 by_cases hg : goodP Ls = true
 ·rw [hg] at hgd
  have hwi := walkP_wi hg
  have hwj := walkP_wj hg
  have hcl := walkP_closed hg
  have hpos : 0 < n := by have := goodP_pos hg; omega
  have hmk := run_make_row' (P := Tryz.prog) 23 3 (.int .i64 0) 8 Tryz.underlying23 info3d rfl .i64 .i64 n (by omega) (by omega)
  have HN : Hid (n = Ls.length) := hn
  have HI : Hid _ := h
  have HG : Hid (goodP Ls = true) := hg
  have HM : Hid _ := hM
  have HWI : Hid _ := hwi
  have HWJ : Hid _ := hwj
  have HCL : Hid _ := hcl
  clear h hn hg hM hwi hwj hcl
  go_enter Tryz.func101, Tryz.ntmps101
  go_wp2_with fail
  refine hgd.mono ?_
  rintro e w' ⟨rfl, rfl⟩
  clear hgd
  obtain ⟨g, hgg⟩ : ∃ g, g = w'.heap.size := ⟨_, rfl⟩
  have h1 : (w'.alloc (.cells (madeCells #[.int .i64 0] n) 3)).heap[g]? = some (.cells (ivs (fl n 0 fun _ => -1)).toArray 3 (0, 0)) := by rw [fl_zero, hgg, made_ivs]; exact heap_alloc_new _ _
  have b1 : Below w'.heap.size w' (w'.alloc (.cells (madeCells #[.int .i64 0] n) 3)) := (Below.refl _ _).alloc (Nat.le_refl _) _
  have H1 : Hid _ := h1
  have HB1 : Hid _ := b1
  have HGG : Hid (g = w'.heap.size) := hgg
  clear h1 b1
  go_wp2_with fail
  rw [<- hgg]
  clear hgg hmk
  go_loopw [17] (fun v wr => ∃ k : Nat, k <= n /\ v = .int .i64 k /\ Hid (wr.heap[g]? = some (.cells (ivs (fl n k fun _ => -1)).toArray 3 (0, 0))) /\ Hid (Below w'.heap.size w' wr)) (fun v _ => n - (intOf v).toNat)
  case atStart => exact ⟨0, by omega, rfl, H1.out, HB1.out⟩
  case round =>
   clear H1 HB1
   obtain ⟨k, hk, rfl, HT, HB⟩ := hrel
   by_cases hlt : k < n
   ·obtain ⟨z, kz⟩ : ∃ z, wr.cell? ⟨g, k, none⟩ = some z := ⟨_, cell_arr HT.out (ivs_at (by rw [fl_len]; exact hlt))⟩
    have fz : wr.frozen? ⟨g, k, none⟩ = false := fz_of HT.out
    have HT2 := show Hid ((wr.setCell ⟨g, k, none⟩ (.int .i64 (-1))).heap[g]? = some (.cells (ivs (fl n (k + 1) fun _ => -1)).toArray 3 (0, 0))) from by rw [<- fl_set (fun _ => -1) hlt]; exact row_set HT.out
    have HB2 := show Hid (Below w'.heap.size w' (wr.setCell ⟨g, k, none⟩ (.int .i64 (-1)))) from HB.out.setCell (by rw [<- HGG.out]; exact Nat.le_refl _) _
    go_wp2_with fail
    go_roundw
    case rel => exact ⟨k + 1, by omega, by go_num, HT2.out, HB2.out⟩
    case measure => simp [intOf]; omega
   ·have hkn : k = n := by omega
    subst hkn
    obtain ⟨w2, hw2⟩ : ∃ w2, w2 = wr := ⟨_, rfl⟩
    subst hw2
    have hT0 : w2.heap[g]? = some (.cells (ivs (List.replicate k (-1))).toArray 3 (0, 0)) := by
     have := HT.out
     rw [fl_full] at this
     have e : (List.range k).map (fun _ => (-1 : Int)) = List.replicate k (-1) := by
      refine List.ext_getElem (by simp) fun i h1 h2 => ?_
      simp
     rw [e] at this; exact this
    have hwk := walkOf_any w2 ao k c Ls HN.out (HI.out.below HB.out (Nat.le_refl _)) HG.out (by omega)
    have HT0 : Hid _ := hT0
    clear hT0 HT
    go_wp2_with fail
    refine hwk.mono ?_
    rintro e w3 ⟨rfl, ⟨v1, v2, HW⟩, hb3⟩
    have hs3 := hb3.size
    have hBw3 : w'.heap.size <= w2.heap.size := HB.out.size
    have hso := sources_any w3 HW (by omega) ao k c Ls HN.out (HI.out.below (HB.out.trans (hb3.mono hBw3)) (Nat.le_refl _)) HWI.out.rng HCL.out (by have := HWI.out.le; have := HN.out; omega) HM.out
    have HW3 : Hid _ := HW
    have HB3 : Hid _ := hb3
    clear hwk HW hb3
    go_wp2_with fail
    refine hso.mono ?_
    rintro e w4 ⟨gs, rfl, HS, hb4⟩
    have hW4 := HW3.out.move (w' := w4) fun q hq => hb4.block q (HW3.out.lt q hq).2
    obtain ⟨sk1, sk2⟩ := srcN_ok (walkP Ls).bl Ls (walkP Ls).bl.length (Nat.le_refl _)
    have hml : (walkP Ls).mt.length = (walkP Ls).bl.length := HWI.out.len
    have hnb : (walkP Ls).bl.length <= k := by have := HWI.out.le; have := HN.out; omega
    have hdo := dominators_any w4 hW4 (walkP Ls).bl.length rfl hml (some ⟨gs, 0, none⟩) (walkP Ls).bl.length (srcs (walkP Ls).bl Ls) HS sk1 HWJ.out.pos (by omega) sk2 HWJ.out.mt
    have HW4 : Hid _ := hW4
    have HB4 : Hid _ := hb4
    have HDP := show Hid _ from domP_ok (mt := (walkP Ls).mt) (fr := srcs (walkP Ls).bl Ls) (by rw [hml]; exact HWJ.out.pos) (by rw [hml]; exact sk1) (by rw [hml]; exact sk2) (by rw [hml]; exact HWJ.out.mt)
    clear hso HS hW4 hb4 sk1 sk2
    go_wp2_with fail
    refine hdo.mono ?_
    rintro e w5 ⟨ov, rfl, ho5, hov, hb5⟩
    clear hdo
    have hs4 := HB4.out.size
    have hs5 := hb5.size
    have HW5 := HW4.out.move (w' := w5) fun q hq => hb5.block q (HW4.out.lt q hq).2
    obtain ⟨a1, c1, e1, n1, n1'⟩ := own_slice HW5.o1.out
    obtain ⟨bl, hbl⟩ : ∃ bl, bl = (walkP Ls).bl := ⟨_, rfl⟩
    obtain ⟨m, hm⟩ : ∃ m, m = bl.length := ⟨_, rfl⟩
    obtain ⟨over, hover⟩ : ∃ over, over = domP (walkP Ls).mt (srcs (walkP Ls).bl Ls) := ⟨_, rfl⟩
    have hbox := HW5.box
    have hO1 := HW5.o1
    rw [e1] at hbox hO1
    rw [<- hbl, <- hm] at hbox hO1
    rw [<- hover] at ho5
    have hDP := HDP.out
    rw [hml, <- hover, <- hbl, <- hm] at hDP
    have hg4 : g < w2.heap.size := by have := (gl HT0.out); exact this
    have hg5 : w5.heap[g]? = some (.cells (ivs (List.replicate k (-1))).toArray 3 (0, 0)) := by rw [hb5.block g (by omega), HB4.out.block g (by omega), HB3.out.block g hg4]; exact HT0.out
    have HTP : Hid (treeP Ls = treeIn bl over k m) := by show _ = _; unfold treeP; rw [if_pos HG.out, <- HN.out, hm, hbl, hover]
    have HRG : Hid (∀ x ∈ bl, 0 <= x /\ x < (k : Int)) := by intro x hx; have h9 := HWI.out.rng x (by rw [<- hbl]; exact hx); have := HN.out; omega
    have HBX : Hid _ := hbox
    have HO1 : Hid _ := hO1
    have HO5 : Hid _ := ho5
    have HDO : Hid _ := hDP
    have HG5 : Hid _ := hg5
    have HML : Hid (m = bl.length) := hm
    have HMW : Hid (m = (walkP Ls).bl.length) := by show _ = _; rw [hm, hbl]
    have hB5 : Below w'.heap.size w' w5 := ((HB.out.trans (HB3.out.mono hBw3)).trans (HB4.out.mono (by omega))).trans (hb5.mono (by omega))
    have HB5 : Hid _ := hB5
    have hgo : g ≠ ov := by omega
    have hmk : m <= k := by rw [hm, hbl]; exact hnb
    have kb5 : w5.cell? ⟨w2.heap.size + 1, 0, none⟩ = some (.slice a1 m c1) := cell_arr (i := 0) hbox rfl
    rw [<- hbl, <- hm] at n1
    have HGW : Hid (g < w2.heap.size) := hg4
    clear hbl hm hover hbox hO1 ho5 hDP hg5 hB5 HW5 e1 HW4 HB4 HW3 HB3 hb5 HWI HWJ HCL HM HDP hml hnb
    go_wp2_with fail
    go_loopw [36] (fun v wx => ∃ q : Nat, q <= m /\ v = .int .i64 q /\ Hid (wx.heap[g]? = some (.cells (ivs (treeIn bl over k q)).toArray 3 (0, 0))) /\ Hid (∀ p, p < w5.heap.size -> p ≠ g -> wx.heap[p]? = w5.heap[p]?) /\ Hid (Below w'.heap.size w' wx)) (fun v _ => m - (intOf v).toNat)
    case atStart => exact ⟨0, by omega, rfl, by rw [treeIn]; exact HG5.out, fun p _ _ => rfl, HB5.out⟩
    case round =>
     obtain ⟨q, hq, rfl, HT, HK, HB6⟩ := hrel
     by_cases hlt : q < m
     ·have hqb : q < bl.length := by have := HML.out; omega
      have hgw := HGW.out
      have OB : OwnI wr w2.heap.size (.slice a1 m c1) m bl := ⟨HO1.out.len, own_move HO1.out.out fun p hp => HK.out p (own_block HO1.out.out hp).2 (by have := (own_block HO1.out.out hp).1; omega)⟩
      obtain ⟨a9, c9, e9, hI9⟩ := OB.ints
      cases e9
      obtain ⟨b9, o9, rfl, ky⟩ := hI9.at hqb
      have hyr := HRG.out bl[q] (List.getElem_mem hqb)
      obtain ⟨bn, hbn⟩ : ∃ bn : Nat, bl[q] = (bn : Int) := ⟨(bl[q]).toNat, by omega⟩
      rw [hbn] at ky
      have hbk : bn < k := by omega
      by_cases hq0 : q = 0
      ·have HN2 : Hid (treeIn bl over k (q + 1) = treeIn bl over k q) := by show _ = _; rw [hq0]; simp [treeIn]
       have hq1 : ¬ 0 < q := by omega
       clear hq0
       go_wp2_with fail
       go_roundw
       case rel => exact ⟨q + 1, by omega, by go_num, by rw [HN2.out]; exact HT.out, HK.out, HB6.out⟩
       case measure => simp [intOf]; omega
      ·have hqp : 0 < q := by omega
       obtain ⟨o, ho⟩ : ∃ o : Nat, gn over q = (o : Int) := ⟨(gn over q).toNat, by have := (HDO.out.2 q hlt).1; omega⟩
       have hom : o < m := by have := (HDO.out.2 q hlt).2; omega
       have hob : o < bl.length := by have := HML.out; omega
       have ko : wr.cell? ⟨ov, q, none⟩ = some (.int .i64 (o : Int)) := by
        rw [World.cell?_of_block (w := w5) (HK.out ov (gl HO5.out) (Ne.symm hgo)), <- ho]
        exact cell_arr HO5.out (ivs_at (by rw [HDO.out.1]; exact hlt))
       obtain ⟨b8, o8, e8, kbo⟩ := hI9.at hob
       cases e8
       obtain ⟨bo, hbo⟩ : ∃ bo, bo = bl[o] := ⟨_, rfl⟩
       rw [<- hbo] at kbo
       have kb6 : wr.cell? ⟨w2.heap.size + 1, 0, none⟩ = some (.slice (some ⟨b9, o9, none⟩) m c1) := by
        rw [World.cell?_of_block (w := w5) (HK.out (w2.heap.size + 1) (gl HBX.out) (by omega))]
        exact kb5
       obtain ⟨z, kz⟩ : ∃ z, wr.cell? ⟨g, bn, none⟩ = some z := ⟨_, cell_arr HT.out (ivs_at (by rw [treeIn_len]; exact hbk))⟩
       have fz : wr.frozen? ⟨g, bn, none⟩ = false := fz_of HT.out
       have i1 : (0 : Int) <= (q : Int) := by omega
       have i2 : (q : Int) < (m : Int) := by omega
       have i3 : (0 : Int) <= (o : Int) := by omega
       have i4 : (o : Int) < (m : Int) := by omega
       have i5 : (0 : Int) <= (bn : Int) := by omega
       have i7 : (q : Int) < ((walkP Ls).bl.length : Int) := by have := HMW.out; omega
       have i8 : q < (walkP Ls).bl.length := by have := HMW.out; omega
       have i6 : (bn : Int) < (k : Int) := by omega
       have HN2 : Hid (treeIn bl over k (q + 1) = (treeIn bl over k q).set bn bo) := by
        show _ = _
        rw [treeIn, if_neg hq0, gn_at hqb, hbn, Int.toNat_natCast, ho, Int.toNat_natCast, gn_at hob, hbo]
       have HT2 := show Hid ((wr.setCell ⟨g, bn, none⟩ (.int .i64 bo)).heap[g]? = some (.cells (ivs (treeIn bl over k (q + 1))).toArray 3 (0, 0))) from by rw [HN2.out]; exact row_set HT.out
       have HB7 := show Hid (Below w'.heap.size w' (wr.setCell ⟨g, bn, none⟩ (.int .i64 bo))) from HB6.out.setCell (by rw [<- HGG.out]; exact Nat.le_refl _) _
       have HK2 := show Hid (∀ p, p < w5.heap.size -> p ≠ g -> (wr.setCell ⟨g, bn, none⟩ (.int .i64 bo)).heap[p]? = w5.heap[p]?) from fun p h1 h2 => (heap_set_other h2).trans (HK.out p h1 h2)
       clear OB hI9 hyr hbn ho hbo kb5
       go_wp2_with fail
       go_region
       go_wp2_with fail
       go_roundw
       case rel => exact ⟨q + 1, by omega, by go_num, HT2.out, HK2.out, HB7.out.drew⟩
       case measure => simp [intOf]; omega
     ·have hqm : q = m := by omega
      subst hqm
      go_wp2_with fail
      go_ret
      refine ⟨_, rfl, ?_, HB6.out⟩
      rw [HTP.out, treeIn_len]
      exact own_of_exact (treeIn_len _ _ _ _) (by omega) (by rw [HGG.out]; exact Nat.le_refl _) HT.out
 ·have hf : goodP Ls = false := by simpa using hg
  have HR : Hid (treeP Ls = []) := by show _ = _; rw [treeP, if_neg hg]
  rw [hf] at hgd
  clear h hg hf hn
  go_enter Tryz.func101, Tryz.ntmps101
  go_wp2_with fail
  refine hgd.mono ?_
  rintro e w' ⟨rfl, rfl⟩
  go_wp2_with fail
  go_ret
  rw [HR.out]
  exact ⟨_, rfl, OwnI.nil _ _, Below.refl _ _⟩
theorem ints_exact {w : World} {g : Nat} {L : List Int} (h : w.heap[g]? = some (.cells (ivs L).toArray 3 (0, 0))) (hl : L.length <= 9223372036854775807) : Ints w (some ⟨g, 0, none⟩) L.length L :=
 ⟨Nat.le_refl _, hl, fun _ => ⟨g, 0, rfl, (gl h), fun i hi => by rw [Nat.zero_add, <- gn_at hi]; exact cell_arr h (ivs_at hi)⟩⟩
theorem add_none (b o j : Nat) : (⟨b, o, none⟩ : Addr).add j = ⟨b, o + j, none⟩ := by
 cases j with
 | zero => simp [Addr.add]
 | succ j => simp [Addr.add]
theorem own : ownKnob Tryz.prog.godebug = none := by kernel_rfl
theorem laidOut : laidOutB Tryz.prog = true := by kernel_rfl
structure OwnQ (w : World) (B g o len cap : Nat) (L : List Int) : Prop where
 lo : B <= g
 ln : len = L.length
 lc : len <= cap
 row : ∃ cur, w.heap[g]? = some (.cells cur 3 (0, 0)) /\ (0 < cap -> o + cap <= cur.size) /\ ∀ i (h : i < L.length), cur[o + i]? = some (.int .i64 L[i])
theorem OwnQ.lt {w B g o len cap L} (h : OwnQ w B g o len cap L) : g < w.heap.size := by
 obtain ⟨cur, h1, _⟩ := h.row
 exact (gl h1)
theorem OwnQ.move {w w' : World} {B g o len cap L} (h : OwnQ w B g o len cap L) (hk : w'.heap[g]? = w.heap[g]?) : OwnQ w' B g o len cap L := by
 obtain ⟨cur, h1, h2⟩ := h.row
 exact ⟨h.lo, h.ln, h.lc, cur, hk.trans h1, h2⟩
theorem OwnQ.cell {w B g o len cap L} (h : OwnQ w B g o len cap L) {i : Nat} (hi : i < L.length) : w.cell? ⟨g, o + i, none⟩ = some (.int .i64 L[i]) := by
 obtain ⟨cur, h1, _, h3⟩ := h.row
 exact cell_arr h1 (h3 i hi)
theorem OwnQ.pop {w B g o len cap y} {L : List Int} (h : OwnQ w B g o (len + 1) cap (y :: L)) : OwnQ w B g (o + 1) len (cap - 1) L := by
 obtain ⟨cur, h1, h2, h3⟩ := h.row
 have hl := h.ln
 have hc := h.lc
 simp at hl
 refine ⟨h.lo, hl, by omega, cur, h1, fun _ => by have := h2 (by omega); omega, fun i hi => ?_⟩
 have := h3 (i + 1) (by simp; omega)
 rw [show o + 1 + i = o + (i + 1) by omega, this]
 simp
theorem OwnQ.zero {w B g o cap} (h : OwnQ w B g o 0 cap []) (o' : Nat) : OwnQ w B g o' 0 0 [] := by
 obtain ⟨cur, h1, h2, h3⟩ := h.row
 exact ⟨h.lo, rfl, Nat.le_refl _, cur, h1, fun h => absurd h (by omega), fun i hi => by simp at hi⟩
def woIn (out : Int) (ml : List Int) (row : List Int) : List Int := row.foldl (fun m c => if c ≠ out /\ c ∉ m then m ++ [c] else m) ml
def woRun (Ls : List (List Int)) (out : Int) : Nat -> List Int -> Nat -> List Int
 | 0, ml, _ => ml
 | q + 1, ml, h => if h < ml.length then woRun Ls out q (woIn out ml (rowOf Ls (gn ml h))) (h + 1) else ml
def woP (Ls : List (List Int)) (out : Int) : List Int := if out = 0 then [] else woRun Ls out Ls.length [0] 0
structure WQ (n : Nat) (ml : List Int) : Prop where
 nd : ml.Nodup
 rng : ∀ x ∈ ml, 0 <= x /\ x < n
theorem WQ.le {n ml} (h : WQ n ml) : ml.length <= n := nodup_le n ml h.nd h.rng
theorem WQ.more {n ml x} (h : WQ n ml) (hx : x ∉ ml) (h0 : 0 <= x /\ x < (n : Int)) : WQ n (ml ++ [x]) := by
 refine ⟨List.nodup_append.2 ⟨h.nd, by simp, fun a ha c hc e => ?_⟩, fun y hy => ?_⟩
 ·simp at hc
  subst hc
  subst e
  exact hx ha
 ·rcases List.mem_append.1 hy with hy | hy
  ·exact h.rng y hy
  ·simp at hy; subst hy; exact h0
def MR (w : World) (gm n : Nat) (ml : List Int) : Prop := w.heap[gm]? = some (.cells ((rch n ml).map Value.bool).toArray 4 (0, 0))
theorem MR.set {w : World} {gm n b : Nat} {ml : List Int} (h : MR w gm n ml) : MR (w.setCell ⟨gm, b, none⟩ (.bool true)) gm n (ml ++ [(b : Int)]) := by
 have := heap_set_at (i := b) (v := .bool true) h
 unfold MR
 rw [this, <- rch_set]
 simp [List.map_set]
theorem MR.cell {w : World} {gm n b : Nat} {ml : List Int} (h : MR w gm n ml) (hb : b < n) : w.cell? ⟨gm, b, none⟩ = some (.bool (decide ((b : Int) ∈ ml))) := by
 refine cell_arr h ?_
 simp [rch, hb]
theorem woIn_spec {n : Nat} (out : Int) : ∀ (row ml : List Int), WQ n ml -> (∀ x ∈ row, 0 <= x /\ x < (n : Int)) ->
 (∃ e, woIn out ml row = ml ++ e /\ ∀ x ∈ e, x ∈ row /\ x ≠ out) /\ WQ n (woIn out ml row) /\ ∀ x ∈ row, x ≠ out -> x ∈ woIn out ml row
 | [], ml, h, _ => ⟨⟨[], by simp [woIn], by simp⟩, h, by simp⟩
 | c :: row, ml, h, hr => by
   have e0 : woIn out ml (c :: row) = woIn out (if c ≠ out /\ c ∉ ml then ml ++ [c] else ml) row := rfl
   rw [e0]
   by_cases hc : c ≠ out /\ c ∉ ml
   ·rw [if_pos hc]
    obtain ⟨⟨e, h1, h2⟩, h3, h4⟩ := woIn_spec out row (ml ++ [c]) (h.more hc.2 (hr c (by simp))) fun x hx => hr x (by simp [hx])
    refine ⟨⟨c :: e, by rw [h1]; simp, fun x hx => ?_⟩, h3, fun x hx hne => ?_⟩
    ·rcases List.mem_cons.1 hx with rfl | hx
     ·exact ⟨by simp, hc.1⟩
     ·exact ⟨by simp [(h2 x hx).1], (h2 x hx).2⟩
    ·rcases List.mem_cons.1 hx with rfl | hx
     ·rw [h1]; simp
     ·exact h4 x hx hne
   ·rw [if_neg hc]
    obtain ⟨⟨e, h1, h2⟩, h3, h4⟩ := woIn_spec out row ml h fun x hx => hr x (by simp [hx])
    refine ⟨⟨e, h1, fun x hx => ⟨by simp [(h2 x hx).1], (h2 x hx).2⟩⟩, h3, fun x hx hne => ?_⟩
    rcases List.mem_cons.1 hx with rfl | hx
    ·have : x ∈ ml := by by_cases hm : x ∈ ml; exact hm; exact absurd ⟨hne, hm⟩ hc
     rw [h1]; simp [this]
    ·exact h4 x hx hne
theorem goodP_rows {Ls : List (List Int)} (hg : goodP Ls = true) (b : Int) : ∀ x ∈ rowOf Ls b, 0 <= x /\ x < ((Ls.length : Nat) : Int) := by
 intro x hx
 by_cases hb : b.toNat < Ls.length
 ·have e : rowOf Ls b = Ls[b.toNat] := by simp [rowOf, hb]
  rw [e] at hx
  obtain ⟨j, hj, rfl⟩ := List.getElem_of_mem hx
  exact goodP_yes hg hb hj
 ·have e : rowOf Ls b = [] := by simp [rowOf, hb]
  rw [e] at hx; simp at hx
theorem woRun_spec {Ls : List (List Int)} (hg : goodP Ls = true) (out : Int) : ∀ (q : Nat) (ml : List Int) (h : Nat), WQ Ls.length ml -> h <= ml.length -> q = Ls.length - h ->
 (∀ i, i < h -> ∀ y ∈ rowOf Ls (gn ml i), y ≠ out -> y ∈ ml) ->
 (∀ x ∈ ml, x ∈ woRun Ls out q ml h) /\ WQ Ls.length (woRun Ls out q ml h) /\ (∀ x ∈ woRun Ls out q ml h, ∀ y ∈ rowOf Ls x, y ≠ out -> y ∈ woRun Ls out q ml h) /\
 ∀ S : Int -> Prop, (∀ x ∈ ml, S x) -> (∀ x, S x -> ∀ y ∈ rowOf Ls x, y ≠ out -> S y) -> ∀ x ∈ woRun Ls out q ml h, S x
 | q, ml, h, hw, hh, hq, hc => by
   by_cases he : h < ml.length
   ·obtain ⟨k, rfl⟩ : ∃ k, q = k + 1 := ⟨q - 1, by have := hw.le; omega⟩
    rw [woRun, if_pos he]
    obtain ⟨⟨e, h1, h2⟩, h3, h4⟩ := woIn_spec out (rowOf Ls (gn ml h)) ml hw (goodP_rows hg _)
    have hgn : ∀ i, i <= h -> gn (woIn out ml (rowOf Ls (gn ml h))) i = gn ml i := fun i hi => by rw [h1]; exact gn_app (by omega)
    obtain ⟨g1, g2, g3, g4⟩ := woRun_spec hg out k (woIn out ml (rowOf Ls (gn ml h))) (h + 1) h3 (by rw [h1]; simp; omega) (by omega) (fun i hi y hy hne => by
     rw [hgn i (by omega)] at hy
     by_cases e1 : i = h
     ·subst e1; exact h4 y hy hne
     ·rw [h1]; exact List.mem_append_left _ (hc i (by omega) y hy hne))
    refine ⟨fun x hx => g1 x (by rw [h1]; exact List.mem_append_left _ hx), g2, g3, fun S a b => g4 S (fun x hx => ?_) b⟩
    rw [h1] at hx
    rcases List.mem_append.1 hx with hx | hx
    ·exact a x hx
    ·refine b (gn ml h) (a _ ?_) x (h2 x hx).1 (h2 x hx).2
     have : gn ml h = ml[h] := by simp [gn, he]
     rw [this]; exact List.getElem_mem he
   ·have e : woRun Ls out q ml h = ml := by
     cases q with
     | zero => rfl
     | succ k => rw [woRun, if_neg he]
    rw [e]
    refine ⟨fun x hx => hx, hw, fun x hx y hy hne => ?_, fun S a _ => a⟩
    obtain ⟨i, hi, rfl⟩ := List.getElem_of_mem hx
    refine hc i (by omega) y ?_ hne
    have : gn ml i = ml[i] := by simp [gn, hi]
    rw [this]; exact hy
 termination_by q => q
theorem woP_spec {Ls : List (List Int)} (hg : goodP Ls = true) {out : Int} (ho : out ≠ 0) : (0 : Int) ∈ woP Ls out /\ WQ Ls.length (woP Ls out) /\ (∀ x ∈ woP Ls out, ∀ y ∈ rowOf Ls x, y ≠ out -> y ∈ woP Ls out) /\
 ∀ S : Int -> Prop, S 0 -> (∀ x, S x -> ∀ y ∈ rowOf Ls x, y ≠ out -> S y) -> ∀ x ∈ woP Ls out, S x := by
 have hp := goodP_pos hg
 obtain ⟨h1, h2, h3, h4⟩ := woRun_spec hg out Ls.length [0] 0 ⟨by simp, fun x hx => by simp at hx; subst hx; omega⟩ (by simp) (by omega) (fun i hi => by omega)
 unfold woP
 rw [if_neg ho]
 exact ⟨h1 0 (by simp), h2, h3, fun S a b => h4 S (fun x hx => by simp at hx; subst hx; exact a) b⟩
end Go.Proofs.YtfbkopjncmkbiabGreatDoor
