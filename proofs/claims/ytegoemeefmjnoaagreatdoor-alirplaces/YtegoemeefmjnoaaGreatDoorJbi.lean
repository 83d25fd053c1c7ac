import Derived.Test.YtegoemeefmjnoaaGreatDoorJav
import Derived.Test.YtegoemeefmjnoaaGreatDoorJbh
set_option linter.unusedVariables false
set_option linter.unusedSimpArgs false
namespace Go.Proofs.YtegoemeefmjnoaaGreatDoor
open Go.ChangeShapes Go.WideShapes Go.ChangeAt Go.RowKit Go.Maps
def al (w : World) (X : List Obj) : World := X.foldl World.alloc w
theorem al_size (X : List Obj) : ∀ w : World, (al w X).heap.size = w.heap.size + X.length := by
 induction X with
 | nil => intro w; rfl
 | cons x xs ih => intro w; show (al (w.alloc x) xs).heap.size = _; rw [ih]; simp; omega
theorem al_below (X : List Obj) : ∀ w : World, Below w.heap.size w (al w X) := by
 induction X with
 | nil => intro w; exact Below.refl _ _
 | cons x xs ih => intro w; exact (below_newA w x).trans ((ih (w.alloc x)).mono (by simp))
theorem al_at (X : List Obj) : ∀ (w : World) (i : Nat) (h : i < X.length), (al w X).heap[w.heap.size + i]? = some X[i] := by
 induction X with
 | nil => intro w i h; simp at h
 | cons x xs ih =>
   intro w i h
   cases i with
   | zero =>
     show (al (w.alloc x) xs).heap[w.heap.size]? = _
     rw [(al_below xs (w.alloc x)).block _ (by simp)]
     exact heap_alloc_new w x
   | succ i =>
     have := ih (w.alloc x) i (by simpa using h)
     rw [show (w.alloc x).heap.size + i = w.heap.size + (i + 1) by simp; omega] at this
     exact this
theorem ints_noneA (w : World) : Ints w none 0 [] := ⟨Nat.le_refl _, by decide, fun h => absurd rfl h⟩
theorem ints_exactA {w : World} {g : Nat} {L : List Int} {t : TypeId} (h : w.heap[g]? = some (.cells (ivs L).toArray t (0, 0))) (hl : L.length <= 9223372036854775807) : Ints w (some ⟨g, 0, none⟩) L.length L :=
 ⟨Nat.le_refl _, hl, fun _ => ⟨g, 0, rfl, (gl h), fun i hi => by
  rw [Nat.zero_add]
  exact cell_arr h (by simp [ivs, hi])⟩⟩
theorem stsG_exact {w : World} {g z : Nat} {xs : List (List Value)} {A : Array Value} {t : TypeId} (h : w.heap[g]? = some (.cells A t (0, 0))) (hA : A = xs.flatten.toArray) (hl : (xs.all fun x => x.length == z) = true) (h1 : (xs.flatten.all fun u => u.oneCell') = true) (hm : xs.length <= 9223372036854775807) : StsG w (some ⟨g, 0, none⟩) xs.length z xs :=
 ⟨Nat.le_refl _, hm, fun x hx => by simpa using List.all_eq_true.1 hl x hx, fun u hu => List.all_eq_true.1 h1 u hu, fun _ => ⟨g, 0, rfl, (gl h), fun j u hu => by
  rw [Nat.zero_add]
  exact cell_arr h (by rw [hA]; simpa using hu)⟩⟩
theorem lov_len (L : List (Int × Int)) : ((L.map lov).all fun x => x.length == 2) = true := by simp [lov]
theorem locs_exact {w : World} {g : Nat} {L : List (Int × Int)} {A : Array Value} {t : TypeId} (h : w.heap[g]? = some (.cells A t (0, 0))) (hA : A = (L.map lov).flatten.toArray) (hm : L.length <= 9223372036854775807) : Locs w (some ⟨g, 0, none⟩) L.length L := by
 have := stsG_exact h hA (lov_len L) (List.all_eq_true.2 (lov_one L)) (by simpa using hm)
 rw [List.length_map] at this
 exact this
theorem locs_none (w : World) : Locs w none 0 [] := StsG.nil w (by decide)
theorem lst_exact {α : Type} {En : World -> List Value -> α -> Prop} {w : World} {g z : Nat} {N : List α} {xs : List (List Value)} {A : Array Value} {t : TypeId} (h : w.heap[g]? = some (.cells A t (0, 0))) (hA : A = xs.flatten.toArray) (hl : (xs.all fun x => x.length == z) = true) (h1 : (xs.flatten.all fun u => u.oneCell') = true) (hm : xs.length <= 9223372036854775807) (hn : xs.length = N.length) (hE : ∀ i (h : i < N.length), En w (xs.getD i []) N[i]) : Lst En z w (some ⟨g, 0, none⟩) N.length N :=
 ⟨xs, hn, by rw [<- hn]; exact stsG_exact h hA hl h1 hm, hE⟩
theorem newA_form (w : World) (hTab : Tab w) {fa : Option Addr} {fn fc n : Nat} {FS : List Af} (hF : Afs w fa fc FS) (hfn : fn = FS.length) (hlen : fn <= 1000000) (hfm : formA FS (n : Int) = true) (hne : ∀ f ∈ FS, f.blks ≠ []) (hfew : ∀ f ∈ FS, FewA f) (hfN : ∀ f ∈ FS, FewN f) (hn : n < fn) {ia : Option Addr} {il ic : Nat} {I : List Int} (hI : Ints w ia ic I) (hil : il = I.length) (hin : il <= 1048576) :
 Calls Tryz.prog 11 #[.agg #[.slice fa fn fc, .int .i64 (n : Int)], .slice ia il ic] w fun e w' => ∃ mb, e = .returned (.tuple #[.pointer (some ⟨mb, 0, none⟩), .int .i64 0]) /\ NewA FS w w' mb (Ma.start I n) :=
 mNewA_yes w hF hfn (by omega) hne hfew hn hI hil hin fun W hW => (check_any W (hTab.below hW hTab.1) (hF.below hW (Nat.le_refl _)) hfn hlen (n : Int) hfN).mono fun e w' h => by
  rw [hfm, if_pos rfl] at h
  exact h
theorem FewA.n {f : Af} (h : FewA f) : FewN f := ⟨Nat.le_trans h.p (by decide), Nat.le_trans h.b (by decide), fun b hb => ⟨Nat.le_trans (h.w b hb).1 (by decide), fun x hx => Nat.le_trans ((h.w b hb).2.2 x hx).1 (by decide)⟩⟩
def fewB (f : Af) : Bool := (decide (f.params.length <= 10000000) && decide (f.blks.length <= 10000000)) && (f.blks.all fun b => (decide (b.body.length <= 10000000) && decide (b.ways.length <= 10000000)) && b.body.all fun x => decide (x.args.length <= 10000000) && decide (x.saves.length <= 10000000))
theorem fewB_ok {f : Af} (h : fewB f = true) : FewA f := by
 unfold fewB at h
 simp only [Bool.and_eq_true, decide_eq_true_eq, List.all_eq_true] at h
 exact ⟨h.1.1, h.1.2, fun b hb => ⟨(h.2 b hb).1.1, (h.2 b hb).1.2, fun x hx => (h.2 b hb).2 x hx⟩⟩
structure OkA (FS : List Af) (n : Nat) : Prop where
 fm : formA FS (n : Int) = true
 ne : ∀ f ∈ FS, f.blks ≠ []
 few : ∀ f ∈ FS, FewA f
 lt : n < FS.length
 len : FS.length <= 1000000
theorem OkA.of {FS : List Af} {n : Nat} (h : (formA FS (n : Int) && ((FS.all fun f => !f.blks.isEmpty && fewB f) && (decide (n < FS.length) && decide (FS.length <= 1000000)))) = true) : OkA FS n := by
 simp only [Bool.and_eq_true, decide_eq_true_eq, List.all_eq_true] at h
 exact ⟨h.1, fun f hf => by have := (h.2.1 f hf).1; simpa using this, fun f hf => fewB_ok (h.2.1 f hf).2, h.2.2.1, h.2.2.2⟩
theorem OkA.new {FS : List Af} {n : Nat} (ok : OkA FS n) (w : World) (hTab : Tab w) {fa : Option Addr} {fn fc : Nat} (hF : Afs w fa fc FS) (hfn : fn = FS.length) {ia : Option Addr} {il ic : Nat} {I : List Int} (hI : Ints w ia ic I) (hil : il = I.length) (hin : il <= 1048576) :
 Calls Tryz.prog 11 #[.agg #[.slice fa fn fc, .int .i64 (n : Int)], .slice ia il ic] w fun e w' => ∃ mb s d, s.ws.mb = mb /\ e = .returned (.tuple #[.pointer (some ⟨mb, 0, none⟩), .int .i64 0]) /\ Mca FS s d w' (Ma.start I n) /\ Below w.heap.size w w' /\ ∀ k, footA s d k -> w.heap.size <= k :=
 (newA_form w hTab hF hfn (by rw [hfn]; exact ok.len) ok.fm ok.ne ok.few (fun f hf => (ok.few f hf).n) (by rw [hfn]; exact ok.lt) hI hil hin).mono fun e w' h => by
  obtain ⟨mb, e1, h1⟩ := h
  obtain ⟨s, d, q1, q2, q3, _⟩ := h1.out
  exact ⟨mb, s, d, q1, e1, q2, h1.low, q3⟩
def Ma.nxt (FS : List Af) (M : Ma) : Ma := match M.stp FS with
 | some (_, M') => M'
 | none => M
def Ma.its (FS : List Af) : Nat -> Ma -> Ma
 | 0, M => M
 | n + 1, M => Ma.its FS n (M.nxt FS)
theorem stp_of {FS : List Af} {M : Ma} {b : Bool} (h : (M.stp FS).map (·.1) = some b) : M.stp FS = some (b, M.nxt FS) := by
 unfold Ma.nxt
 cases e : M.stp FS with
 | none => rw [e] at h; cases h
 | some p =>
   obtain ⟨c, M'⟩ := p
   rw [e] at h
   simp only [Option.map_some] at h
   cases h
   rfl
theorem its_more (FS : List Af) : ∀ (n : Nat) (M : Ma), Ma.its FS (n + 1) M = (Ma.its FS n M).nxt FS
 | 0, _ => rfl
 | n + 1, M => by
   show Ma.its FS (n + 1) (M.nxt FS) = (Ma.its FS n (M.nxt FS)).nxt FS
   exact its_more FS n _
def goesB (FS : List Af) : Nat -> Ma -> Bool
 | 0, _ => true
 | n + 1, M => match M.stp FS with
   | some (true, M') => goesB FS n M'
   | _ => false
theorem goes_at {FS : List Af} : ∀ (n : Nat) (M : Ma), goesB FS n M = true -> ∀ k, k < n -> (Ma.its FS k M).stp FS = some (true, Ma.its FS (k + 1) M)
 | 0, _, _, k, hk => absurd hk (by omega)
 | n + 1, M, h, k, hk => by
   unfold goesB at h
   cases e : M.stp FS with
   | none => rw [e] at h; cases h
   | some p =>
     obtain ⟨c, M'⟩ := p
     rw [e] at h
     cases c with
     | false => cases h
     | true =>
       have hx : M.nxt FS = M' := by unfold Ma.nxt; rw [e]
       cases k with
       | zero =>
         show M.stp FS = some (true, M.nxt FS)
         rw [hx]
         exact e
       | succ k =>
         have := goes_at n M' h k (by omega)
         show (Ma.its FS k (M.nxt FS)).stp FS = some (true, Ma.its FS (k + 1) (M.nxt FS))
         rw [hx]
         exact this
def WayA (FS : List Af) (n : Nat) (M M' : Ma) : Prop := ∃ Q : Nat -> Ma, Q 0 = M /\ Q n = M' /\ ∀ k, k < n -> (Q k).stp FS = some (true, Q (k + 1))
theorem WayA.zero {FS M} : WayA FS 0 M M := ⟨fun _ => M, rfl, rfl, fun k hk => absurd hk (by omega)⟩
theorem WayA.one {FS M M'} (h : M.stp FS = some (true, M')) : WayA FS 1 M M' := ⟨fun k => if k = 0 then M else M', rfl, rfl, fun k hk => by
 have : k = 0 := by omega
 subst this
 exact h⟩
theorem WayA.trans {FS n k M M' M''} (h : WayA FS n M M') (g : WayA FS k M' M'') : WayA FS (n + k) M M'' := by
 obtain ⟨Q, a, b, c⟩ := h
 obtain ⟨R, a', b', c'⟩ := g
 refine ⟨fun i => if i <= n then Q i else R (i - n), by simpa using a, ?_, fun i hi => ?_⟩
 ·by_cases hk : k = 0
  ·subst hk
   simp only [Nat.add_zero, Nat.le_refl, if_true]
   rw [b, <- a', b']
  ·simp only
   rw [if_neg (by omega), Nat.add_sub_cancel_left, b']
 ·simp only
  by_cases h1 : i + 1 <= n
  ·rw [if_pos (by omega), if_pos h1]
   exact c i (by omega)
  ·rw [if_neg h1, show i + 1 - n = i - n + 1 by omega]
   by_cases h2 : i <= n
   ·have : i = n := by omega
    subst this
    rw [if_pos h2, b, <- a']
    have := c' 0 (by omega)
    simpa using this
   ·rw [if_neg h2]
    exact c' (i - n) (by omega)
theorem WayA.more {FS n M M' M''} (h : WayA FS n M M') (g : M'.stp FS = some (true, M'')) : WayA FS (n + 1) M M'' := h.trans (.one g)
theorem goes_way {FS : List Af} {n : Nat} {M : Ma} (h : goesB FS n M = true) : WayA FS n M (Ma.its FS n M) := ⟨fun k => Ma.its FS k M, rfl, rfl, goes_at n M h⟩
theorem run_to {FS s d w M} (h : Mca FS s d w M) {fuel N : Nat} (hf : fuel <= 1099511627776) (hN : N < fuel) {M1 MF : Ma} (hW : WayA FS N M M1) (hE : M1.stp FS = some (false, MF)) :
 Calls Tryz.prog 13 #[.pointer (some ⟨s.ws.mb, 0, none⟩), .int .i64 fuel] w fun e w' => ∃ ao c d', e = .returned (.tuple #[.agg #[.slice ao MF.wv.ev.length c, .int .i64 MF.wv.fin, .int .i64 MF.wv.kd, .int .i64 MF.wv.vl, .int .i64 MF.wv.steps, .int .i64 MF.wv.words, .int .i64 MF.wv.deep], .int .i64 0]) /\ Evs w' ao c MF.wv.ev /\ OvA s d'.wd.ve w' MF.wv /\ FooA s d d' w w' := by
 obtain ⟨Q, h0, hn, hQ⟩ := hW
 refine (mRunA_any h.staA hf Q h0 hQ (by rw [hn]; exact hE) (MF := MF) (by rw [if_pos hN])).mono ?_
 rintro e w' ⟨v, d', B, rfl, _, h2, h3, _, hR⟩
 obtain ⟨ao, c, rfl, hE⟩ := evs_of hR
 exact ⟨ao, c, d', rfl, hE, h2, h3⟩
def svX (B : Nat) : List Obj := [.cells #[.slice (some ⟨B + 23, 0, none⟩) 2 2, .int .i64 1] 44, .cells #[.int .i64 1, .int .i64 0] 24, .cells #[.int .i64 1, .int .i64 7, .int .i64 1, .int .i64 0, .slice none 0 0, .slice none 0 0] 29, .cells #[.int .i64 1, .int .i64 0] 24, .cells #[.slice (some ⟨B + 2, 0, none⟩) 1 1, .int .i64 3, .int .i64 1, .int .i64 0, .slice none 0 0] 34, .cells #[.string ⟨#[115, 101, 118, 101, 110]⟩, .slice none 0 0, .int .i64 1, .int .i64 0, .slice (some ⟨B + 4, 0, none⟩) 1 1] 37, .cells #[.int .i64 1, .int .i64 0] 24, .cells #[.int .i64 1, .int .i64 1] 24, .cells #[.int .i64 0] 3, .cells #[.int .i64 1, .int .i64 0] 24, .cells #[.int .i64 1, .int .i64 0] 24, .cells #[.int .i64 1, .int .i64 1] 24, .cells #[.int .i64 1, .int .i64 1] 24, .cells #[.int .i64 2, .int .i64 0] 24, .cells #[.int .i64 1, .int .i64 1] 24, .cells #[.int .i64 1, .int .i64 1] 24, .cells #[.int .i64 1, .int .i64 1] 24, .cells #[.int .i64 1, .int .i64 1] 24, .cells #[.int .i64 2, .int .i64 0] 24, .cells #[.int .i64 2, .int .i64 0] 24, .cells #[.int .i64 24, .int .i64 0, .int .i64 1, .int .i64 0, .slice none 0 0, .slice none 0 0, .int .i64 25, .int .i64 0, .int .i64 1, .int .i64 1, .slice none 0 0, .slice (some ⟨B + 8, 0, none⟩) 1 1, .int .i64 26, .int .i64 0, .int .i64 0, .int .i64 0, .slice (some ⟨B + 10, 0, none⟩) 1 1, .slice none 0 0, .int .i64 26, .int .i64 0, .int .i64 0, .int .i64 0, .slice (some ⟨B + 12, 0, none⟩) 1 1, .slice none 0 0, .int .i64 31, .int .i64 0, .int .i64 2, .int .i64 0, .slice (some ⟨B + 15, 0, none⟩) 1 1, .slice none 0 0, .int .i64 25, .int .i64 0, .int .i64 0, .int .i64 0, .slice none 0 0, .slice none 0 0, .int .i64 26, .int .i64 0, .int .i64 0, .int .i64 0, .slice (some ⟨B + 17, 0, none⟩) 1 1, .slice none 0 0, .int .i64 26, .int .i64 0, .int .i64 0, .int .i64 0, .slice (some ⟨B + 19, 0, none⟩) 1 1, .slice none 0 0] 29, .cells #[.slice (some ⟨B + 20, 0, none⟩) 8 8, .int .i64 3, .int .i64 0, .int .i64 0, .slice none 0 0] 34, .cells #[.string ⟨#[109, 97, 105, 110]⟩, .slice none 0 0, .int .i64 0, .int .i64 1, .slice (some ⟨B + 21, 0, none⟩) 1 1] 37, .cells #[.string ⟨#[115, 101, 118, 101, 110]⟩, .slice none 0 0, .int .i64 1, .int .i64 0, .slice (some ⟨B + 4, 0, none⟩) 1 1, .string ⟨#[109, 97, 105, 110]⟩, .slice none 0 0, .int .i64 0, .int .i64 1, .slice (some ⟨B + 21, 0, none⟩) 1 1] 37]
def sevF : List Af := [⟨⟨#[115, 101, 118, 101, 110]⟩, [], 1, 0, [⟨[⟨1, 7, (1, 0), [], []⟩], 3, (1, 0), []⟩]⟩, ⟨⟨#[109, 97, 105, 110]⟩, [], 0, 1, [⟨[⟨24, 0, (1, 0), [], []⟩, ⟨25, 0, (1, 1), [], [0]⟩, ⟨26, 0, (0, 0), [(1, 0)], []⟩, ⟨26, 0, (0, 0), [(1, 1)], []⟩, ⟨31, 0, (2, 0), [(1, 1)], []⟩, ⟨25, 0, (0, 0), [], []⟩, ⟨26, 0, (0, 0), [(1, 1)], []⟩, ⟨26, 0, (0, 0), [(2, 0)], []⟩], 3, (0, 0), []⟩]⟩]
theorem sv_ok : OkA sevF 1 := .of (by decide +kernel)
set_option maxRecDepth 100000 in
theorem sv_afs {W : World} {B : Nat} (hx : ∀ i (h : i < (svX B).length), W.heap[B + i]? = some (svX B)[i]) : Afs W (some ⟨B + 23, 0, none⟩) 2 sevF := by
 have h2 := hx 2 (by simp [svX])
 have h4 := hx 4 (by simp [svX])
 have h8 := hx 8 (by simp [svX])
 have h10 := hx 10 (by simp [svX])
 have h12 := hx 12 (by simp [svX])
 have h15 := hx 15 (by simp [svX])
 have h17 := hx 17 (by simp [svX])
 have h19 := hx 19 (by simp [svX])
 have h20 := hx 20 (by simp [svX])
 have h21 := hx 21 (by simp [svX])
 have h23 := hx 23 (by simp [svX])
 clear hx
 have hi0_0 : Lst EnI 6 W (some ⟨B + 2, 0, none⟩) 1 [⟨1, 7, (1, 0), [], []⟩] := by
  refine lst_exact (α := Ai) (En := EnI) (N := [⟨1, 7, (1, 0), [], []⟩]) (xs := [[.int .i64 1, .int .i64 7, .int .i64 1, .int .i64 0, .slice none 0 0, .slice none 0 0]]) h2 rfl rfl rfl (Nat.le_of_ble_eq_true (by kernel_rfl)) rfl (fun i hi => ?_)
  match i, hi with
  | 0, _ => exact ⟨none, 0, none, 0, rfl, (locs_none W), (ints_noneA W)⟩
 have hb0 : Lst EnB 5 W (some ⟨B + 4, 0, none⟩) 1 [⟨[⟨1, 7, (1, 0), [], []⟩], 3, (1, 0), []⟩] := by
  refine lst_exact (α := Ab) (En := EnB) (N := [⟨[⟨1, 7, (1, 0), [], []⟩], 3, (1, 0), []⟩]) (xs := [[.slice (some ⟨B + 2, 0, none⟩) 1 1, .int .i64 3, .int .i64 1, .int .i64 0, .slice none 0 0]]) h4 rfl rfl rfl (Nat.le_of_ble_eq_true (by kernel_rfl)) rfl (fun i hi => ?_)
  match i, hi with
  | 0, _ => exact ⟨some ⟨B + 2, 0, none⟩, 1, none, 0, rfl, hi0_0, (ints_noneA W)⟩
 have hi1_0 : Lst EnI 6 W (some ⟨B + 20, 0, none⟩) 8 [⟨24, 0, (1, 0), [], []⟩, ⟨25, 0, (1, 1), [], [0]⟩, ⟨26, 0, (0, 0), [(1, 0)], []⟩, ⟨26, 0, (0, 0), [(1, 1)], []⟩, ⟨31, 0, (2, 0), [(1, 1)], []⟩, ⟨25, 0, (0, 0), [], []⟩, ⟨26, 0, (0, 0), [(1, 1)], []⟩, ⟨26, 0, (0, 0), [(2, 0)], []⟩] := by
  refine lst_exact (α := Ai) (En := EnI) (N := [⟨24, 0, (1, 0), [], []⟩, ⟨25, 0, (1, 1), [], [0]⟩, ⟨26, 0, (0, 0), [(1, 0)], []⟩, ⟨26, 0, (0, 0), [(1, 1)], []⟩, ⟨31, 0, (2, 0), [(1, 1)], []⟩, ⟨25, 0, (0, 0), [], []⟩, ⟨26, 0, (0, 0), [(1, 1)], []⟩, ⟨26, 0, (0, 0), [(2, 0)], []⟩]) (xs := [[.int .i64 24, .int .i64 0, .int .i64 1, .int .i64 0, .slice none 0 0, .slice none 0 0], [.int .i64 25, .int .i64 0, .int .i64 1, .int .i64 1, .slice none 0 0, .slice (some ⟨B + 8, 0, none⟩) 1 1], [.int .i64 26, .int .i64 0, .int .i64 0, .int .i64 0, .slice (some ⟨B + 10, 0, none⟩) 1 1, .slice none 0 0], [.int .i64 26, .int .i64 0, .int .i64 0, .int .i64 0, .slice (some ⟨B + 12, 0, none⟩) 1 1, .slice none 0 0], [.int .i64 31, .int .i64 0, .int .i64 2, .int .i64 0, .slice (some ⟨B + 15, 0, none⟩) 1 1, .slice none 0 0], [.int .i64 25, .int .i64 0, .int .i64 0, .int .i64 0, .slice none 0 0, .slice none 0 0], [.int .i64 26, .int .i64 0, .int .i64 0, .int .i64 0, .slice (some ⟨B + 17, 0, none⟩) 1 1, .slice none 0 0], [.int .i64 26, .int .i64 0, .int .i64 0, .int .i64 0, .slice (some ⟨B + 19, 0, none⟩) 1 1, .slice none 0 0]]) h20 rfl rfl rfl (Nat.le_of_ble_eq_true (by kernel_rfl)) rfl (fun i hi => ?_)
  match i, hi with
  | 0, _ => exact ⟨none, 0, none, 0, rfl, (locs_none W), (ints_noneA W)⟩
  | 1, _ => exact ⟨none, 0, some ⟨B + 8, 0, none⟩, 1, rfl, (locs_none W), (ints_exactA (L := [0]) h8 (by decide))⟩
  | 2, _ => exact ⟨some ⟨B + 10, 0, none⟩, 1, none, 0, rfl, (locs_exact (L := [(1, 0)]) h10 rfl (by decide)), (ints_noneA W)⟩
  | 3, _ => exact ⟨some ⟨B + 12, 0, none⟩, 1, none, 0, rfl, (locs_exact (L := [(1, 1)]) h12 rfl (by decide)), (ints_noneA W)⟩
  | 4, _ => exact ⟨some ⟨B + 15, 0, none⟩, 1, none, 0, rfl, (locs_exact (L := [(1, 1)]) h15 rfl (by decide)), (ints_noneA W)⟩
  | 5, _ => exact ⟨none, 0, none, 0, rfl, (locs_none W), (ints_noneA W)⟩
  | 6, _ => exact ⟨some ⟨B + 17, 0, none⟩, 1, none, 0, rfl, (locs_exact (L := [(1, 1)]) h17 rfl (by decide)), (ints_noneA W)⟩
  | 7, _ => exact ⟨some ⟨B + 19, 0, none⟩, 1, none, 0, rfl, (locs_exact (L := [(2, 0)]) h19 rfl (by decide)), (ints_noneA W)⟩
 have hb1 : Lst EnB 5 W (some ⟨B + 21, 0, none⟩) 1 [⟨[⟨24, 0, (1, 0), [], []⟩, ⟨25, 0, (1, 1), [], [0]⟩, ⟨26, 0, (0, 0), [(1, 0)], []⟩, ⟨26, 0, (0, 0), [(1, 1)], []⟩, ⟨31, 0, (2, 0), [(1, 1)], []⟩, ⟨25, 0, (0, 0), [], []⟩, ⟨26, 0, (0, 0), [(1, 1)], []⟩, ⟨26, 0, (0, 0), [(2, 0)], []⟩], 3, (0, 0), []⟩] := by
  refine lst_exact (α := Ab) (En := EnB) (N := [⟨[⟨24, 0, (1, 0), [], []⟩, ⟨25, 0, (1, 1), [], [0]⟩, ⟨26, 0, (0, 0), [(1, 0)], []⟩, ⟨26, 0, (0, 0), [(1, 1)], []⟩, ⟨31, 0, (2, 0), [(1, 1)], []⟩, ⟨25, 0, (0, 0), [], []⟩, ⟨26, 0, (0, 0), [(1, 1)], []⟩, ⟨26, 0, (0, 0), [(2, 0)], []⟩], 3, (0, 0), []⟩]) (xs := [[.slice (some ⟨B + 20, 0, none⟩) 8 8, .int .i64 3, .int .i64 0, .int .i64 0, .slice none 0 0]]) h21 rfl rfl rfl (Nat.le_of_ble_eq_true (by kernel_rfl)) rfl (fun i hi => ?_)
  match i, hi with
  | 0, _ => exact ⟨some ⟨B + 20, 0, none⟩, 8, none, 0, rfl, hi1_0, (ints_noneA W)⟩
 refine lst_exact (α := Af) (En := EnF) (N := sevF) (xs := [[.string ⟨#[115, 101, 118, 101, 110]⟩, .slice none 0 0, .int .i64 1, .int .i64 0, .slice (some ⟨B + 4, 0, none⟩) 1 1], [.string ⟨#[109, 97, 105, 110]⟩, .slice none 0 0, .int .i64 0, .int .i64 1, .slice (some ⟨B + 21, 0, none⟩) 1 1]]) h23 rfl rfl rfl (Nat.le_of_ble_eq_true (by kernel_rfl)) rfl (fun i hi => ?_)
 match i, hi with
 | 0, _ => exact ⟨none, 0, some ⟨B + 4, 0, none⟩, 1, rfl, (locs_none W), hb0⟩
 | 1, _ => exact ⟨none, 0, some ⟨B + 21, 0, none⟩, 1, rfl, (locs_none W), hb1⟩
theorem regA_any (w : World) (n : Int) : Calls Tryz.prog 9 #[.int .i64 n] w fun e w' => e = .returned (.agg #[.int .i64 1, .int .i64 n]) /\ w' = w.alloc (.cells #[.int .i64 1, .int .i64 n] 24) := by
 have hb := heap_alloc_new w (.cells #[.int .i64 1, .int .i64 n] 24)
 go_enter Tryz.func9, Tryz.ntmps9
 go_wp2_with fail
 refine bodyPost_ret (v := .agg #[.int .i64 1, .int .i64 n]) ?_ rfl ⟨rfl, rfl⟩
 exact results_cell_row Tryz.results9 _ _ w.heap.size 24 _ (0, 0) _ rfl hb Tryz.underlying24 rfl (by kernel_rfl)
theorem slotA_any (w : World) (n : Int) : Calls Tryz.prog 10 #[.int .i64 n] w fun e w' => e = .returned (.agg #[.int .i64 2, .int .i64 n]) /\ w' = w.alloc (.cells #[.int .i64 2, .int .i64 n] 24) := by
 have hb := heap_alloc_new w (.cells #[.int .i64 2, .int .i64 n] 24)
 go_enter Tryz.func10, Tryz.ntmps10
 go_wp2_with fail
 refine bodyPost_ret (v := .agg #[.int .i64 2, .int .i64 n]) ?_ rfl ⟨rfl, rfl⟩
 exact results_cell_row Tryz.results10 _ _ w.heap.size 24 _ (0, 0) _ rfl hb Tryz.underlying24 rfl (by kernel_rfl)
set_option maxRecDepth 100000 in
set_option maxHeartbeats 4000000 in
theorem seven_any (w : World) : Calls Tryz.prog 16 #[] w fun e w' => e = .returned (.agg #[.slice (some ⟨w.heap.size + 23, 0, none⟩) 2 2, .int .i64 1]) /\ w' = al w (svX w.heap.size) := by
 have hb := al_at (svX w.heap.size) w 0 (by simp [svX])
 have HR : Hid (∀ W n, Calls Tryz.prog 9 #[.int .i64 n] W fun e w' => e = .returned (.agg #[.int .i64 1, .int .i64 n]) /\ w' = W.alloc (.cells #[.int .i64 1, .int .i64 n] 24)) := regA_any
 have HS : Hid (∀ W n, Calls Tryz.prog 10 #[.int .i64 n] W fun e w' => e = .returned (.agg #[.int .i64 2, .int .i64 n]) /\ w' = W.alloc (.cells #[.int .i64 2, .int .i64 n] 24)) := slotA_any
 go_enter Tryz.func16, Tryz.ntmps16
 go_wp2_with (first
  | (go_at_call 9; refine (HR.out _ _).mono ?_; rintro e w' ⟨rfl, rfl⟩)
  | (go_at_call 10; refine (HS.out _ _).mono ?_; rintro e w' ⟨rfl, rfl⟩))
 refine bodyPost_ret (v := .agg #[.slice (some ⟨w.heap.size + 23, 0, none⟩) 2 2, .int .i64 1]) ?_ rfl ⟨rfl, rfl⟩
 exact results_cell_row Tryz.results16 _ _ w.heap.size 44 _ (0, 0) _ rfl hb Tryz.underlying44 rfl (by kernel_rfl)
theorem Evs.at {w : World} {ao : Option Addr} {c : Nat} {E : List (Int × Int)} (h : Evs w ao c E) {k : Nat} (hk : k < E.length) : ∃ b o, ao = some ⟨b, o, none⟩ /\ b < w.heap.size /\ w.cell? ⟨b, o + k * 2, none⟩ = some (.int .i64 E[k].1) /\ w.cell? ⟨b, o + k * 2 + 1, none⟩ = some (.int .i64 E[k].2) := by
 obtain ⟨b, o, e, hb, hc⟩ := h.out (by intro q; rw [q] at hk; simp at hk)
 have hz : ∀ x ∈ E.map evc, x.length = 2 := by
  intro x hx
  obtain ⟨y, _, rfl⟩ := List.mem_map.1 hx
  rfl
 have f := fun r hr => flat_at (E.map evc) hz k (by simpa using hk) r hr
 refine ⟨b, o, e, hb, ?_, ?_⟩
 ·have := hc (k * 2) (.int .i64 E[k].1) (by have := f 0 (by omega); simpa [evc] using this)
  simpa [add_noneR] using this
 ·have := hc (k * 2 + 1) (.int .i64 E[k].2) (by have := f 1 (by omega); simpa [evc] using this)
  simpa [add_noneR, Nat.add_assoc] using this
theorem Evs.belowR {w w' : World} {ao : Option Addr} {c : Nat} {E : List (Int × Int)} (h : Evs w ao c E) (b : Below w.heap.size w w') : Evs w' ao c E := ⟨h.le, h.mx, h.nil, fun hne => by
 obtain ⟨g, o, e, hlt, hc⟩ := h.out hne
 refine ⟨g, o, e, by have := b.size; omega, fun j u hu => ?_⟩
 have := hc j u hu
 rw [add_noneR] at this ⊢
 exact (b.cell (p := ⟨g, o + j, none⟩) hlt).trans this⟩
theorem evs_exact {w : World} {g : Nat} {E : List (Int × Int)} {A : Array Value} {t : TypeId} (h : w.heap[g]? = some (.cells A t (0, 0))) (hA : A = (E.map evc).flatten.toArray) (hm : E.length <= 9223372036854775807) : Evs w (some ⟨g, 0, none⟩) E.length E :=
 ⟨Nat.le_refl _, hm, fun q => (by cases q), fun _ => ⟨g, 0, rfl, (gl h), fun j u hu => by
  rw [add_noneR, Nat.zero_add]
  exact cell_arr h (by rw [hA]; simpa using hu)⟩⟩
theorem numA_any (w : World) (x : Int) : Calls Tryz.prog 12 #[.int .i64 x] w fun e w' => e = .returned (.int .i64 x) /\ w = w' := by
 go_enter Tryz.func12, Tryz.ntmps12
 go_wp2_with fail
 go_ret
 exact ⟨rfl, rfl⟩
set_option maxRecDepth 100000 in
set_option maxHeartbeats 4000000 in
theorem sameA_any (w : World) {aa ba : Option Addr} {n ac bc : Nat} {L : List (Int × Int)} (x1 x2 x3 x4 x5 x6 : Int) (hA : Evs w aa ac L) (hB : Evs w ba bc L) (hn : n = L.length) :
 Calls Tryz.prog 18 #[.agg #[.slice aa n ac, .int .i64 x1, .int .i64 x2, .int .i64 x3, .int .i64 x4, .int .i64 x5, .int .i64 x6], .agg #[.slice ba n bc, .int .i64 x1, .int .i64 x2, .int .i64 x3, .int .i64 x4, .int .i64 x5, .int .i64 x6]] w fun e w' => e = .returned (.bool true) /\ Below w.heap.size w w' := by
 obtain ⟨w1, hw1⟩ : ∃ w1, w1 = w.alloc (.cells #[.slice aa n ac, .int .i64 x1, .int .i64 x2, .int .i64 x3, .int .i64 x4, .int .i64 x5, .int .i64 x6] 48) := ⟨_, rfl⟩
 obtain ⟨w2, hw2⟩ : ∃ w2, w2 = w1.alloc (.cells #[.slice ba n bc, .int .i64 x1, .int .i64 x2, .int .i64 x3, .int .i64 x4, .int .i64 x5, .int .i64 x6] 48) := ⟨_, rfl⟩
 have b1 : Below w.heap.size w w1 := by rw [hw1]; exact below_newA w _
 have b2 : Below w1.heap.size w1 w2 := by rw [hw2]; exact below_newA w1 _
 have b12 : Below w.heap.size w w2 := b1.trans (b2.mono b1.size)
 have k1 : w1.heap[w.heap.size]? = some (.cells #[.slice aa n ac, .int .i64 x1, .int .i64 x2, .int .i64 x3, .int .i64 x4, .int .i64 x5, .int .i64 x6] 48 (0, 0)) := by rw [hw1]; exact heap_alloc_new _ _
 have k2 : w2.heap[w1.heap.size]? = some (.cells #[.slice ba n bc, .int .i64 x1, .int .i64 x2, .int .i64 x3, .int .i64 x4, .int .i64 x5, .int .i64 x6] 48 (0, 0)) := by rw [hw2]; exact heap_alloc_new _ _
 have k12 := (b2.block _ (gl k1)).trans k1
 have e1 : w1.heap.size = w.heap.size + 1 := by rw [hw1]; simp
 rw [e1] at k2
 obtain ⟨p, hp⟩ : ∃ p, p = w.heap.size := ⟨_, rfl⟩
 obtain ⟨p1, hp1⟩ : ∃ p1, p1 = w.heap.size + 1 := ⟨_, rfl⟩
 rw [<- hp1] at k2
 rw [<- hp] at k12
 have hl1 := (gl k12)
 have hl2 := (gl k2)
 have HP : Hid (∀ W, Below w2.heap.size w2 W -> W.cell? ⟨p, 0, none⟩ = some (.slice aa n ac) /\ W.cell? ⟨p1, 0, none⟩ = some (.slice ba n bc) /\ p < W.heap.size /\ p1 < W.heap.size) := fun W hW => by
  have q1 := (hW.block _ hl1).trans k12
  have q2 := (hW.block _ hl2).trans k2
  exact ⟨cell_arr q1 rfl, cell_arr q2 rfl, (gl q1), (gl q2)⟩
 obtain ⟨x0, y0, -, -⟩ := HP.out w2 (Below.refl _ _)
 have c1 : w2.cell? ⟨p, 1, none⟩ = some (.int .i64 x1) := cell_arr k12 rfl
 have c2 : w2.cell? ⟨p, 2, none⟩ = some (.int .i64 x2) := cell_arr k12 rfl
 have c3 : w2.cell? ⟨p, 3, none⟩ = some (.int .i64 x3) := cell_arr k12 rfl
 have c4 : w2.cell? ⟨p, 4, none⟩ = some (.int .i64 x4) := cell_arr k12 rfl
 have c5 : w2.cell? ⟨p, 5, none⟩ = some (.int .i64 x5) := cell_arr k12 rfl
 have c6 : w2.cell? ⟨p, 6, none⟩ = some (.int .i64 x6) := cell_arr k12 rfl
 have d1 : w2.cell? ⟨p1, 1, none⟩ = some (.int .i64 x1) := cell_arr k2 rfl
 have d2 : w2.cell? ⟨p1, 2, none⟩ = some (.int .i64 x2) := cell_arr k2 rfl
 have d3 : w2.cell? ⟨p1, 3, none⟩ = some (.int .i64 x3) := cell_arr k2 rfl
 have d4 : w2.cell? ⟨p1, 4, none⟩ = some (.int .i64 x4) := cell_arr k2 rfl
 have d5 : w2.cell? ⟨p1, 5, none⟩ = some (.int .i64 x5) := cell_arr k2 rfl
 have d6 : w2.cell? ⟨p1, 6, none⟩ = some (.int .i64 x6) := cell_arr k2 rfl
 have HW : Hid (w2 = (w.alloc (.cells #[.slice aa n ac, .int .i64 x1, .int .i64 x2, .int .i64 x3, .int .i64 x4, .int .i64 x5, .int .i64 x6] 48)).alloc (.cells #[.slice ba n bc, .int .i64 x1, .int .i64 x2, .int .i64 x3, .int .i64 x4, .int .i64 x5, .int .i64 x6] 48)) := by rw [hw2, hw1]; exact rfl
 have t1 : (x1 == x1) = true := by simp
 have t2 : (x2 == x2) = true := by simp
 have t3 : (x3 == x3) = true := by simp
 have t4 : (x4 == x4) = true := by simp
 have t5 : (x5 == x5) = true := by simp
 have t6 : (x6 == x6) = true := by simp
 have t0 : ((n : Int) == (n : Int)) = true := by simp
 have hmx : n <= 9223372036854775807 := by have := hA.le; have := hA.mx; omega
 have HA : Hid (∀ W, Below w2.heap.size w2 W -> Evs W aa ac L) := fun W hW => (hA.belowR b12).belowR hW
 have HB : Hid (∀ W, Below w2.heap.size w2 W -> Evs W ba bc L) := fun W hW => (hB.belowR b12).belowR hW
 have HN : Hid (n = L.length) := hn
 have HB12 : Hid (Below w.heap.size w w2) := b12
 clear hA hB hn hw1 hw2 b1 b2 b12 k1 k2 k12 e1
 go_enter Tryz.func18, Tryz.ntmps18
 go_upto_region 1 with fail
 rw [<- HW.out, <- hp1, <- hp]
 clear HW hp hp1
 go_wp2_with fail
 clear t0 t1 t2 t3 t4 t5 t6 c1 c2 c3 c4 c5 c6 d1 d2 d3 d4 d5 d6
 go_loopw [5] (fun v wr => ∃ k : Nat, k <= n /\ v = .int .i64 k /\ Hid (Below w2.heap.size w2 wr)) (fun v _ => n - (intOf v).toNat)
 case atStart => exact ⟨0, by omega, rfl, Below.refl _ _⟩
 case round =>
  clear x0 y0 hl1 hl2
  obtain ⟨k, hk, rfl, HW⟩ := hrel
  obtain ⟨x0, y0, hl1, hl2⟩ := HP.out _ HW.out
  by_cases hlt : k < n
  ·have hkf : k < L.length := by have := HN.out; omega
   obtain ⟨b, o, rfl, hbl, c0, c1⟩ := (HA.out _ HW.out).at hkf
   obtain ⟨b2, o2, rfl, hbl2, d0, d1⟩ := (HB.out _ HW.out).at hkf
   generalize L[k] = m at c0 c1 d0 d1
   obtain ⟨m1, m2⟩ := m
   simp only at c0 c1 d0 d1
   go_wp2_with fail
   go_quiet (fail)
   go_wp2_with fail
   go_roundw
   case rel => exact ⟨k + 1, by omega, by go_num, below_drawnA HW.out _⟩
   case measure => simp [intOf]; omega
  ·obtain rfl : k = n := by omega
   go_wp2_with fail
   go_ret
   exact ⟨rfl, HB12.out.trans (HW.out.mono HB12.out.size)⟩
end Go.Proofs.YtegoemeefmjnoaaGreatDoor
