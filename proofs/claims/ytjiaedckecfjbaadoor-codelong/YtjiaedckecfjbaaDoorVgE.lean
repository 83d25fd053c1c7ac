import Derived.Test.YtjiaedckecfjbaaDoorVgD
import Derived.SizedLaws
import Derived.Deep.Slices
import Derived.OpenShut
import Derived.ChangeOld
import Derived.ChangeSlices
import Derived.Lib.SmallJoins
set_option linter.unusedVariables false
set_option linter.unusedSimpArgs false
namespace Go.Proofs.YtjiaedckecfjbaaDoor
open Go.ChangeShapes Go.WideShapes Go.ChangeAt Go.RowKit Go.Maps

theorem weightsAll_memR {H : Type} {P : Program} {e : TypeId} {d : DataW H} {n : Nat} : ∀ {l : List (DataW H)}, d ∈ l → n ∈ d.weights P e → n ∈ DataW.weightsAll P e l
  | [], h, _ => by cases h
  | x :: l, h, hn => by
    simp only [DataW.weightsAll, List.mem_append]
    rcases List.mem_cons.1 h with rfl | h
    · exact .inl hn
    · exact .inr (weightsAll_memR h hn)
/-- Entries in a row, one by one. -/
theorem stsG_ofR {W : World} {b o c z : Nat} {xs : List (List Value)} (hz0 : 0 < z) (hc : xs.length ≤ c) (hm : c ≤ 9223372036854775807) (hz : ∀ x ∈ xs, x.length = z) (h1 : ∀ x ∈ xs, ∀ u ∈ x, u.oneCell' = true) (hb : b < W.heap.size) (h : ∀ i (hi : i < xs.length) r u, xs[i][r]? = some u → W.cell? ⟨b, o + (i * z + r), none⟩ = some u) : StsG W (some ⟨b, o, none⟩) c z xs := by
  refine ⟨hc, hm, hz, fun u hu => ?_, fun _ => ⟨b, o, rfl, hb, fun j u hu => ?_⟩⟩
  · obtain ⟨x, hx, hu'⟩ := List.mem_flatten.1 hu
    exact h1 x hx u hu'
  · have hj := (List.getElem?_eq_some_iff.1 hu).1
    rw [flat_len _ hz] at hj
    have hi : j / z < xs.length := Nat.div_lt_of_lt_mul (by rw [Nat.mul_comm]; exact hj)
    have e := flat_at xs hz (j / z) hi (j % z) (Nat.mod_lt _ hz0)
    have ej : j / z * z + j % z = j := by rw [Nat.mul_comm]; exact Nat.div_add_mod j z
    rw [ej, hu] at e
    have q := h (j / z) hi (j % z) u e.symm
    rw [ej] at q
    exact q
set_option maxRecDepth 20000 in
set_option maxHeartbeats 1000000 in
/-- A slice of structs that came in. -/
theorem lst_viewR {α : Type} (a0 : α) {En : World → List Value → α → Prop} {P : α → Prop} {T E : TypeId} {z by_ : Nat} (hT : Tryd.prog.underlying T = some (.slice E)) (hz0 : 0 < z) (hce : Tryd.prog.cellsOf E = z) (hbe : Tryd.prog.bytesOf E = by_) (hby : 0 < by_) {H : Type} {enc : TypeId × Value → H} {W : World}
    (each : ∀ fuel cs (y : DataW H × List MemPlace), DataW.trod enc Tryd.prog W 0 (fun _ => true) true fuel E cs = some y → cs.length = z → (∀ n ∈ y.1.weights Tryd.prog E, n ≤ reachBytes) → ∃ q : α, En W cs q ∧ (∀ u ∈ cs, u.oneCell' = true) ∧ P q)
    {fuel : Nat} {cs : List Value} {x : DataW H × List MemPlace} (h : DataW.trod enc Tryd.prog W 0 (fun _ => true) true fuel T cs = some x) (hw : ∀ n ∈ x.1.weights Tryd.prog T, n ≤ reachBytes) :
    ∃ (ao : Option Addr) (cap : Nat) (N : List α), cs = [.slice ao N.length cap] ∧ Lst En z W ao cap N ∧ N.length ≤ 140737488351232 ∧ ∀ q ∈ N, P q := by
  rcases Deep.open_slice hT h with ⟨h0, _⟩ | ⟨a, len, cap, m, n, D, Pl, rfl, _, hl, hm, hmm, rfl, hx⟩
  · exact ⟨none, 0, [], h0, Lst.nil W (by decide), by simp, fun p hp => by simp at hp⟩
  · rw [hce] at hx
    have hml : len ≤ m := by rw [hmm]; simp; exact hl
    have hlen := hw (((List.range len).map D).length * by_ + (m - len) * by_) (by simp [DataW.weights, hT, hbe, Nat.add_mul])
    simp only [List.length_map, List.length_range, reachBytes] at hlen
    have hlb : len ≤ 140737488351232 := by
      have : len * 1 ≤ len * by_ := Nat.mul_le_mul_left _ hby
      omega
    have hcap : cap ≤ 9223372036854775807 := by unfold maxLen at hm; omega
    have each' : ∀ i, i < len → ∃ q : List Value × α, (∀ r u, q.1[r]? = some u → W.cell? (a.add (i * z + r)) = some u) ∧ q.1.length = z ∧ En W q.1 q.2 ∧ (∀ u ∈ q.1, u.oneCell' = true) ∧ P q.2 := by
      intro i hi
      obtain ⟨cs', h1, h2⟩ := hx i (by omega)
      obtain ⟨_, hlen', hcell⟩ := World.cells?_some h1
      obtain ⟨q, q1, q2, q3⟩ := each _ cs' _ h2 hlen' (fun k hk => hw k (by
        simp only [DataW.weights, hT, List.mem_cons, List.mem_append]
        exact .inr (.inl (weightsAll_memR (d := D i) (List.mem_map.2 ⟨i, by simpa using hi, rfl⟩) hk))))
      refine ⟨(cs', q), fun r u hu => ?_, hlen', q1, q2, q3⟩
      have hr : r < z := by rw [← hlen']; exact (List.getElem?_eq_some_iff.1 hu).1
      have w1 := hcell r hr
      rw [Deep.add_add] at w1
      rw [w1]
      exact hu
    haveI : Inhabited (List Value × α) := ⟨([], a0)⟩
    obtain ⟨q, hq⟩ := Deep.choose_lt each'
    rcases Nat.eq_zero_or_pos len with h0 | h0
    · subst h0
      exact ⟨some a, cap, [], by simp, Lst.nil W hcap, by simp, fun p hp => by simp at hp⟩
    obtain ⟨b, off, spot⟩ := a
    have hz1 : 0 < (q 0).1.length := by rw [(hq 0 h0).2.1]; exact hz0
    have c00 := (hq 0 h0).1 0 _ (List.getElem?_eq_getElem hz1)
    have hspot : spot = none := by simpa [Addr.add] using World.cell?_spot c00
    subst hspot
    refine ⟨some ⟨b, off, none⟩, cap, (List.range len).map fun i => (q i).2, by simp, ⟨(List.range len).map fun i => (q i).1, by simp, stsG_ofR hz0 (by simpa using hl) hcap ?_ ?_ (by have := block_lt_of_cell c00; simpa [Addr.add] using this) fun i hi r u hu => ?_, fun i hi => ?_⟩, by simpa using hlb, fun p hp => ?_⟩
    · intro x hx'
      obtain ⟨i, hi, rfl⟩ := List.mem_map.1 hx'
      exact (hq i (by simpa using hi)).2.1
    · intro x hx'
      obtain ⟨i, hi, rfl⟩ := List.mem_map.1 hx'
      exact (hq i (by simpa using hi)).2.2.2.1
    · have hi' : i < len := by simpa using hi
      have e : ((List.range len).map fun i => (q i).1)[i] = (q i).1 := by simp
      rw [e] at hu
      have w1 := (hq i hi').1 r u hu
      rw [add_noneR] at w1
      exact w1
    · have hi' : i < len := by simpa using hi
      have e1 : ((List.range len).map fun i => (q i).1).getD i [] = (q i).1 := by simp [List.getD, hi']
      have e2 : ((List.range len).map fun i => (q i).2)[i] = (q i).2 := by simp
      rw [e1, e2]
      exact (hq i hi').2.2.1
    · obtain ⟨i, hi, rfl⟩ := List.mem_map.1 hp
      exact (hq i (by simpa using hi)).2.2.2.2
theorem wf_fitV {a : Int} (h : (Lit.int .i64 a).wf = true) : Fits a := by
  have := bounds_i64 h
  exact this
/-- An instruction's numbers are numbers. -/
def ReI (x : Ri) : Prop := Fits x.op ∧ Fits x.a ∧ Fits x.b ∧ Fits x.c ∧ Fits x.n
def ReR (f : Rf) : Prop := f.name.size ≤ 140737488351232 ∧ Fits f.fr ∧ Fits f.fi ∧ Fits f.ct ∧ Fits f.pa
def EnRi (w : World) (cs : List Value) (x : Ri) : Prop := cs = riv x
def EnRf (w : World) (cs : List Value) (x : Rf) : Prop := cs = rfv x
theorem lst_flat {α : Type} {g : α → List Value} {z : Nat} {W : World} {ao : Option Addr} {cap : Nat} {N : List α} (h : Lst (fun _ cs x => cs = g x) z W ao cap N) : StsG W ao cap z (N.map g) := by
  obtain ⟨xs, hn, hS, hE⟩ := h.out
  have ex : xs = N.map g := by
    refine List.ext_getElem (by simp [hn]) fun i h1 h2 => ?_
    have := hE i (by omega)
    have e1 : xs.getD i [] = xs[i] := by simp [List.getD, h1]
    rw [e1] at this
    rw [this, List.getElem_map]
  rw [← ex]
  exact hS
set_option maxRecDepth 20000 in
set_option maxHeartbeats 2000000 in
theorem ins_viewR {H : Type} {enc : TypeId × Value → H} {W : World} {fuel : Nat} {cs : List Value} {x : DataW H × List MemPlace} (h : DataW.trod enc Tryd.prog W 0 (fun _ => true) true fuel 22 cs = some x) (hw : ∀ n ∈ x.1.weights Tryd.prog 22, n ≤ reachBytes) :
    ∃ (ao : Option Addr) (cap : Nat) (L : List Ri), cs = [.slice ao L.length cap] ∧ StsG W ao cap 5 (L.map riv) ∧ L.length ≤ 140737488351232 ∧ ∀ x ∈ L, ReI x := by
  have c3 : Tryd.prog.cellsOf 3 = 1 := by kernel_rfl
  obtain ⟨ao, cap, N, e, hL, hl, hp⟩ := lst_viewR (α := Ri) ⟨0, 0, 0, 0, 0⟩ (En := fun _ cs x => cs = riv x) (P := ReI) (z := 5) (by_ := 40) Tryd.underlying22 (by decide) (by kernel_rfl) (by kernel_rfl) (by decide) (fun fuel cs y h hl hw => by
    obtain ⟨xs, k, hk, hxy, _, hxl, hf⟩ := DataW.trod_struct Tryd.underlying55 h
    match cs, hl with
    | [v0, v1, v2, v3, v4], _ =>
      have g0 := hf 0 _ rfl
      have g1 := hf 1 _ rfl
      have g2 := hf 2 _ rfl
      have g3 := hf 3 _ rfl
      have g4 := hf 4 _ rfl
      simp [c3] at g0 g1 g2 g3 g4
      match xs, hxl with
      | [y0, y1, y2, y3, y4], _ =>
        obtain ⟨n0, e0, _, w0⟩ := DataW.trod_int Tryd.underlying3 (show DataW.trod enc Tryd.prog W 0 _ true k 3 _ = some y0 from g0)
        obtain ⟨n1, e1, _, w1⟩ := DataW.trod_int Tryd.underlying3 (show DataW.trod enc Tryd.prog W 0 _ true k 3 _ = some y1 from g1)
        obtain ⟨n2, e2, _, w2⟩ := DataW.trod_int Tryd.underlying3 (show DataW.trod enc Tryd.prog W 0 _ true k 3 _ = some y2 from g2)
        obtain ⟨n3, e3, _, w3⟩ := DataW.trod_int Tryd.underlying3 (show DataW.trod enc Tryd.prog W 0 _ true k 3 _ = some y3 from g3)
        obtain ⟨n4, e4, _, w4⟩ := DataW.trod_int Tryd.underlying3 (show DataW.trod enc Tryd.prog W 0 _ true k 3 _ = some y4 from g4)
        simp at e0 e1 e2 e3 e4
        subst e0 e1 e2 e3 e4
        exact ⟨⟨n0, n1, n2, n3, n4⟩, rfl, fun u hu => by simp only [List.mem_cons, List.not_mem_nil, or_false] at hu; rcases hu with rfl | rfl | rfl | rfl | rfl <;> rfl, ⟨wf_fitV w0, wf_fitV w1, wf_fitV w2, wf_fitV w3, wf_fitV w4⟩⟩) h hw
  exact ⟨ao, cap, N, e, lst_flat hL, hl, hp⟩
set_option maxRecDepth 20000 in
set_option maxHeartbeats 2000000 in
theorem fns_viewR {H : Type} {enc : TypeId × Value → H} {W : World} {fuel : Nat} {cs : List Value} {x : DataW H × List MemPlace} (h : DataW.trod enc Tryd.prog W 0 (fun _ => true) true fuel 23 cs = some x) (hw : ∀ n ∈ x.1.weights Tryd.prog 23, n ≤ reachBytes) :
    ∃ (ao : Option Addr) (cap : Nat) (L : List Rf), cs = [.slice ao L.length cap] ∧ StsG W ao cap 5 (L.map rfv) ∧ L.length ≤ 140737488351232 ∧ ∀ x ∈ L, ReR x := by
  have c3 : Tryd.prog.cellsOf 3 = 1 := by kernel_rfl
  have cs9 : Tryd.prog.cellsOf 9 = 1 := by kernel_rfl
  obtain ⟨ao, cap, N, e, hL, hl, hp⟩ := lst_viewR (α := Rf) ⟨ByteArray.empty, 0, 0, 0, 0⟩ (En := fun _ cs x => cs = rfv x) (P := ReR) (z := 5) (by_ := 48) Tryd.underlying23 (by decide) (by kernel_rfl) (by kernel_rfl) (by decide) (fun fuel cs y h hl hw => by
    obtain ⟨xs, k, hk, hxy, _, hxl, hf⟩ := DataW.trod_struct Tryd.underlying40 h
    match cs, hl with
    | [v0, v1, v2, v3, v4], _ =>
      have g0 := hf 0 _ rfl
      have g1 := hf 1 _ rfl
      have g2 := hf 2 _ rfl
      have g3 := hf 3 _ rfl
      have g4 := hf 4 _ rfl
      simp [c3, cs9] at g0 g1 g2 g3 g4
      match xs, hxl with
      | [y0, y1, y2, y3, y4], _ =>
        have hw0 : ∀ n ∈ y0.1.weights Tryd.prog 9, n ≤ reachBytes := fun z hz => hw z (by rw [show y.1 = _ from congrArg Prod.fst hxy]; simp [DataW.weights, Tryd.underlying40, DataW.weightsEach]; simp [hz])
        obtain ⟨s0, e0, z0, _⟩ := DataW.trod_string Tryd.underlying9 (show DataW.trod enc Tryd.prog W 0 _ true k 9 _ = some y0 from g0)
        obtain ⟨n1, e1, _, w1⟩ := DataW.trod_int Tryd.underlying3 (show DataW.trod enc Tryd.prog W 0 _ true k 3 _ = some y1 from g1)
        obtain ⟨n2, e2, _, w2⟩ := DataW.trod_int Tryd.underlying3 (show DataW.trod enc Tryd.prog W 0 _ true k 3 _ = some y2 from g2)
        obtain ⟨n3, e3, _, w3⟩ := DataW.trod_int Tryd.underlying3 (show DataW.trod enc Tryd.prog W 0 _ true k 3 _ = some y3 from g3)
        obtain ⟨n4, e4, _, w4⟩ := DataW.trod_int Tryd.underlying3 (show DataW.trod enc Tryd.prog W 0 _ true k 3 _ = some y4 from g4)
        have r0 : s0.size ≤ 140737488351232 := by
          have q := hw0 s0.data.toList.length (by rw [z0]; simp [DataW.weights])
          have e : s0.size = s0.data.toList.length := by rw [Array.length_toList]; rfl
          rw [e]
          exact q
        simp at e0 e1 e2 e3 e4
        subst e0 e1 e2 e3 e4
        exact ⟨⟨s0, n1, n2, n3, n4⟩, rfl, fun u hu => by simp only [List.mem_cons, List.not_mem_nil, or_false] at hu; rcases hu with rfl | rfl | rfl | rfl | rfl <;> rfl, ⟨r0, wf_fitV w1, wf_fitV w2, wf_fitV w3, wf_fitV w4⟩⟩) h hw
  exact ⟨ao, cap, N, e, lst_flat hL, hl, hp⟩
set_option maxRecDepth 100000 in
/-- Code that came in. -/
theorem code_view {H : Type} {enc : TypeId × Value → H} {W : World} {r : Reach} {b0 : Nat} {v : Value} {d : DataW H} {p : List MemPlace} (hv : Value.okWide Tryd.prog W r b0 25 v) (h : DataW.Trod enc Tryd.prog W 0 (fun _ => true) true 25 v d p) (hw : ∀ n ∈ d.weights Tryd.prog 25, n ≤ reachBytes) :
    ∃ (ca : Option Addr) (cc : Nat) (C : List Ri) (fa : Option Addr) (fc : Nat) (FS : List Rf) (m : Int), v = .agg #[.slice ca C.length cc, .slice fa FS.length fc, .int .i64 m] ∧ StsG W ca cc 5 (C.map riv) ∧ C.length ≤ 140737488351232 ∧ (∀ x ∈ C, ReI x) ∧ StsG W fa fc 5 (FS.map rfv) ∧ FS.length ≤ 140737488351232 ∧ (∀ f ∈ FS, ReR f) ∧ Fits m := by
  obtain ⟨v0, v1, v2, y0, y1, y2, n, rfl, rfl, rfl, h0, h1, h2⟩ := Joins.open_agg3 Tryd.underlying25 (by kernel_rfl) (by kernel_rfl) hv h
  obtain ⟨ca, cc, C, e0, hC, hl, hr⟩ := ins_viewR h0 (fun k hk => hw k (by simp only [DataW.weights, Tryd.underlying25, DataW.weightsEach, List.map, List.mem_append]; simp [hk]))
  obtain ⟨fa, fc, FS, e1, hF, gl, gr⟩ := fns_viewR h1 (fun k hk => hw k (by simp only [DataW.weights, Tryd.underlying25, DataW.weightsEach, List.map, List.mem_append]; simp [hk]))
  obtain ⟨m, e2, _, w2⟩ := DataW.trod_int Tryd.underlying3 h2
  simp only [List.cons.injEq, and_true] at e0 e1 e2
  subst e0 e1 e2
  exact ⟨ca, cc, C, fa, fc, FS, m, rfl, hC, hl, hr, hF, gl, gr, wf_fitV w2⟩
end Go.Proofs.YtjiaedckecfjbaaDoor
