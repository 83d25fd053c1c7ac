import Derived.Test.YtddcpbidlbiamaaHkA
set_option linter.unusedVariables false
set_option linter.unusedSimpArgs false
namespace Go.Proofs.Ytddcpbidlbiamaa
open Go.ChangeShapes Go.WideShapes Go.ChangeAt Go.RowKit

theorem slot_at (i N : Int) (n : Nat) (hN : N = n) (hn : 0 < n) (hn2 : n ≤ 1000000000) (hi : Fits i) (w : World) : Calls Try.prog 14 #[.int .i64 i, .int .i64 N] w fun e w' => w' = w ∧ ∃ q : Nat, e = .returned (.int .i64 q) ∧ q < n := by
  subst hN
  exact slot_any i n hn hn2 hi w

/-- A list of numbers that came in. -/
structure Szs (w : World) (b off len : Nat) (z : Nat → Int) : Prop where
  lt : b < w.heap.size
  c : ∀ j, j < len → w.cell? ⟨b, off + j, none⟩ = some (.int .i64 (z j))
  ok : ∀ j, j < len → Fits (z j)
/-- A list of puts that came in. -/
structure Pts (w : World) (b off len : Nat) (zb zi zv : Nat → Int) : Prop where
  lt : b < w.heap.size
  c : ∀ j, j < len → w.cell? ⟨b, off + j * 3, none⟩ = some (.int .i64 (zb j)) ∧ w.cell? ⟨b, off + j * 3 + 1, none⟩ = some (.int .i64 (zi j)) ∧ w.cell? ⟨b, off + j * 3 + 2, none⟩ = some (.int .i64 (zv j))
  ok : ∀ j, j < len → Fits (zb j) ∧ Fits (zi j) ∧ Fits (zv j)
theorem Szs.below {w w' b off len z} (h : Szs w b off len z) (hb : Below w.heap.size w w') : Szs w' b off len z := ⟨Nat.lt_of_lt_of_le h.lt hb.size, fun j hj => (hb.cell (p := ⟨b, off + j, none⟩) h.lt).trans (h.c j hj), h.ok⟩
theorem Pts.below {w w' b off len zb zi zv} (h : Pts w b off len zb zi zv) (hb : Below w.heap.size w w') : Pts w' b off len zb zi zv := ⟨Nat.lt_of_lt_of_le h.lt hb.size, fun j hj => by
  rw [hb.cell (p := ⟨b, off + j * 3, none⟩) h.lt, hb.cell (p := ⟨b, off + j * 3 + 1, none⟩) h.lt, hb.cell (p := ⟨b, off + j * 3 + 2, none⟩) h.lt]
  exact h.c j hj, h.ok⟩

theorem KS.start {w w2 : World} {h m n : Nat} (H : FSt w w2 h m n 0 (fun _ => none) (fun _ => 0) 0) : KS w w2 h m n 0 (fun _ => 0) 0 (.slice none 0 0) (.slice none 0 0) [] := by
  have e : lnOf [] = fun _ => none := by funext a; rfl
  exact ⟨by rw [e]; exact H, ⟨rfl, by simp, by simp, fun _ _ => rfl⟩, OwnI.nil _ _, World.ownsRow_nil _ _ _ _, by simp, by simp, by simp [idsOf], by simp [Value.ownBlock], by simp⟩

/-- Block k: where its address, its list and its words lie. -/
structure KV (wr : World) (av wv : Value) (len k : Nat) (x : RB) (ga ca gw cw : Nat) (vo : Option Addr) (l vc : Nat) : Prop where
  ea : av = .slice (some ⟨ga, 0, none⟩) len ca
  ew : wv = .slice (some ⟨gw, 0, none⟩) len cw
  bb : len ≤ ca ∧ ca ≤ 9223372036854775807 ∧ len ≤ cw ∧ cw ≤ 9223372036854775807 ∧ l ≤ vc ∧ vc ≤ 9223372036854775807 ∧ l < 50
  ac : wr.cell? ⟨ga, k, none⟩ = some (.int .i64 x.a)
  wc : wr.cell? ⟨gw, k, none⟩ = some (.slice vo l vc)
  vn : x.vn = .slice vo l vc
  ll : x.ns.length = l
  nn : x.n = l
  p : 1 ≤ x.a ∧ x.a + x.n ≤ 100000
  c : ∀ j (hj : j < x.ns.length), ∃ g, vo = some ⟨g, 0, none⟩ ∧ wr.cell? ⟨g, j, none⟩ = some (.int .i64 x.ns[j]) ∧ wr.frozen? ⟨g, j, none⟩ = false
theorem KS.view {w wr h m n tk f c av wv L} (H : KS w wr h m n tk f c av wv L) {len : Nat} (hlen : L.length = len) (h2 : len ≤ 200) {k : Nat} (hk : k < L.length) : ∃ ga ca gw cw vo l vc, KV wr av wv len k L[k] ga ca gw cw vo l vc := by
  subst hlen
  obtain ⟨ga, ca, e1, b1, b2, _, _⟩ := own_some H.at_.out (by omega)
  obtain ⟨gw, cw, e2, b3, b4, _, _⟩ := own_some H.wt (by omega)
  have ho := H.own _ (List.getElem_mem hk)
  obtain ⟨vo, vc, e3, b5, b6⟩ := own_slice ho.out
  have hs := H.shp _ (List.getElem_mem hk)
  have hm := H.wd.lay.mem _ (List.getElem_mem hk)
  have hbd := H.bd
  refine ⟨ga, ca, gw, cw, vo, (L[k]).ns.length, vc, e1, e2, ⟨b1, b2, b3, b4, b5, b6, hs.2.2.2⟩, ?_, ?_, e3, rfl, hs.2.2.1.symm, by omega, fun j hj => ?_⟩
  · have ha := H.at_
    rw [e1] at ha
    have := ha.cell (q := k) (by simpa using hk)
    simpa using this
  · have hw := H.wt
    rw [e2] at hw
    rw [own_cell hw k (by omega)]
    simp [hk, e3]
  · obtain ⟨g, vc', e4, _⟩ := own_some ho.out (by omega)
    have h4 := ho
    rw [e4] at h4
    rw [e3] at e4
    cases e4
    exact ⟨g, rfl, h4.cell hj, own_fz h4.out j⟩
/-- Within a block there is none. -/
theorem lnOf_in {L : List RB} {tk : Int} (hL : Lay 0 L tk) {k : Nat} (hk : k < L.length) (j : Int) (h1 : 1 ≤ j) (h2 : j ≤ (L[k]).n) : lnOf L ((L[k]).a + j) = none := by
  refine lnOf_none fun x hx e => ?_
  obtain ⟨l, hl, rfl⟩ := List.getElem_of_mem hx
  have hm := (hL.mem _ (List.getElem_mem hl)).2.1
  rcases Nat.lt_trichotomy l k with h | h | h
  · have := hL.lt h hk; omega
  · subst h; omega
  · have := hL.lt h hl; omega
/-- What Get answers of block k. -/
theorem KS.get {w wr h m n tk f c av wv L} (H : KS w wr h m n tk f c av wv L) {k : Nat} (hk : k < L.length) (j : Int) (hj : Fits j) (ha : Fits (L[k]).a) :
    (¬ (0 ≤ j ∧ j < (L[k]).n) → Calls Try.prog 18 #[.pointer (some ⟨h, 0, none⟩), .int .i64 (L[k]).a, .int .i64 j] wr fun e w' => e = .returned (.tuple #[.int .i64 0, .bool false]) ∧ w' = wr) ∧
    ∀ i : Nat, (hi : i < (L[k]).ns.length) → j = i → Calls Try.prog 18 #[.pointer (some ⟨h, 0, none⟩), .int .i64 (L[k]).a, .int .i64 j] wr fun e w' => e = .returned (.tuple #[.int .i64 (L[k]).ns[i], .bool true]) ∧ w' = wr := by
  refine ⟨fun hn => get_no wr H.fs.ch _ j ha hj (fun h => hn ((inB_some H.wd.lay hk j).1 h)), fun i hi e => ?_⟩
  subst e
  have hs := H.shp _ (List.getElem_mem hk)
  have hb : 0 ≤ (i : Int) ∧ (i : Int) < (L[k]).n := by omega
  have hv := H.wd.wd _ (List.getElem_mem hk) i hb.1 hb.2
  have e : (L[k]).val i = (L[k]).ns[i] := by
    unfold RB.val
    rw [if_pos (by omega)]
    simp [hi]
  rw [← e, hv]
  exact get_yes wr H.fs.ch _ i ha hj ((inB_some H.wd.lay hk i).2 hb)
theorem KS.dd {w wr h m n tk f c c' av wv L} (H : KS w wr h m n tk f c av wv L) (hc : c ≤ c') : KS w wr.drew.drew h m n tk f c' av wv L := by
  have h1 : CH wr.drew.drew h m n tk (lnOf L) f c' := (H.fs.ch.move (w' := wr.drew.drew) (fun _ _ => rfl)).mono hc
  exact ⟨⟨h1, H.fs.bel.drew.drew, H.fs.bas⟩, H.wd, H.at_.move (fun _ _ => rfl), own_move H.wt (fun _ _ => rfl), fun x hx => (H.own x hx).move (fun _ _ => rfl), H.shp, H.nod, H.apt, H.bd⟩
end Go.Proofs.Ytddcpbidlbiamaa
