import Derived.Test.YtddcpbidlbiamaaHpK
import Derived.Test.YtddcpbidlbiamaaHpH
set_option linter.unusedVariables false
namespace Go.Proofs.Ytddcpbidlbiamaa
open Go.ChangeShapes Go.WideShapes Go.ChangeAt Go.RowKit

/-- What a call does to a pair: the pair's own memory alone is written. -/
structure Goes (w w' : World) (B : Nat) (S S' : SP) (c : Nat) : Prop where
  ps : PS w' B S' c
  p : S'.p = S.p
  o : Only (Foot S) w w'
  f : ∀ q, Foot S' q → Foot S q ∨ w.heap.size ≤ q
theorem PS.same {w w' B S c} (H : PS w B S c) (hb : Below w.heap.size w w') : Goes w w' B S S (c + 1) := ⟨(H.keep hb).mono (Nat.le_succ _), rfl, Only.of_below hb _, fun q h => .inl h⟩
theorem Goes.trans {w w1 w' B S S1 S' c c'} (h : Goes w w1 B S S1 c) (k : Goes w1 w' B S1 S' c') : Goes w w' B S S' c' :=
  ⟨k.ps, k.p.trans h.p, h.o.trans k.o (fun q hq h1 => (h.f q h1).elim id (fun h2 => absurd hq (by omega))), fun q hq => (k.f q hq).elim (h.f q) (fun h2 => .inr (by have := h.o.size; omega))⟩
theorem Goes.pre {w0 w w' B S S' c} (h : Goes w w' B S S' c) (hb : Below w0.heap.size w0 w) (hl : ∀ q, Foot S q → q < w0.heap.size) : Goes w0 w' B S S' c :=
  ⟨h.ps, h.p, (Only.of_below hb _).trans h.o (fun _ _ h => h), fun q hq => (h.f q hq).imp id (fun h2 => by have := hb.size; omega)⟩

/-- Make, of both: the addresses are one longer. -/
theorem PS.make {w w1 w2 w3 B S c} (H : PS w B S c) (k : Int) (h0 : 0 ≤ k)
    (hC : CH w1 S.h S.m S.n (S.tk + k + 1) (upd (lnOf S.L) (S.tk + 1) (some k)) S.f (c + 1)) (hO1 : Only (CF S.h S.m S.n) w w1)
    {u} (hR : RH w2 B S.r (S.tk + k + 1) u (S.L ++ [RB.new (S.tk + 1) k]) (c + 1)) (hO2 : Only (RF S.r S.v S.L) w1 w2) (hf : ∀ q, RF S.r u (S.L ++ [RB.new (S.tk + 1) k]) q → RF S.r S.v S.L q ∨ w1.heap.size ≤ q)
    {ad'} (hA : OwnI w3 B ad' (S.L.length + 1) (S.L.map RB.a ++ [S.tk + 1])) (hG : GI B w2 w3 S.ad ad') :
    w3.cell? ⟨S.p, 2, none⟩ = some S.ad ∧ w3.frozen? ⟨S.p, 2, none⟩ = false ∧ Goes w (w3.setCell ⟨S.p, 2, none⟩ ad') B S ⟨S.p, S.h, S.m, S.n, S.r, S.tk + k + 1, u, ad', S.L ++ [RB.new (S.tk + 1) k], S.f⟩ (c + 1) := by
  obtain ⟨b1, r1, a1⟩ := H.s1 hO1
  obtain ⟨b2, c2, a2⟩ := ps_s2 b1 hC r1 a1 H.apt hO2
  have hids : idsOf (S.L ++ [RB.new (S.tk + 1) k]) = idsOf S.L := by simp [idsOf, RB.new, RB.ids, Value.ownBlock]
  have hpl : S.p < w2.heap.size := (Array.getElem?_eq_some_iff.1 b2).1
  have hpa : S.ad.ownBlock ≠ some S.p := fun h => by
    have h1 := a2.tg h
    have h2 := tg_cells b2
    omega
  have b3 := (hG.blk S.p hpl hpa).trans b2
  have apt2 : ∀ g, S.ad.ownBlock = some g → g ∉ idsOf (S.L ++ [RB.new (S.tk + 1) k]) := by rw [hids]; exact H.apt
  have c3 : CH w3 S.h S.m S.n (S.tk + k + 1) (upd (lnOf S.L) (S.tk + 1) (some k)) S.f (c + 1) := c2.move fun q hq => hG.blk q (c2.lt q hq) (fun h => ad_cf c2 a2 h hq)
  have r3 : RH w3 B S.r (S.tk + k + 1) u (S.L ++ [RB.new (S.tk + 1) k]) (c + 1) := hR.move fun q hq => hG.blk q (hR.lt q hq).2 (fun h => ad_rf hR a2 apt2 h hq)
  have t3 := tg_cells b3
  have pc : ∀ q, CF S.h S.m S.n q → q ≠ S.p := fun q hq e => by
    have := c3.tg hq
    rw [e] at this
    omega
  have pr : ∀ q, RF S.r u (S.L ++ [RB.new (S.tk + 1) k]) q → q ≠ S.p := fun q hq e => by
    have := r3.tg hq
    rw [e] at this
    omega
  have pa : ∀ q, ad'.ownBlock = some q → q ≠ S.p := fun q hq e => by
    have := hA.tg hq
    rw [e] at this
    omega
  have s02 : w.heap.size ≤ w2.heap.size := Nat.le_trans hO1.size hO2.size
  refine ⟨cell_arr (i := 2) b3 rfl, fz_of b3, ⟨⟨heap_set_at b3, ?_, r3.move fun q hq => heap_set_other (pr q hq), ?_, ?_, H.bas, H.wd.make k h0 _ rfl⟩, rfl, ?_, ?_⟩⟩
  · have := c3.move (w' := w3.setCell ⟨S.p, 2, none⟩ ad') fun q hq => heap_set_other (pc q hq)
    show CH _ S.h S.m S.n (S.tk + k + 1) (lnOf (S.L ++ [RB.new (S.tk + 1) k])) S.f (c + 1)
    rw [lnOf_snoc H.wd.lay (show (RB.new (S.tk + 1) k).a = S.tk + 1 from rfl)]
    exact this
  · have := hA.move (w' := w3.setCell ⟨S.p, 2, none⟩ ad') fun q hq => heap_set_other (pa q hq)
    simpa [RB.new] using this
  · intro g hg
    show g ∉ idsOf (S.L ++ [RB.new (S.tk + 1) k])
    rcases hG.own g hg with h | h
    · exact apt2 g h
    · intro hm
      have := (hR.lt g (.inr (.inr hm))).2
      omega
  · refine (((hO1.mono ?_).trans hO2 ?_).trans (F' := fun q => S.ad.ownBlock = some q) ⟨hG.bel.os, hG.bel.tape, hG.bel.output, hG.bel.size, fun q hq hno => hG.blk q hq hno⟩ ?_).trans (Only.of_set _ _ _) ?_
    · intro q _ h; exact .inr (.inl h)
    · intro q _ h; exact .inr (.inr (.inl h))
    · intro q _ h; exact .inr (.inr (.inr h))
    · rintro q _ rfl; exact .inl rfl
  · rintro q (h | h | h | h)
    · exact .inl (.inl h)
    · exact .inl (.inr (.inl h))
    · rcases hf q h with h | h
      · exact .inl (.inr (.inr (.inl h)))
      · exact .inr (Nat.le_trans hO1.size h)
    · rcases hG.own q h with h | h
      · exact .inl (.inr (.inr (.inr h)))
      · exact .inr (by omega)
end Go.Proofs.Ytddcpbidlbiamaa
