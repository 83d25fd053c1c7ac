import Derived.Test.YtddcpbidlbiamaaHpF
set_option linter.unusedVariables false
namespace Go.Proofs.Ytddcpbidlbiamaa
open Go.ChangeShapes Go.WideShapes Go.ChangeAt Go.RowKit

/-- A pair: where it lies and what it holds. -/
structure SP where
  p : Nat
  h : Nat
  m : Nat
  n : Nat
  r : Nat
  tk : Int
  v : Value
  ad : Value
  L : List RB
  f : Int → Int
def Foot (S : SP) (k : Nat) : Prop := k = S.p ∨ CF S.h S.m S.n k ∨ RF S.r S.v S.L k ∨ S.ad.ownBlock = some k
/-- The words of both heaps. -/
structure Words (L : List RB) (tk : Int) (f : Int → Int) : Prop where
  lay : Lay 0 L tk
  e : ∀ x ∈ L, x.ks.length = x.ws.length
  wd : ∀ x ∈ L, ∀ i, 0 ≤ i → i < x.n → x.val i = f (x.a + 1 + i)
  zr : ∀ y, tk < y → f y = 0
structure PS (w : World) (B : Nat) (S : SP) (c : Nat) : Prop where
  box : w.heap[S.p]? = some (.cells #[.pointer (some ⟨S.h, 0, none⟩), .pointer (some ⟨S.r, 0, none⟩), S.ad] 50 (0, 0))
  ch : CH w S.h S.m S.n S.tk (lnOf S.L) S.f c
  rh : RH w B S.r S.tk S.v S.L c
  own : OwnI w B S.ad S.L.length (S.L.map RB.a)
  apt : ∀ g, S.ad.ownBlock = some g → g ∉ idsOf S.L
  bas : B ≤ S.p ∧ B ≤ S.h ∧ B ≤ S.m ∧ B ≤ S.n
  wd : Words S.L S.tk S.f

/-- What kind of memory a block is. -/
def tg (w : World) (q : Nat) : Nat := match w.heap[q]? with
  | some (.cells _ t _) => t + 2
  | some (.map _ _) => 1
  | _ => 0
theorem tg_cells {w : World} {q : Nat} {a : Array Value} {t : TypeId} {f : Nat × Nat} (h : w.heap[q]? = some (.cells a t f)) : tg w q = t + 2 := by simp [tg, h]
theorem tg_map {w : World} {q : Nat} {a} {t} (h : w.heap[q]? = some (.map a t)) : tg w q = 1 := by simp [tg, h]
theorem CH.tg {w h m n tk ln f c} (H : CH w h m n tk ln f c) {q : Nat} (hq : CF h m n q) : tg w q = 54 + 2 ∨ tg w q = 1 := by
  obtain ⟨D, ⟨es, cl, h1, _⟩, _⟩ := H.o1
  obtain ⟨E, ⟨es', cl', h2, _⟩, _⟩ := H.o2
  rcases hq with rfl | rfl | rfl
  · exact .inl (tg_cells H.box)
  · exact .inr (tg_map h1)
  · exact .inr (tg_map h2)
theorem OwnI.tg {w B v n l} (H : OwnI w B v n l) {q : Nat} (hq : v.ownBlock = some q) : tg w q = 5 := by
  obtain ⟨cur, e⟩ := ints_at H hq
  exact tg_cells e
theorem RH.tg {w B r tk v L c} (H : RH w B r tk v L c) {q : Nat} (hq : RF r v L q) : tg w q = 57 + 2 ∨ tg w q = 59 + 2 ∨ tg w q = 5 := by
  rcases hq with rfl | hq | hq
  · exact .inl (tg_cells H.box)
  · obtain ⟨cur, e⟩ := row_at H.row hq
    exact .inr (.inl (tg_cells e))
  · obtain ⟨cur, e⟩ := H.ints hq
    exact .inr (.inr (tg_cells e))
theorem cf_rf {w h m n tk ln f c B r tk' v L c'} (H : CH w h m n tk ln f c) (R : RH w B r tk' v L c') {q : Nat} (hq : CF h m n q) : ¬ RF r v L q := fun hr => by
  have h1 := H.tg hq
  have h2 := R.tg hr
  omega
theorem ad_rf {w B r tk' v L c' ad k l} (R : RH w B r tk' v L c') (O : OwnI w B ad k l) (apt : ∀ g, ad.ownBlock = some g → g ∉ idsOf L) {q : Nat} (hq : ad.ownBlock = some q) : ¬ RF r v L q := fun hr => by
  have h1 := O.tg hq
  rcases hr with rfl | hr | hr
  · have := tg_cells R.box; omega
  · obtain ⟨cur, e⟩ := row_at R.row hr
    have := tg_cells e; omega
  · exact apt q hq hr
theorem ad_cf {w h m n tk ln f c B ad k l} (H : CH w h m n tk ln f c) (O : OwnI w B ad k l) {q : Nat} (hq : ad.ownBlock = some q) : ¬ CF h m n q := fun hr => by
  have h1 := O.tg hq
  have h2 := H.tg hr
  omega

theorem PS.lt {w B S c} (H : PS w B S c) : ∀ q, Foot S q → B ≤ q ∧ q < w.heap.size := by
  obtain ⟨b1, b2, b3, b4⟩ := H.bas
  rintro q (rfl | hq | hq | hq)
  · exact ⟨b1, (Array.getElem?_eq_some_iff.1 H.box).1⟩
  · refine ⟨?_, H.ch.lt q hq⟩
    rcases hq with rfl | rfl | rfl <;> assumption
  · exact H.rh.lt q hq
  · exact own_block H.own.out hq
theorem PS.move {w w' B S c} (H : PS w B S c) (hk : ∀ q, Foot S q → w'.heap[q]? = w.heap[q]?) : PS w' B S c :=
  ⟨(hk _ (.inl rfl)).trans H.box, H.ch.move fun q hq => hk q (.inr (.inl hq)), H.rh.move fun q hq => hk q (.inr (.inr (.inl hq))), H.own.move fun q hq => hk q (.inr (.inr (.inr hq))), H.apt, H.bas, H.wd⟩
theorem PS.keep {w w' B S c} (H : PS w B S c) (hb : Below w.heap.size w w') : PS w' B S c := H.move fun q hq => hb.block q (H.lt q hq).2
theorem PS.mono {w B S c c'} (H : PS w B S c) (hc : c ≤ c') : PS w B S c' := ⟨H.box, H.ch.mono hc, H.rh.mono hc, H.own, H.apt, H.bas, H.wd⟩

/-- The program's heap alone was written. -/
theorem PS.s1 {w w1 B S c} (H : PS w B S c) (hO : Only (CF S.h S.m S.n) w w1) : w1.heap[S.p]? = some (.cells #[.pointer (some ⟨S.h, 0, none⟩), .pointer (some ⟨S.r, 0, none⟩), S.ad] 50 (0, 0)) ∧ RH w1 B S.r S.tk S.v S.L c ∧ OwnI w1 B S.ad S.L.length (S.L.map RB.a) := by
  have hp : ¬ CF S.h S.m S.n S.p := fun h => by
    have h1 := H.ch.tg h
    have h2 := tg_cells H.box
    omega
  refine ⟨(hO.block _ (H.lt _ (.inl rfl)).2 hp).trans H.box, H.rh.move fun q hq => hO.block q (H.rh.lt q hq).2 (fun h => cf_rf H.ch H.rh h hq), H.own.move fun q hq => hO.block q (own_block H.own.out hq).2 (ad_cf H.ch H.own hq)⟩
/-- The document's heap alone was written. -/
theorem ps_s2 {w1 w2 : World} {B p h m n r k c c' : Nat} {tk tk' : Int} {ad v : Value} {l ln f L} {C : Array Value} (hb : w1.heap[p]? = some (.cells C 50 (0, 0))) (hc : CH w1 h m n tk ln f c) (hr : RH w1 B r tk' v L c') (ho : OwnI w1 B ad k l) (apt : ∀ g, ad.ownBlock = some g → g ∉ idsOf L)
    (hO : Only (RF r v L) w1 w2) : w2.heap[p]? = some (.cells C 50 (0, 0)) ∧ CH w2 h m n tk ln f c ∧ OwnI w2 B ad k l := by
  have hp : ¬ RF r v L p := fun h => by
    have h1 := hr.tg h
    have h2 := tg_cells hb
    omega
  exact ⟨(hO.block _ (Array.getElem?_eq_some_iff.1 hb).1 hp).trans hb, hc.move fun q hq => hO.block q (hc.lt q hq) (cf_rf hc hr hq), ho.move fun q hq => hO.block q (own_block ho.out hq).2 (ad_rf hr ho apt hq)⟩

/-- Words behind a Make. -/
theorem Words.make {L tk f} (H : Words L tk f) (k : Int) (h0 : 0 ≤ k) (x : RB) (hx : x = ⟨tk + 1, k, .slice none 0 0, .slice none 0 0, .slice none 0 0, [], [], []⟩) : Words (L ++ [x]) (tk + k + 1) f := by
  subst hx
  refine ⟨H.lay.snoc rfl h0, fun y hy => ?_, fun y hy i hi hn => ?_, fun y hy => H.zr y (by omega)⟩
  · rcases List.mem_append.1 hy with h | h
    · exact H.e y h
    · simp at h; subst h; rfl
  · rcases List.mem_append.1 hy with h | h
    · exact H.wd y h i hi hn
    · simp at h
      subst h
      rw [H.zr _ (by simp; omega)]
      unfold RB.val
      split
      · simp
      · simp [look]
/-- Words behind a Set. -/
theorem Words.set {L tk f} (H : Words L tk f) {k : Nat} (hk : k < L.length) (i y : Int) (hi0 : 0 ≤ i) (hi1 : i < (L[k]).n) (x : RB) (ha : x.a = (L[k]).a) (hn : x.n = (L[k]).n) (he : x.ks.length = x.ws.length) (hv : ∀ j, 0 ≤ j → x.val j = if j = i then y else (L[k]).val j) :
    Words (L.set k x) tk (upd f ((L[k]).a + 1 + i) y) := by
  have hm := H.lay.mem _ (List.getElem_mem hk)
  refine ⟨H.lay.set k hk x ha hn, fun z hz => ?_, fun z hz j hj hjn => ?_, fun z hz => ?_⟩
  · rcases List.mem_or_eq_of_mem_set hz with h | rfl
    · exact H.e z h
    · exact he
  · obtain ⟨l, hl, rfl⟩ := List.getElem_of_mem hz
    simp at hl
    rw [List.getElem_set] at hjn ⊢
    by_cases hlk : k = l
    · subst hlk
      rw [if_pos rfl] at hjn ⊢
      rw [hv j hj, ha]
      unfold upd
      by_cases e : j = i
      · subst e; simp
      · rw [if_neg e, if_neg (by omega)]
        exact H.wd _ (List.getElem_mem hk) j hj (by omega)
    · rw [if_neg hlk] at hjn ⊢
      rw [H.wd _ (List.getElem_mem hl) j hj hjn]
      unfold upd
      rw [if_neg]
      rcases Nat.lt_or_gt_of_ne hlk with h | h
      · have := H.lay.lt h hl; omega
      · have := H.lay.lt h hk; omega
  · unfold upd
    rw [if_neg (by omega)]
    exact H.zr z hz
end Go.Proofs.Ytddcpbidlbiamaa
