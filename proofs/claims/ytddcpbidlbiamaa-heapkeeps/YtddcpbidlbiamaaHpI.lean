import Derived.Test.YtddcpbidlbiamaaHpH
import Derived.Deep.LoopGhost
import Derived.Deep.RegionLaw
set_option linter.unusedVariables false
namespace Go.Proofs.Ytddcpbidlbiamaa
open Go.ChangeShapes Go.WideShapes Go.ChangeAt Go.RowKit

theorem cell_setO {w : World} {g j b q : Nat} {u v : Value} (hne : ¬ b = g) (h : w.cell? ⟨b, q, none⟩ = some v) : (w.setCell ⟨g, j, none⟩ u).cell? ⟨b, q, none⟩ = some v := by
  rw [World.cell?_of_block (w := w) (heap_set_other hne)]
  exact h
theorem rset_no (w : World) {B r tk v L c} (H : RH w B r tk v L c) (hL : Lay 0 L tk) (hc : c ≤ 1000000000) (a i y : Int) (hin : ¬ inB (lnOf L) a i) :
    Calls Try.prog 23 #[.pointer (some ⟨r, 0, none⟩), .int .i64 a, .int .i64 i, .int .i64 y] w fun e w' => e = .returned (.bool false) ∧ w' = w := by
  have hf := find_any w H hL hc a
  have c0 := cell_arr (i := 0) H.box rfl
  have HH := show Hid (RH w B r tk v L c) from H
  have HL := show Hid (Lay 0 L tk) from hL
  have HI := show Hid (¬ inB (lnOf L) a i) from hin
  clear H hL hin
  go_enter Try.func23, Try.ntmps23
  go_wp2_with fail
  refine hf.mono ?_
  rintro e u ⟨rfl, j, rfl, hF⟩
  clear hf
  rcases hF.out with ⟨k, hk, ha, rfl⟩ | ⟨hn, rfl⟩
  · have hpos : 0 < L.length := by omega
    have hlen := HH.out.len
    obtain ⟨g, cp, rfl, hc1, hc2, _, _⟩ := own_some HH.out.row hpos
    obtain ⟨_, q1, _⟩ := HH.out.cells rfl hk
    have hno : ¬ (0 ≤ i ∧ i < (L[k]).n) := by rw [← inB_some HL.out hk, ha]; exact HI.out
    generalize (L[k]).n = x at q1 hno
    clear ha hF
    by_cases hi : i < 0
    · clear hno
      go_wp2_with fail
      go_ret
      exact ⟨rfl, rfl⟩
    · have hx : x ≤ i := by omega
      clear hno
      go_wp2_with fail
      go_ret
      exact ⟨rfl, rfl⟩
  · clear hn hF
    go_wp2_with fail
    go_ret
    exact ⟨rfl, rfl⟩

/-- Block k while its row of first words is lengthened to l words. -/
structure NR (w wr : World) (B r : Nat) (tk : Int) (V : Value) (L : List RB) (c k : Nat) (x0 : RB) (l : Nat) (x : RB) : Prop where
  h : RH wr B r tk V (L.set k x) c
  o : Only (RF r V L) w wr
  f : ∀ q, RF r V (L.set k x) q → RF r V L q ∨ w.heap.size ≤ q
  s : x.a = x0.a ∧ x.n = x0.n ∧ x.ks = x0.ks ∧ x.ws = x0.ws
  d : ∃ d, x.ns = x0.ns ++ List.replicate d 0
  l : x.ns.length = l
theorem NR.start {w : World} {B r tk V L c} (H : RH w B r tk V L c) {k : Nat} (hk : k < L.length) : NR w w B r tk V L c k L[k] (L[k]).ns.length L[k] := by
  have e : L.set k L[k] = L := set_same (List.getElem?_eq_getElem hk)
  exact ⟨by rw [e]; exact H, Only.refl _ _, by rw [e]; exact fun q h => .inl h, ⟨rfl, rfl, rfl, rfl⟩, ⟨0, by simp⟩, rfl⟩
theorem NR.view {w wr B r tk g n cp L c k x0 l x} (H : NR w wr B r tk (.slice (some ⟨g, 0, none⟩) n cp) L c k x0 l x) (hn : n = L.length) (hk : k < L.length) :
    wr.cell? ⟨r, 0, none⟩ = some (.slice (some ⟨g, 0, none⟩) n cp) ∧ wr.cell? ⟨g, k * 5 + 2, none⟩ = some x.vn ∧ wr.frozen? ⟨g, k * 5 + 2, none⟩ = false ∧ OwnI wr B x.vn l x.ns ∧ (∃ an cn, x.vn = .slice an l cn ∧ l ≤ cn ∧ cn ≤ 9223372036854775807) ∧ (∀ q, x.vn.ownBlock = some q → q ≠ g ∧ q ≠ r) ∧ r < wr.heap.size ∧ g < wr.heap.size ∧ ¬ r = g := by
  subst hn
  have hk' : k < (L.set k x).length := by simpa using hk
  have hx : (L.set k x)[k] = x := by simp
  have ho := H.h.own _ (List.getElem_mem hk')
  have hc := H.h.cells (by simp) hk'
  rw [hx] at ho hc
  have hon := ho.n
  rw [H.l] at hon
  have hr := H.h.row
  simp only [List.length_set] at hr
  refine ⟨cell_arr (i := 0) H.h.box rfl, hc.2.2.1, own_fz hr _, hon, own_slice hon.out, fun q hq => ?_, (H.h.lt r (.inl rfl)).2, (H.h.lt g (.inr (.inl rfl))).2, fun e => H.h.vr (by rw [e]; rfl)⟩
  have hm : q ∈ idsOf (L.set k x) := List.mem_flatMap.2 ⟨x, List.mem_iff_getElem.2 ⟨k, hk', hx⟩, mem_vn hq⟩
  exact ⟨fun e => H.h.iv hm (by rw [e]; rfl), fun e => H.h.ir (by rw [← e]; exact hm)⟩
theorem NR.next {w wr W w2 B r tk g n cp L c k x0 l x u} (H : NR w wr B r tk (.slice (some ⟨g, 0, none⟩) n cp) L c k x0 l x) (hn : n = L.length) (hk : k < L.length) (hW : Below wr.heap.size wr W) (hl : l < 4096)
    (hG : GI B W w2 x.vn u) (hu : OwnI w2 B u (l + 1) (x.ns ++ [0])) : NR w (w2.setCell ⟨g, k * 5 + 2, none⟩ u) B r tk (.slice (some ⟨g, 0, none⟩) n cp) L c k x0 (l + 1) { x with vn := u, ns := x.ns ++ [0] } := by
  subst hn
  have hk' : k < (L.set k x).length := by simpa using hk
  have hx : (L.set k x)[k] = x := by simp
  have hll := H.l
  have e : L.length = (L.set k x).length := by simp
  have hh := H.h
  rw [e] at hh
  obtain ⟨r1, r2, r3⟩ := RH.addNear (u := u) (y := 0) hh hk' hW (by rw [hx]; exact hG) (by rw [hx, hll]; exact hu) (by rw [hx]; omega)
  rw [hx, ← e, List.set_set] at r1 r3
  rw [← e] at r2
  obtain ⟨d, hd⟩ := H.d
  refine ⟨r1, H.o.trans r2 ?_, fun q hq => ?_, H.s, ⟨d + 1, ?_⟩, by simp; exact hll⟩
  · intro q hq h
    rcases H.f q h with h | h
    · exact h
    · omega
  · rcases r3 q hq with h | h
    · exact H.f q h
    · have := H.o.size; exact .inr (by omega)
  · rw [hd, List.replicate_succ', List.append_assoc]

theorem val_near (x0 x : RB) (m d : Nat) (y : Int) (hs : x.a = x0.a ∧ x.n = x0.n ∧ x.ks = x0.ks ∧ x.ws = x0.ws) (hd : x.ns = x0.ns ++ List.replicate d 0) (hm : m < 4096) (hl : m < x.ns.length) (j : Int) (hj : 0 ≤ j) : RB.val { x with ns := x.ns.set m y } j = if j = m then y else x0.val j := by
  unfold RB.val
  by_cases h : j < 4096
  · rw [if_pos h, if_pos h]
    obtain ⟨q, rfl⟩ : ∃ q : Nat, j = q := ⟨j.toNat, by omega⟩
    simp only [Int.toNat_natCast, List.getD_eq_getElem?_getD, List.getElem?_set]
    by_cases e : m = q
    · subst e
      rw [if_pos rfl, if_pos hl, if_pos rfl]
      rfl
    · rw [if_neg e, if_neg (by omega), hd, List.getElem?_append]
      split
      · rfl
      · rename_i h2
        rw [List.getElem?_eq_none (l := x0.ns) (by omega), List.getElem?_replicate]
        split <;> rfl
  · rw [if_neg h, if_neg h, if_neg (by omega), hs.2.2.1, hs.2.2.2]

/-- What Set does to the document's heap: block k has other lists, in which one word is another one. -/
structure Sets (w w' : World) (B r : Nat) (tk : Int) (V : Value) (L : List RB) (c k : Nat) (x0 : RB) (i y : Int) (x : RB) : Prop where
  h : RH w' B r tk V (L.set k x) (c + 1)
  o : Only (RF r V L) w w'
  f : ∀ q, RF r V (L.set k x) q → RF r V L q ∨ w.heap.size ≤ q
  a : x.a = x0.a
  n : x.n = x0.n
  e : x.ks.length = x.ws.length
  v : ∀ j, 0 ≤ j → x.val j = if j = i then y else x0.val j
theorem NR.done {w wr B r tk g n cp L c k x0 l x} (H : NR w wr B r tk (.slice (some ⟨g, 0, none⟩) n cp) L c k x0 l x) (hn : n = L.length) (hk : k < L.length) (he : x0.ks.length = x0.ws.length) (m : Nat) (hm : m < l) (hm2 : m < 4096) (y : Int) {gn cn : Nat} (hv : x.vn = .slice (some ⟨gn, 0, none⟩) l cn) :
    Sets w (wr.setCell ⟨gn, m, none⟩ (.int .i64 y)) B r tk (.slice (some ⟨g, 0, none⟩) n cp) L c k x0 m y { x with ns := x.ns.set m y } := by
  subst hn
  have hk' : k < (L.set k x).length := by simpa using hk
  have hx : (L.set k x)[k] = x := by simp
  have hll := H.l
  obtain ⟨r1, r2, r3⟩ := H.h.putNear hk' (gn := gn) (cn := cn) (m := m) (by rw [hx, hv, hll]) (by rw [hx]; omega) y
  rw [hx, List.set_set] at r1 r3
  obtain ⟨d, hd⟩ := H.d
  refine ⟨r1.mono (Nat.le_succ _), H.o.trans r2 ?_, fun q hq => ?_, H.s.1, H.s.2.1, by simp [H.s.2.2.1, H.s.2.2.2]; exact he, fun j hj => val_near x0 x m d y H.s hd hm2 (by omega) j hj⟩
  · intro q hq h
    rcases H.f q h with h | h
    · exact h
    · omega
  · rcases r3 q hq with h | h
    · exact H.f q h
    · have := H.o.size; exact .inr (by omega)

set_option maxHeartbeats 4000000 in
set_option maxRecDepth 100000 in
theorem rset_near (w : World) {B r tk v L c} (H : RH w B r tk v L c) (hL : Lay 0 L tk) (hB : B ≤ w.heap.size) (hc : c ≤ 1000000000) (k : Nat) (hk : k < L.length) (he : (L[k]).ks.length = (L[k]).ws.length) (m : Nat) (y : Int) (hi1 : (m : Int) < (L[k]).n) (hm : m < 4096) :
    Calls Try.prog 23 #[.pointer (some ⟨r, 0, none⟩), .int .i64 (L[k]).a, .int .i64 m, .int .i64 y] w fun e w' => e = .returned (.bool true) ∧ ∃ x, Sets w w' B r tk v L c k L[k] m y x := by
  have hf := find_any w H hL hc (L[k]).a
  have c0 := cell_arr (i := 0) H.box rfl
  have hpos : 0 < L.length := by omega
  have hlen := H.len
  obtain ⟨g, cp, rfl, hc1, hc2, _, _⟩ := own_some H.row hpos
  obtain ⟨_, q1, q2, q3, q4⟩ := H.cells rfl hk
  have hbd := (H.bd _ (List.getElem_mem hk)).1
  have hkk : Hid (∀ j, Found L (L[k]).a j → j = k) := by
    intro j hF
    rcases hF.out with ⟨k', hk', ha, rfl⟩ | ⟨hn, rfl⟩
    · rw [hL.inj hk' hk ha]
    · exact absurd rfl (hn _ (List.getElem_mem hk))
  have NS := NR.start H hk
  have HE := show Hid ((L[k]).ks.length = (L[k]).ws.length) from he
  clear H hL q2 q3 q4 he
  obtain ⟨n, hn⟩ : ∃ n, n = L.length := ⟨_, rfl⟩
  rw [← hn] at c0 hc1 hlen NS ⊢
  have HN := show Hid (n = L.length) from hn
  have HK := show Hid (k < L.length) from hk
  have hkn : k < n := by omega
  clear hn hpos
  generalize L[k] = x at *
  generalize hl0 : x.ns.length = l0 at *
  clear hl0 hk
  have hn9 : n ≤ 1000000000 := by omega
  have hdm : decide ((m : Int) < 4096) = true := by simp; omega
  go_enter Try.func23, Try.ntmps23
  go_wp2_with fail
  refine hf.mono ?_
  rintro e u ⟨rfl, j, rfl, hF⟩
  obtain rfl := hkk.out j hF
  clear hf hF hkk
  have HB := show Hid (B ≤ u.heap.size) from hB
  go_wp2_with fail
  go_loopg [] (m + 1 - l0) (fun q wr => ∃ (l : Nat) (x' : RB), NR u wr B r tk (.slice (some ⟨g, 0, none⟩) n cp) L c k x l x' ∧ q = m + 1 - l ∧ l ≤ 4096)
  case atStart => exact ⟨l0, x, NS, rfl, hbd⟩
  case round =>
    obtain ⟨l, x', HR, hgk, hl⟩ := hrel
    obtain ⟨b0, p2, pf, po, ⟨an, cn, hvn, n1, n2⟩, pne, hrl, hgl, hrg⟩ := HR.view HN.out HK.out
    have hBr : B ≤ wr.heap.size := by have h1 := HB.out; have h2 := HR.o.size; omega
    obtain ⟨HVN⟩ : Nonempty (Hid (x'.vn = .slice an l cn)) := ⟨hvn⟩
    rw [hvn] at p2
    have HPO := show Hid (OwnI wr B (.slice an l cn) l x'.ns) from by rw [← hvn]; exact po
    have HPN := show Hid (∀ q, (Value.slice an l cn).ownBlock = some q → q ≠ g ∧ q ≠ r) from by rw [← hvn]; exact pne
    have HGK := show Hid (gk = m + 1 - l) from hgk
    clear hvn po pne hgk
    by_cases hlt : l ≤ m
    · go_wp2_with fail
      go_region_law
        (first
        | (refine step_append_intG rfl _ _ rfl B _ l x'.ns 0 (by simp [Act.eval]) (HPO.out.keep ((Below.refl _ _).alloc (Nat.le_refl _) _).drew) wr.heap.size (by simp [Act.eval]) (by simp) (by omega) (by first | omega | (simp; done) | (simp; omega)) ?_; intro u6 w6 h6 hG6
           have d0 : w6.cell? ⟨r, 0, none⟩ = some (.slice (some ⟨g, 0, none⟩) n cp) := (World.cell?_of_block (w := wr) (by rw [hG6.blk r (by simp; omega) (fun e => (HPN.out r e).2 rfl), drew_heap, heap_alloc_old _ _ hrl])).trans b0
           have hg6 : w6.heap[g]? = wr.heap[g]? := (by rw [hG6.blk g (by simp; omega) (fun e => (HPN.out g e).1 rfl), drew_heap, heap_alloc_old _ _ hgl])
           have d2 : w6.cell? ⟨g, k * 5 + 2, none⟩ = some (.slice an l cn) := (World.cell?_of_block (w := wr) hg6).trans p2
           have df : w6.frozen? ⟨g, k * 5 + 2, none⟩ = false := (World.frozen?_of_block (w := wr) hg6).trans pf
           obtain ⟨ka6, kc6, rfl, _, _⟩ := own_slice h6.out))
      all_goals
        go_wp2_with fail
        go_roundg (m + 1 - (l + 1))
        case measure => have := HGK.out; omega
        case rel => exact ⟨l + 1, _, HR.next HN.out HK.out (((Below.refl _ _).alloc (Nat.le_refl _) _).drew) (by omega) (by rw [HVN.out]; exact hG6) h6, rfl, by omega⟩
    · obtain ⟨gn, cn', e, _⟩ := own_some HPO.out.out (by omega)
      cases e
      have hml : m < l := by omega
      have hfz := own_fz HPO.out.out m
      have hcl := HPO.out.cell (q := m) (by have := HPO.out.len; omega)
      have HD := show Hid _ from fun y => HR.done HN.out HK.out HE.out m hml hm y HVN.out
      generalize x'.ns[m]'(by have := HPO.out.len; omega) = old at hcl
      go_wp2_with fail
      go_ret
      exact ⟨rfl, _, HD.out y⟩
end Go.Proofs.Ytddcpbidlbiamaa
