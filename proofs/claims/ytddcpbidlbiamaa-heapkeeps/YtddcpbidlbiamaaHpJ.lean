import Derived.Test.YtddcpbidlbiamaaHpI
import Derived.Deep.Cut
set_option linter.unusedVariables false
namespace Go.Proofs.Ytddcpbidlbiamaa
open Go.ChangeShapes Go.WideShapes Go.ChangeAt Go.RowKit

theorem look_set {i y : Int} : ∀ (ks ws : List Int), ks.length = ws.length → ∀ (j : Nat) (hj : j < ks.length), (∀ l (hl : l < ks.length), l < j → ¬ ks[l] = i) → ks[j] = i → ∀ q, look ks (ws.set j y) q = if q = i then y else look ks ws q := by
  intro ks
  induction ks with
  | nil => intro ws h j hj; simp at hj
  | cons k ks ih =>
    intro ws h j hj hno he q
    cases ws with
    | nil => simp at h
    | cons x ws =>
      cases j with
      | zero =>
        simp at he
        subst he
        simp only [List.set_cons_zero, look]
        by_cases e : k = q
        · subst e; simp
        · have : ¬ q = k := fun h => e h.symm
          simp [e, this]
      | succ j =>
        have h0 := hno 0 (by simp) (by omega)
        simp at h0
        simp only [List.set_cons_succ, look]
        rw [ih ws (by simpa using h) j (by simpa using hj) (fun l hl hlj => by have := hno (l + 1) (by simpa using hl) (by omega); simpa using this) (by simpa using he) q]
        by_cases e : k = q
        · subst e; simp [h0]
        · simp [e]
theorem look_snoc {i y : Int} : ∀ (ks ws : List Int), ks.length = ws.length → (∀ l (hl : l < ks.length), ¬ ks[l] = i) → ∀ q, look (ks ++ [i]) (ws ++ [y]) q = if q = i then y else look ks ws q := by
  intro ks
  induction ks with
  | nil =>
    intro ws h _ q
    cases ws with
    | nil =>
      simp only [List.nil_append, look]
      by_cases e : i = q
      · subst e; simp
      · have : ¬ q = i := fun h => e h.symm
        simp [e, this]
    | cons x ws => simp at h
  | cons k ks ih =>
    intro ws h hno q
    cases ws with
    | nil => simp at h
    | cons x ws =>
      have h0 := hno 0 (by simp)
      simp at h0
      simp only [List.cons_append, look]
      rw [ih ws (by simpa using h) (fun l hl => by have := hno (l + 1) (by simpa using hl); simpa using this) q]
      by_cases e : k = q
      · subst e; simp [h0]
      · simp [e]
theorem val_far (x0 x : RB) (i y : Int) (hi : ¬ i < 4096) (hns : x.ns = x0.ns) (hl : ∀ q, look x.ks x.ws q = if q = i then y else look x0.ks x0.ws q) (j : Int) (hj : 0 ≤ j) : x.val j = if j = i then y else x0.val j := by
  unfold RB.val
  by_cases h : j < 4096
  · rw [if_pos h, if_pos h, if_neg (by omega), hns]
  · rw [if_neg h, if_neg h, hl]

theorem far_found {w : World} {B r tk v L c} (H : RH w B r tk v L c) {k : Nat} (hk : k < L.length) (he : (L[k]).ks.length = (L[k]).ws.length) {gf n cf : Nat} (hv : (L[k]).vf = .slice (some ⟨gf, 0, none⟩) n cf) (hn : n = (L[k]).ws.length) (i y : Int) (hi : ¬ i < 4096) (j : Nat) (hj : j < (L[k]).ks.length) (hp : Past (L[k]).ks i j) (hji : (L[k]).ks[j] = i) :
    Sets w (w.setCell ⟨gf, j, none⟩ (.int .i64 y)) B r tk v L c k L[k] i y { L[k] with ws := (L[k]).ws.set j y } := by
  subst hn
  obtain ⟨r1, r2, r3⟩ := H.putFar (m := j) hk hv (by omega) y
  exact ⟨r1.mono (Nat.le_succ _), r2, r3, rfl, rfl, by simpa using he, fun q hq => val_far L[k] { L[k] with ws := (L[k]).ws.set j y } i y hi rfl (look_set _ _ he j hj hp.out hji) q hq⟩

/-- Behind the first list's growing: what the second one's needs. -/
structure Far1 (w w3 : World) (B r : Nat) (tk : Int) (g n cp : Nat) (L : List RB) (c k : Nat) (x : RB) (i : Int) (l : Nat) (u : Value) : Prop where
  e0 : w3.cell? ⟨r, 0, none⟩ = some (.slice (some ⟨g, 0, none⟩) n cp)
  e1 : w3.cell? ⟨g, k * 5 + 4, none⟩ = some x.vf
  e2 : w3.frozen? ⟨g, k * 5 + 4, none⟩ = false
  e3 : OwnI w3 B x.vf l x.ws
  e4 : ∀ q, x.vf.ownBlock = some q → q ≠ g ∧ q ≠ r
  e5 : r < w3.heap.size
  e6 : g < w3.heap.size
  e7 : w.heap.size ≤ w3.heap.size
  e8 : ∀ W2 w4 u2 y, Below w3.heap.size w3 W2 → GI B W2 w4 x.vf u2 → OwnI w4 B u2 (l + 1) (x.ws ++ [y]) → ¬ i < 4096 → Past x.ks i l → Sets w (w4.setCell ⟨g, k * 5 + 4, none⟩ u2) B r tk (.slice (some ⟨g, 0, none⟩) n cp) L c k x i y { x with va := u, vf := u2, ks := x.ks ++ [i], ws := x.ws ++ [y] }
/-- Between the two lists' growing. -/
theorem far_new1 {w W w2 : World} {B r tk g n cp L c u} (H : RH w B r tk (.slice (some ⟨g, 0, none⟩) n cp) L c) (hn : n = L.length) {k : Nat} (hk : k < L.length) (hW : Below w.heap.size w W) (i : Int) {l : Nat} (hl : l = (L[k]).ks.length) (he : (L[k]).ks.length = (L[k]).ws.length)
    (hG : GI B W w2 (L[k]).va u) (hu : OwnI w2 B u (l + 1) ((L[k]).ks ++ [i])) :
    Far1 w (w2.setCell ⟨g, k * 5 + 3, none⟩ u) B r tk g n cp L c k L[k] i l u := by
  subst hn hl
  obtain ⟨r1, r2, r3⟩ := H.addAt hk u i hW hG hu
  obtain ⟨x1, hx1⟩ : ∃ x1 : RB, x1 = { L[k] with va := u, ks := (L[k]).ks ++ [i] } := ⟨_, rfl⟩
  rw [← hx1] at r1 r3
  have hk' : k < (L.set k x1).length := by simpa using hk
  have hx : (L.set k x1)[k] = x1 := by simp
  have e : L.length = (L.set k x1).length := by simp
  have ho := r1.own _ (List.getElem_mem hk')
  have hc := r1.cells (by simp) hk'
  have hbd := r1.bd _ (List.getElem_mem hk')
  have hnd := ids_of_nod r1.nod hk'
  rw [hx] at ho hc hbd
  have hr := r1.row
  simp only [List.length_set] at hr
  have hvf : x1.vf = (L[k]).vf := by rw [hx1]
  have hws : x1.ws = (L[k]).ws := by rw [hx1]
  have hof := ho.f
  rw [hvf, hws, ← he] at hof
  refine ⟨cell_arr (i := 0) r1.box rfl, by rw [← hvf]; exact hc.2.2.2.2, own_fz hr _, hof, fun q hq => ?_, (r1.lt r (.inl rfl)).2, (r1.lt g (.inr (.inl rfl))).2, r2.size, ?_⟩
  · have hm : q ∈ idsOf (L.set k x1) := List.mem_flatMap.2 ⟨x1, List.mem_iff_getElem.2 ⟨k, hk', hx⟩, mem_vf (by rw [hvf]; exact hq)⟩
    exact ⟨fun e => r1.iv hm (by rw [e]; rfl), fun e => r1.ir (by rw [← e]; exact hm)⟩
  · intro W2 w4 u2 y hW2 hG2 hu2 hi hp
    have hh := r1
    rw [e] at hh
    have hb0 := (H.bd _ (List.getElem_mem hk)).2.2
    obtain ⟨s1, s2, s3⟩ := RH.addFar (u := u2) (y := y) hh hk' hW2 (by rw [hx, hvf]; exact hG2) (by rw [hx, hws, ← he]; exact hu2) (by rw [hx, hws]; omega)
    rw [hx, ← e, List.set_set, hws, hx1] at s1 s3
    rw [← e] at s2
    refine ⟨s1, r2.trans s2 ?_, fun q hq => ?_, rfl, rfl, by simp; exact he, fun q hq => val_far L[k] { L[k] with va := u, vf := u2, ks := (L[k]).ks ++ [i], ws := (L[k]).ws ++ [y] } i y hi rfl (look_snoc _ _ he (fun l hl => hp.out l hl hl)) q hq⟩
    · intro q hq h
      rcases r3 q h with h | h
      · exact h
      · omega
    · rcases s3 q hq with h | h
      · exact r3 q (by rw [hx1]; exact h)
      · have := r2.size; exact .inr (by omega)

set_option maxHeartbeats 4000000 in
set_option maxRecDepth 100000 in
theorem rset_far (w : World) {B r tk v L c} (H : RH w B r tk v L c) (hL : Lay 0 L tk) (hB : B ≤ w.heap.size) (hc : c ≤ 1000000000) (k : Nat) (hk : k < L.length) (he : (L[k]).ks.length = (L[k]).ws.length) (i y : Int) (hi0 : 4096 ≤ i) (hi1 : i < (L[k]).n) :
    Calls Try.prog 23 #[.pointer (some ⟨r, 0, none⟩), .int .i64 (L[k]).a, .int .i64 i, .int .i64 y] w fun e w' => e = .returned (.bool true) ∧ ∃ x, Sets w w' B r tk v L c k L[k] i y x := by
  have hf := find_any w H hL hc (L[k]).a
  have c0 := cell_arr (i := 0) H.box rfl
  have hpos : 0 < L.length := by omega
  have hlen := H.len
  obtain ⟨g, cp, rfl, hc1, hc2, _, _⟩ := own_some H.row hpos
  obtain ⟨_, q1, q2, q3, q4⟩ := H.cells rfl hk
  have hbd := H.bd _ (List.getElem_mem hk)
  have hkk : Hid (∀ j, Found L (L[k]).a j → j = k) := by
    intro j hF
    rcases hF.out with ⟨k', hk', ha, rfl⟩ | ⟨hn, rfl⟩
    · rw [hL.inj hk' hk ha]
    · exact absurd rfl (hn _ (List.getElem_mem hk))
  have ho := H.own _ (List.getElem_mem hk)
  have hrl := (H.lt r (.inl rfl)).2
  have hgl := (H.lt g (.inr (.inl rfl))).2
  have hrg : ¬ r = g := fun e => H.vr (by rw [e]; rfl)
  have pf := own_fz H.row (k * 5 + 3)
  have HPK := show Hid (∀ q, (L[k]).va.ownBlock = some q → q ≠ g ∧ q ≠ r) from fun q hq => by
    have hm : q ∈ idsOf L := List.mem_flatMap.2 ⟨_, List.getElem_mem hk, mem_va hq⟩
    exact ⟨fun e => H.iv hm (by rw [e]; rfl), fun e => H.ir (by rw [← e]; exact hm)⟩
  obtain ⟨n, hn⟩ : ∃ n, n = L.length := ⟨_, rfl⟩
  rw [← hn] at c0 hc1 hlen H ⊢
  have HN := show Hid (n = L.length) from hn
  have HK := show Hid (k < L.length) from hk
  have HH := show Hid (RH w B r tk (.slice (some ⟨g, 0, none⟩) n cp) L c) from H
  have FF := show Hid _ from fun gf nf cf hv hn2 hi j hj hp hji => far_found H hk he (gf := gf) (n := nf) (cf := cf) hv hn2 i y hi j hj hp hji
  have FN := show Hid _ from fun W w2 u l hW hl hG hu => far_new1 (W := W) (w2 := w2) (u := u) (l := l) H hn hk hW i hl he hG hu
  clear H hL hn hpos
  generalize L[k] = x at *
  clear hk
  obtain ⟨ak, ck, hva, k1, k2⟩ := own_slice ho.k.out
  obtain ⟨af, cf, hvf, f1, f2⟩ := own_slice ho.f.out
  have OK := show Hid (∀ q (hq : q < x.ks.length), ∃ gk, ak = some ⟨gk, 0, none⟩ ∧ w.cell? ⟨gk, q, none⟩ = some (.int .i64 x.ks[q])) from fun q hq => by
    obtain ⟨gk, ck', e, _⟩ := own_some ho.k.out (by omega)
    rw [hva] at e
    cases e
    have hk3 := ho.k
    rw [hva] at hk3
    exact ⟨gk, rfl, hk3.cell hq⟩
  have OF := show Hid (∀ q (hq : q < x.ws.length), ∃ gk, af = some ⟨gk, 0, none⟩ ∧ w.cell? ⟨gk, q, none⟩ = some (.int .i64 x.ws[q]) ∧ w.frozen? ⟨gk, q, none⟩ = false) from fun q hq => by
    obtain ⟨gk, ck', e, _⟩ := own_some ho.f.out (by omega)
    rw [hvf] at e
    cases e
    have hk3 := ho.f
    rw [hvf] at hk3
    exact ⟨gk, rfl, hk3.cell hq, own_fz hk3.out q⟩
  have HOK := show Hid (OwnI w B x.va x.ks.length x.ks) from ho.k
  obtain ⟨kl, hkl⟩ : ∃ kl, kl = x.ks.length := ⟨_, rfl⟩
  have HKL := show Hid (kl = x.ks.length) from hkl
  have HWL := show Hid (kl = x.ws.length) from by rw [hkl]; exact he
  have hwl : x.ws.length = kl := by omega
  obtain ⟨b1, b2, b3⟩ := hbd
  rw [← hkl] at hva k1 b2 HOK
  rw [hwl] at hvf f1 b3
  rw [hva] at q3 HOK HPK
  rw [hvf] at q4
  have HVA := show Hid (x.va = .slice ak kl ck) from hva
  have HVF := show Hid (x.vf = .slice af kl cf) from hvf
  have hdi : decide (i < 4096) = false := by simp; omega
  have hkn : k < n := by have h1 := HK.out; have h2 := HN.out; omega
  have hn9 : n ≤ 1000000000 := by omega
  clear ho hkl hwl hva hvf he
  go_enter Try.func23, Try.ntmps23
  go_wp2_with fail
  refine hf.mono ?_
  rintro e u ⟨rfl, j, rfl, hF⟩
  obtain rfl := hkk.out j hF
  clear hf hF hkk
  have HB := show Hid (B ≤ u.heap.size) from hB
  go_wp2_with fail
  go_loopw [10] (fun jv wr => ∃ j : Nat, j ≤ kl ∧ jv = .int .i64 j ∧ wr = u ∧ Past x.ks i j) (fun jv _ => kl - (intOf jv).toNat)
  case atStart => exact ⟨0, by omega, rfl, rfl, ⟨fun q _ h => by omega⟩⟩
  case round =>
    obtain ⟨j, hj, rfl, rfl, HP⟩ := hrel
    by_cases hlt : j < kl
    · have hjk : j < x.ks.length := by have := HKL.out; omega
      have hjw : j < x.ws.length := by have := HWL.out; omega
      obtain ⟨gk, rfl, p1⟩ := OK.out j hjk
      obtain ⟨gf, rfl, p2, p3⟩ := OF.out j hjw
      by_cases hee : x.ks[j] = i
      · have HS := show Hid _ from FF.out gf kl cf HVF.out HWL.out (by omega) j hjk HP hee
        rw [hee] at p1
        generalize x.ws[j] = z at p2
        clear hee FF FN
        go_wp2_with fail
        go_ret
        exact ⟨rfl, _, HS.out⟩
      · have HE := show Hid (¬ x.ks[j] = i) from hee
        generalize x.ks[j] = z at p1 hee
        clear p2 p3
        go_wp2_with fail
        go_roundw
        case rel => exact ⟨j + 1, by omega, by go_num, trivial, ⟨fun q hq h1 => by
          rcases Nat.lt_succ_iff_lt_or_eq.1 h1 with h2 | rfl
          · exact HP.out q hq h2
          · exact HE.out⟩⟩
        case measure => simp [intOf]; omega
    · have hjl : j = kl := by omega
      subst hjl
      clear OK OF FF
      go_upto_region 15 with fail
      go_cut [] from 73 (fun wc => ∃ u6, Far1 wr wc B r tk g n cp L c k x i j u6)
      case first =>
        go_region_law
          (first
          | (refine step_append_intG rfl _ _ rfl B _ j x.ks i (by simp [Act.eval]) (HOK.out.keep ((Below.refl _ _).alloc (Nat.le_refl _) _).drew) wr.heap.size (by simp [Act.eval]) (by simp) (by omega) (by first | omega | (simp; done) | (simp; omega)) ?_; intro u6 w6 h6 hG6
             have d0 : w6.cell? ⟨r, 0, none⟩ = some (.slice (some ⟨g, 0, none⟩) n cp) := (World.cell?_of_block (w := wr) (by rw [hG6.blk r (by simp; omega) (fun e => (HPK.out r e).2 rfl), drew_heap, heap_alloc_old _ _ hrl])).trans c0
             have hg6 : w6.heap[g]? = wr.heap[g]? := (by rw [hG6.blk g (by simp; omega) (fun e => (HPK.out g e).1 rfl), drew_heap, heap_alloc_old _ _ hgl])
             have d2 : w6.cell? ⟨g, k * 5 + 3, none⟩ = some (.slice ak j ck) := (World.cell?_of_block (w := wr) hg6).trans q3
             have df : w6.frozen? ⟨g, k * 5 + 3, none⟩ = false := (World.frozen?_of_block (w := wr) hg6).trans pf
             obtain ⟨ka6, kc6, rfl, _, _⟩ := own_slice h6.out))
        all_goals
          go_wp2_with fail
          go_meet
          case rel => exact ⟨_, FN.out _ w6 _ j (((Below.refl _ _).alloc (Nat.le_refl _) _).drew) HKL.out (by rw [HVA.out]; exact hG6) h6⟩
      case rest =>
        obtain ⟨u6, hF1⟩ := hcut
        obtain ⟨e0, e1, e2, e3, e4, hrl7, hgl7, e7, e8⟩ := hF1
        rw [HVF.out] at e1
        have HE3 := show Hid _ from e3
        have HE4 := show Hid _ from e4
        have HE8 := show Hid _ from e8
        rw [HVF.out] at HE3 HE4
        have hB7 : B ≤ wc.heap.size := Nat.le_trans HB.out e7
        clear e3 e4 e8 FN c0 q1 q2 q3 q4 pf hrl hgl HPK
        go_wp2_with fail
        go_region_law
          (first
          | (refine step_append_intG rfl _ _ rfl B _ j x.ws y (by simp [Act.eval]) (HE3.out.keep ((Below.refl _ _).alloc (Nat.le_refl _) _).drew) wc.heap.size (by simp [Act.eval]) (by simp) (by omega) (by first | omega | (simp; done) | (simp; omega)) ?_; intro u8 w8 h8 hG8
             have d0 : w8.cell? ⟨r, 0, none⟩ = some (.slice (some ⟨g, 0, none⟩) n cp) := (World.cell?_of_block (w := wc) (by rw [hG8.blk r (by simp; omega) (fun e => (HE4.out r e).2 rfl), drew_heap, heap_alloc_old _ _ hrl7])).trans e0
             have hg8 : w8.heap[g]? = wc.heap[g]? := (by rw [hG8.blk g (by simp; omega) (fun e => (HE4.out g e).1 rfl), drew_heap, heap_alloc_old _ _ hgl7])
             have d2 : w8.cell? ⟨g, k * 5 + 4, none⟩ = some (.slice af j cf) := (World.cell?_of_block (w := wc) hg8).trans e1
             have df : w8.frozen? ⟨g, k * 5 + 4, none⟩ = false := (World.frozen?_of_block (w := wc) hg8).trans e2
             obtain ⟨ka8, kc8, rfl, _, _⟩ := own_slice h8.out))
        all_goals
          go_wp2_with fail
          go_ret
          exact ⟨rfl, _, HE8.out _ w8 _ y (((Below.refl _ _).alloc (Nat.le_refl _) _).drew) (by rw [HVF.out]; exact hG8) h8 (by omega) HP⟩
end Go.Proofs.Ytddcpbidlbiamaa
