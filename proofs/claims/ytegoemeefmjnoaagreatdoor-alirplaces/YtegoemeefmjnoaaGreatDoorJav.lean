import Derived.Test.YtegoemeefmjnoaaGreatDoorJai
import Derived.Test.YtegoemeefmjnoaaGreatDoorJau
set_option linter.unusedVariables false
set_option linter.unusedSimpArgs false
namespace Go.Proofs.YtegoemeefmjnoaaGreatDoor
open Go.ChangeShapes Go.WideShapes Go.ChangeAt Go.RowKit Go.Maps
theorem opens_stepA : OpensR 17 := OpensR.of Tryz.func17 (by kernel_rfl) rfl
theorem Mca.not_foot {FS s d w M} (h : Mca FS s d w M) {k : Nat} {A : Array Value} {f : Nat × Nat} (hk : w.heap[k]? = some (.cells A 48 f)) : ¬ footA s d k := by
 have R := h.rs.wm.rest
 obtain ⟨D, ⟨es, cl, d1, _⟩, _⟩ := R.ch.o1
 obtain ⟨E, ⟨es2, cl2, e1, _⟩, _⟩ := R.ch.o2
 have hb := h.rs.wm.box
 rw [h.rs.ty.1] at hb
 rintro ((rfl | (rfl | rfl | rfl) | q) | q | q | q)
 ·rw [hk] at hb; injection (Option.some.inj hb) with _ q; exact absurd q (by decide)
 ·have := R.ch.box; rw [hk] at this; injection (Option.some.inj this) with _ q; exact absurd q (by decide)
 ·rw [hk] at d1; cases d1
 ·rw [hk] at e1; cases e1
 ·exact own_not R.ev.out hk (by decide) q
 ·exact own_not h.rs.wai.row.out hk (by decide) q
 ·exact (h.sm.lt q).2 _ _ _ hk
 ·exact (h.rs.wai.map q).2 _ _ _ hk
theorem Mca.foot_lt {FS s d w M} (h : Mca FS s d w M) (k : Nat) (hk : footA s d k) : k < w.heap.size := by
 have R := h.rs.wm.rest
 rcases hk with (q | q | q) | q | q | q
 ·rw [q]; exact h.cells.lt
 ·exact R.ch.lt k q
 ·exact (own_block R.ev.out q).2
 ·exact (own_block h.rs.wai.row.out q).2
 ·exact (h.sm.lt q).1
 ·exact (h.rs.wai.map q).1
theorem Mca.apart {FS s d w w' M} (h : Mca FS s d w M) {F : Nat -> Prop} (ho : Only F w w') (hf : ∀ k, F k -> ¬ footA s d k /\ ¬ s.ws.st k) : Mca FS s d w' M := by
 have up : ∀ k, footA s d k -> w'.heap[k]? = w.heap[k]? := fun k hk => ho.block k (h.foot_lt k hk) fun q => (hf k q).1 hk
 have hb := (up s.ws.mb (.inl (.inl rfl))).trans h.boxQ
 have R := h.rs.wm.rest
 refine ⟨⟨h.rs.fns, h.rs.ty, h.rs.wm.around (P' := fav s M.here d.mh ++ [d.vw, fnv s]) (Q' := []) (by rw [hb]; simp) h.rs.wm.ol ho.size (fun k h1 h2 h3 => ?_), h.rs.wai.move (fun g q => up g (.inr (.inl q))) (fun g q => up g (.inr (.inr (.inr q))))⟩, h.rg, h.sm.move fun g q => up g (.inr (.inr (.inl q))), h.nd, h.hi⟩
 rcases h3 with q | q | q
 ·exact ho.block k h1 fun r => (hf k r).2 q
 ·exact up k (.inl (.inr (.inl q)))
 ·exact up k (.inl (.inr (.inr q)))
theorem runA_core {FS s d w wb M} (hb : Below w.heap.size w wb) (h1 : M.over = false -> Mca FS s d w M) (h2 : OvA s d.wd.ve w M.wv) {fuel N : Nat} (Q : Nat -> Ma) (h0 : Q 0 = M) (hQ : ∀ k, k < N -> (Q k).stp FS = some (true, Q (k + 1))) {MJ : Ma} (hN : (Q N).stp FS = some (false, MJ)) {MF : Ma} (hMF : MF = if N < fuel then MJ else Q fuel) {g1 g2 : Nat} (k1 : wb.heap[g1]? = some (.cells #[.slice none 0 0, .int .i64 0, .int .i64 0, .int .i64 0, .int .i64 0, .int .i64 0, .int .i64 0] 48 (0, 0))) (k2 : wb.heap[g2]? = some (.cells #[.slice none 0 0, .int .i64 0, .int .i64 0, .int .i64 0, .int .i64 0, .int .i64 0, .int .i64 0] 48 (0, 0))) :
 ∃ (I : Nat -> World -> Prop) (J : World -> Prop), I 0 wb /\ (∀ k W, k < N -> I k W -> Calls Tryz.prog 17 #[.pointer (some ⟨s.ws.mb, 0, none⟩)] W fun e w' => e = .returned (.bool true) /\ I (k + 1) w') /\ (∀ W, I N W -> Calls Tryz.prog 17 #[.pointer (some ⟨s.ws.mb, 0, none⟩)] W fun e w' => e = .returned (.bool false) /\ J w') /\ ∀ W, FinR N fuel I J W -> StA FS s d wb W MF /\ W.heap[g1]? = some (.cells #[.slice none 0 0, .int .i64 0, .int .i64 0, .int .i64 0, .int .i64 0, .int .i64 0, .int .i64 0] 48 (0, 0)) /\ W.heap[g2]? = some (.cells #[.slice none 0 0, .int .i64 0, .int .i64 0, .int .i64 0, .int .i64 0, .int .i64 0, .int .i64 0] 48 (0, 0)) /\ (MF.over = false -> M.over = false) := by
 cases hov : M.over with
 | false =>
   have hm := (h1 hov).below hb
   have n1 := hm.not_foot k1
   have n2 := hm.not_foot k2
   refine ⟨fun k W => StA FS s d wb W (Q k), fun W => StA FS s d wb W MJ, by show StA FS s d wb wb (Q 0); rw [h0]; exact hm.staA, fun k W hk hi => hi.step (hQ k hk), fun W hi => hi.step hN, fun W hW => ?_⟩
   have hS : StA FS s d wb W MF := by
    unfold FinR at hW
    rw [hMF]
    split at hW
    ·rename_i c; rw [if_pos c]; exact hW
    ·rename_i c; rw [if_neg c]; exact hW
   obtain ⟨d2, _, _, f⟩ := hS.out
   exact ⟨hS, (f.only.block _ (gl k1) n1).trans k1, (f.only.block _ (gl k2) n2).trans k2, fun _ => rfl⟩
 | true =>
   have hN0 : N = 0 := by
    rcases Nat.eq_zero_or_pos N with q | q
    ·exact q
    ·have z := hQ 0 q
     rw [h0] at z
     unfold Ma.stp at z
     rw [hov, if_pos rfl] at z
     cases z
   subst hN0
   have hMJ : MJ = M := by
    rw [h0] at hN
    unfold Ma.stp at hN
    rw [hov, if_pos rfl] at hN
    cases hN
    rfl
   have hS : StA FS s d wb wb M := ⟨d, fun q => (by rw [hov] at q; cases q), h2.below hb, FooA.refl _ _ _⟩
   refine ⟨fun k W => k = 0 /\ W = wb, fun W => W = wb, ⟨rfl, rfl⟩, fun k W hk => absurd hk (Nat.not_lt_zero _), fun W hi => ?_, fun W hW => ?_⟩
   ·obtain ⟨_, rfl⟩ := hi
    exact (mStep_no (h2.below hb) hov).mono fun e w' q => ⟨q.1, q.2⟩
   ·unfold FinR at hW
    have e : W = wb /\ MF = M := by
     rw [hMF]
     split at hW
     ·rename_i c; rw [if_pos c]; exact ⟨hW, hMJ⟩
     ·rename_i c; rw [if_neg c]; obtain ⟨q1, q2⟩ := hW; exact ⟨q2, by rw [q1]; exact h0⟩
    obtain ⟨rfl, rfl⟩ := e
    exact ⟨hS, k1, k2, fun q => (by rw [hov] at q; cases q)⟩
theorem mRunA_any {FS s d w0 w M} (h : StA FS s d w0 w M) {fuel N : Nat} (hf : fuel <= 1099511627776) (Q : Nat -> Ma) (h0 : Q 0 = M) (hQ : ∀ k, k < N -> (Q k).stp FS = some (true, Q (k + 1))) {MJ : Ma} (hN : (Q N).stp FS = some (false, MJ)) {MF : Ma} (hMF : MF = if N < fuel then MJ else Q fuel) :
 Calls Tryz.prog 13 #[.pointer (some ⟨s.ws.mb, 0, none⟩), .int .i64 fuel] w fun e w' => ∃ v d' B, e = .returned (.tuple #[otvA v MF.wv, .int .i64 0]) /\ (MF.over = false -> Mca FS s d' w' MF /\ ∀ k, footA s d' k -> k < B) /\ OvA s d'.wd.ve w' MF.wv /\ FooA s d d' w0 w' /\ w.heap.size <= B /\ Row w' B 52 2 v (MF.wv.ev.map evc) := by
 obtain ⟨d1, h1, h2, h3⟩ := h.out
 obtain ⟨wq, hwq⟩ : ∃ wq, wq = w.alloc (.cells #[.slice none 0 0, .int .i64 0, .int .i64 0, .int .i64 0, .int .i64 0, .int .i64 0, .int .i64 0] 48) := ⟨_, rfl⟩
 obtain ⟨wb, hwb⟩ : ∃ wb, wb = wq.alloc (.cells #[.slice none 0 0, .int .i64 0, .int .i64 0, .int .i64 0, .int .i64 0, .int .i64 0, .int .i64 0] 48) := ⟨_, rfl⟩
 have bq : Below w.heap.size w wq := by rw [hwq]; exact below_newA w _
 have bb : Below wq.heap.size wq wb := by rw [hwb]; exact below_newA wq _
 have bwb : Below w.heap.size w wb := bq.trans (bb.mono bq.size)
 have k0 : wq.heap[w.heap.size]? = some (.cells #[.slice none 0 0, .int .i64 0, .int .i64 0, .int .i64 0, .int .i64 0, .int .i64 0, .int .i64 0] 48 (0, 0)) := by rw [hwq]; exact heap_alloc_new _ _
 have k1 : wb.heap[w.heap.size]? = some (.cells #[.slice none 0 0, .int .i64 0, .int .i64 0, .int .i64 0, .int .i64 0, .int .i64 0, .int .i64 0] 48 (0, 0)) := (bb.block _ (gl k0)).trans k0
 have k2 : wb.heap[wq.heap.size]? = some (.cells #[.slice none 0 0, .int .i64 0, .int .i64 0, .int .i64 0, .int .i64 0, .int .i64 0, .int .i64 0] 48 (0, 0)) := by rw [hwb]; exact heap_alloc_new _ _
 obtain ⟨I, J, c1, c2, c3, c4⟩ := runA_core bwb h1 h2 Q h0 hQ hN hMF k1 k2
 have T := told_run wq (mb := s.ws.mb) (o := 15) (B := s.ws.hi) (fuel := fuel) (N := N) #[.pointer (some ⟨s.ws.mb, 0, none⟩)] opens_stepA hf I J (E := MF.wv.ev) (x1 := MF.wv.fin) (x2 := MF.wv.kd) (x3 := MF.wv.vl) (x4 := MF.wv.steps) (x5 := MF.wv.words) (x6 := MF.wv.deep) (by rw [<- hwb]; exact c1) c2 c3 (fun W hW => by
  obtain ⟨q1, q2, q3, _⟩ := c4 W hW
  obtain ⟨d2, _, o2, _⟩ := q1.out
  exact ⟨o2.toldAt, q3⟩)
 refine (mRunA_of w wq h2.lt hf _ hwq T fun wF hW => (c4 wF hW).2.1).mono ?_
 rintro e w' ⟨v, wF, rfl, hW, hR, hO⟩
 obtain ⟨q1, q2, q3, q4⟩ := c4 wF hW
 obtain ⟨d2, m2, o2, f2⟩ := q1.out
 obtain ⟨A, hA⟩ := o2.box
 have nb : ∀ k, k = w.heap.size \/ k = wq.heap.size -> wF.heap[k]? = some (.cells #[.slice none 0 0, .int .i64 0, .int .i64 0, .int .i64 0, .int .i64 0, .int .i64 0, .int .i64 0] 48 (0, 0)) := fun k hk => by rcases hk with rfl | rfl <;> assumption
 have a1 : ¬ (s.ws.mb = w.heap.size \/ s.ws.mb = wq.heap.size) := fun hk => by
  have := nb _ hk; rw [hA] at this; cases this
 have a2 : ∀ k, d2.wd.ve.ownBlock = some k -> ¬ (k = w.heap.size \/ k = wq.heap.size) := fun k q hk => own_not o2.ev.out (nb _ hk) (by decide) q
 have sz := bwb.size
 have sz0 := bq.size
 have sz2 := f2.only.size
 have sz3 := h3.only.size
 have g2 : FooA s d d2 w0 wF := (h3.trans (FooA.of_below bwb)).trans f2
 refine ⟨v, d2, wF.heap.size, rfl, fun ho => ⟨(m2 ho).apart hO fun k hk => ⟨(m2 ho).not_foot (nb k hk), fun q => ?_⟩, (m2 ho).foot_lt⟩, o2.apart hO a1 a2, ⟨g2.only.trans hO fun i hi hF => ?_, g2.new⟩, by omega, hR⟩
 ·have z := (h1 (q4 ho)).rs.wm.rest.hi
  have z2 := z.2.2.2 k q
  rcases hk with e | e <;> omega
 ·have : i = w.heap.size \/ i = wq.heap.size := hF
  rcases this with e | e <;> omega
structure ActN (w w' : World) (I : List Int) (hb hm hn lo : Nat) (ia : Option Addr) (ic : Nat) : Prop where
 low : Below w.heap.size w w'
 ch : CH w' hb hm hn 0 (fun _ => none) (fun _ => 0) 0
 hp : ∀ k, CF hb hm hn k -> w.heap.size <= k /\ k < lo
 rng : w.heap.size <= lo /\ lo <= w'.heap.size
 inp : ∀ W, (∀ b, lo <= b -> b < w'.heap.size -> W.heap[b]? = w'.heap[b]?) -> Ints W ia ic I
set_option maxRecDepth 100000 in
set_option maxHeartbeats 4000000 in
theorem actsNew_any (w : World) {ia : Option Addr} {il ic : Nat} {I : List Int} (hI : Ints w ia ic I) (hil : il = I.length) (hsz : il <= 1000000000) :
 Calls Tryz.prog 24 #[.slice ia il ic] w fun e w' => ∃ hb hm hn lo ia' ic', e = .returned (.agg #[.pointer (some ⟨hb, 0, none⟩), .slice none 0 0, .int .i64 0, .int .i64 0, .int .i64 0, .int .i64 0, .int .i64 0, .int .i64 0, .bool false, .slice ia' il ic']) /\ ActN w w' I hb hm hn lo ia' ic' := by
 obtain ⟨W0, hW0⟩ : ∃ W0, W0 = w.alloc (.cells #[.pointer none, .slice none 0 0, .int .i64 0, .int .i64 0, .int .i64 0, .int .i64 0, .int .i64 0, .int .i64 0, .bool false, .slice none 0 0] 73) := ⟨_, rfl⟩
 obtain ⟨rb, hrb⟩ : ∃ rb, rb = w.heap.size := ⟨_, rfl⟩
 have b0 : Below w.heap.size w W0 := by rw [hW0]; exact below_newA w _
 have hz0 : W0.heap[rb]? = some (.cells #[.pointer none, .slice none 0 0, .int .i64 0, .int .i64 0, .int .i64 0, .int .i64 0, .int .i64 0, .int .i64 0, .bool false, .slice none 0 0] 73 (0, 0)) := by rw [hW0, hrb]; exact heap_alloc_new w _
 have hl0 : rb < W0.heap.size := (gl hz0)
 have HNW : Hid _ := new_any W0
 obtain ⟨hb, hhb⟩ : ∃ b, b = W0.heap.size + 1 + 1 := ⟨_, rfl⟩
 rw [<- hhb] at HNW
 have HCL : Hid (∀ w1, Below W0.heap.size W0 w1 -> Calls Tryz.prog 39 #[.slice ia il ic] w1 fun e w' => ∃ v, e = .returned v /\ OwnI w' w1.heap.size v il I /\ Below w1.heap.size w1 w') := fun w1 b1 => cloneInts_any w1 (hI.below (b0.trans (b1.mono b0.size)) (Nat.le_refl _)) hil hsz
 have HFI : Hid (∀ w1 w2 w3 ia' ic', CH w1 hb W0.heap.size (W0.heap.size + 1) 0 (fun _ => none) (fun _ => 0) 0 -> Below W0.heap.size W0 w1 -> w1.heap.size = hb + 1 -> OwnI w2 w1.heap.size (.slice ia' il ic') il I -> Below w1.heap.size w1 w2 -> w3 = w2.setRow rb #[.pointer (some ⟨hb, 0, none⟩), .slice none 0 0, .int .i64 0, .int .i64 0, .int .i64 0, .int .i64 0, .int .i64 0, .int .i64 0, .bool false, .slice ia' il ic'] -> ActN w w3 I hb W0.heap.size (W0.heap.size + 1) w1.heap.size ia' ic') := by
  intro w1 w2 w3 ia' ic' hch b1 s1 ho b2 hw3
  have kk : ∀ b, b ≠ rb -> w3.heap[b]? = w2.heap[b]? := fun b hb => by rw [hw3]; exact heap_setRow_otherA hb
  have sz3 : w3.heap.size = w2.heap.size := by rw [hw3]; simp
  have hs0 := b0.size
  obtain ⟨ia2, ic2, ev, hst⟩ := ints_stB (B := w1.heap.size) ho (X := fun _ => False) (fun b q => q.elim) (Nat.le_refl _)
  cases ev
  refine ⟨?_, hch.move fun g hg => ?_, fun k hk => ?_, by have := b2.size; omega, fun W hW => hst W fun b q1 q2 _ => ?_⟩
  ·rw [hw3]
   exact below_setRowA ((b0.trans (b1.mono hs0)).trans (b2.mono (by omega))) (by omega) _
  ·have hgl : W0.heap.size <= g := by rcases hg with q | q | q <;> omega
   exact (kk g (by omega)).trans (b2.block g (hch.lt g hg))
  ·have := hch.lt k hk
   rcases hk with q | q | q <;> omega
  ·exact (hW b q1 (by rw [sz3]; exact q2)).trans (kk b (by omega))
 have HZ : Hid (∀ w2, Below W0.heap.size W0 w2 -> w2.heap[rb]? = some (.cells #[.pointer none, .slice none 0 0, .int .i64 0, .int .i64 0, .int .i64 0, .int .i64 0, .int .i64 0, .int .i64 0, .bool false, .slice none 0 0] 73 (0, 0))) := fun w2 b2 => (b2.block rb hl0).trans hz0
 clear hI hil hz0 hl0 hhb b0
 go_enter Tryz.func24, Tryz.ntmps24
 go_upto_region 1 with fail
 rw [<- hW0, <- hrb]
 clear hW0 hrb
 go_wp2_with (first
  | (go_at_call 39; refine Calls.mono (HCL.out w1 HB1.out) ?_; rintro e w2 ⟨v2, rfl, ho, b2⟩; obtain ⟨ia', ic', ev, -, -⟩ := own_slice ho.out; subst ev; have hz2 := HZ.out w2 (HB1.out.trans (b2.mono HB1.out.size)); have HZ2 : Hid _ := hz2; have HO2 : Hid _ := ho; have HB2 : Hid _ := b2; clear ho b2 hz2)
  | (go_at_call 40; refine Calls.mono HNW.out ?_; rintro e w1 ⟨rfl, hch, b1, s1⟩; have HCH : Hid _ := hch; have HB1 : Hid _ := b1; have HS1 : Hid _ := s1; clear hch b1 s1)
  | (refine wpList_store_row rfl _ _ _ rfl rb #[.pointer (some ⟨hb, 0, none⟩), .slice none 0 0, .int .i64 0, .int .i64 0, .int .i64 0, .int .i64 0, .int .i64 0, .int .i64 0, .bool false, .slice ia' il ic'] rfl rfl 73 _ HZ2.out (by kernel_rfl) rfl (by kernel_rfl) ?_))
 obtain ⟨w3, hw3⟩ : ∃ w3, w3 = w2.setRow rb #[.pointer (some ⟨hb, 0, none⟩), .slice none 0 0, .int .i64 0, .int .i64 0, .int .i64 0, .int .i64 0, .int .i64 0, .int .i64 0, .bool false, .slice ia' il ic'] := ⟨_, rfl⟩
 have HA := HFI.out w1 w2 w3 ia' ic' HCH.out HB1.out HS1.out HO2.out HB2.out hw3
 have hr3 : w3.heap[rb]? = some (.cells #[.pointer (some ⟨hb, 0, none⟩), .slice none 0 0, .int .i64 0, .int .i64 0, .int .i64 0, .int .i64 0, .int .i64 0, .int .i64 0, .bool false, .slice ia' il ic'] 73 (0, 0)) := by rw [hw3]; exact setRow_heap w2 rb _ _ _ _ HZ2.out
 rw [<- hw3]
 refine bodyPost_ret (v := .agg #[.pointer (some ⟨hb, 0, none⟩), .slice none 0 0, .int .i64 0, .int .i64 0, .int .i64 0, .int .i64 0, .int .i64 0, .int .i64 0, .bool false, .slice ia' il ic']) ?_ rfl ⟨_, _, _, _, _, _, rfl, HA⟩
 exact results_cell_row Tryz.results24 _ _ rb 73 _ (0, 0) _ rfl hr3 Tryz.underlying73 rfl (by kernel_rfl)
def Wv.fresh (I : List Int) : Wv := ⟨I, [], 0, 0, 0, 0, 0, 0, false, ⟨0, fun _ => none, fun _ => 0, 0⟩⟩
def Ma.start (I : List Int) (n : Nat) : Ma := ⟨Fa.new n, [], { Wv.fresh I with deep := 1 }⟩
structure NewA (FS : List Af) (w w' : World) (mb : Nat) (M : Ma) : Prop where
 out : ∃ s d, s.ws.mb = mb /\ Mca FS s d w' M /\ (∀ k, footA s d k -> w.heap.size <= k) /\ (∀ k, s.ws.st k -> w.heap.size <= k) /\ w.heap.size <= s.ws.hi
 low : Below w.heap.size w w'
def bkOf (w : World) (L i : Nat) : Addr := match w.cell? ⟨L, i * 5 + 4, none⟩ with
 | some (.slice (some a) _ _) => a
 | _ => ⟨0, 0, none⟩
theorem fns_of {FS : List Af} {ws : Wst} {L c' : Nat} (hf : ∀ W, AgrW ws W -> Afs W (some ⟨L, 0, none⟩) c' FS) (hne : ∀ f ∈ FS, f.blks ≠ []) (hfew : ∀ f ∈ FS, FewA f) : Fns FS ⟨ws, L, 0, FS.length, c', fun i => (bkOf ws.w0 L i).block, fun i => (bkOf ws.w0 L i).off⟩ := by
 refine ⟨hf, rfl, fun i hi => ⟨hne _ (List.getElem_mem hi), ?_⟩, fun i hi j hj => ?_⟩
 ·obtain ⟨b, o, a1, c1, a2, c2, ea, hst, hc, h1, h2⟩ := fun_st hf hi
  cases ea
  obtain ⟨b2, o2, cs, e2, _⟩ := (h2 ws.w0 agr_selfW).at (j := 0) (List.length_pos_iff.2 (hne _ (List.getElem_mem hi)))
  subst e2
  have hq : ∀ W, AgrW ws W -> W.cell? ⟨L, 0 + i * 5 + 4, none⟩ = some (.slice (some ⟨b2, o2, none⟩) FS[i].blks.length c2) := fun W hW => (hc W hW).2 4 _ rfl
  have h0 := hq ws.w0 agr_selfW
  have e : bkOf ws.w0 L i = ⟨b2, o2, none⟩ := by
   unfold bkOf
   rw [Nat.zero_add] at h0
   rw [h0]
  simp only
  rw [e]
  exact ⟨c2, hq⟩
 ·have := (hfew _ (List.getElem_mem hi)).w _ (List.getElem_mem hj)
  omega
theorem newA_rest {w w1 wC wN wM : World} {FS : List Af} {I : List Int} {L c' il hb hm hn lo ic' : Nat} {ia' : Option Addr} (b1 : Below w.heap.size w w1) (hC : Below w1.heap.size w1 wC) (hL : w1.heap.size <= L) (hA : ∀ W, (∀ b, w1.heap.size <= b -> b < wC.heap.size -> W.heap[b]? = wC.heap[b]?) -> Afs W (some ⟨L, 0, none⟩) c' FS) (hN : ActN wC wN I hb hm hn lo ia' ic') (hil : il = I.length) {fn : Nat} (hfn : fn = FS.length) (hM : wM = wN.alloc (.cells #[.pointer none, .pointer none, .int .i64 0, .int .i64 0, .int .i64 0, .int .i64 0, .int .i64 0, .int .i64 0, .int .i64 0, .int .i64 0, .int .i64 0, .map none, .slice none 0 0, .slice (some ⟨L, 0, none⟩) fn c', .pointer (some ⟨hb, 0, none⟩), .slice none 0 0, .int .i64 0, .int .i64 0, .int .i64 0, .int .i64 0, .int .i64 0, .int .i64 0, .bool false, .slice ia' il ic'] 83)) (hne : ∀ f ∈ FS, f.blks ≠ []) (hfew : ∀ f ∈ FS, FewA f) :
 ∃ s : Ast, s.ws.mb = wN.heap.size /\ s.fb = L /\ s.fo = 0 /\ s.fn = fn /\ s.fc = c' /\ Mrs FS s [.pointer none, .pointer none, .int .i64 0, .int .i64 0, .int .i64 0, .int .i64 0, .int .i64 0, .int .i64 0, .int .i64 0, .int .i64 0, .int .i64 0, .map none] ⟨ia', ic', .slice none 0 0⟩ (.slice none 0 0) [] wM [] (Wv.fresh I) /\ (∀ k, footW s.ws ⟨ia', ic', .slice none 0 0⟩ k -> w.heap.size <= k) /\ (∀ k, s.ws.st k -> w.heap.size <= k) /\ w.heap.size <= s.ws.hi := by
 obtain ⟨ws, hws⟩ : ∃ ws : Wst, ws = ⟨wN.heap.size, 14, 83, hb, hm, hn, wM.heap.size, fun k => (w1.heap.size <= k /\ k < wC.heap.size) \/ (lo <= k /\ k < wN.heap.size), wM⟩ := ⟨_, rfl⟩
 have hs1 := b1.size
 have hsC := hC.size
 have hsN := hN.low.size
 have hlo := hN.rng
 have hbM : Below wN.heap.size wN wM := by rw [hM]; exact below_newA wN _
 have hbox : wM.heap[wN.heap.size]? = some (.cells #[.pointer none, .pointer none, .int .i64 0, .int .i64 0, .int .i64 0, .int .i64 0, .int .i64 0, .int .i64 0, .int .i64 0, .int .i64 0, .int .i64 0, .map none, .slice none 0 0, .slice (some ⟨L, 0, none⟩) fn c', .pointer (some ⟨hb, 0, none⟩), .slice none 0 0, .int .i64 0, .int .i64 0, .int .i64 0, .int .i64 0, .int .i64 0, .int .i64 0, .bool false, .slice ia' il ic'] 83 (0, 0)) := by rw [hM]; exact heap_alloc_new wN _
 have hmb : wN.heap.size < wM.heap.size := (gl hbox)
 have hfus : ∀ W, AgrW ws W -> Afs W (some ⟨L, 0, none⟩) c' FS := fun W hW => hA W fun b q1 q2 => by
  have := hW b (by rw [hws]; exact .inl ⟨q1, q2⟩)
  rw [hws] at this
  exact this.trans ((hbM.block b (by omega)).trans (hN.low.block b q2))
 have hF := fns_of hfus hne hfew
 have hinp : ∀ W, AgrW ws W -> Ints W ia' ic' I := fun W hW => hN.inp W fun b q1 q2 => by
  have := hW b (by rw [hws]; exact .inr ⟨q1, q2⟩)
  rw [hws] at this
  exact this.trans (hbM.block b q2)
 have hch : CH wM hb hm hn 0 (fun _ => none) (fun _ => 0) 0 := hN.ch.move fun g hg => hbM.block g (hN.ch.lt g hg)
 refine ⟨⟨ws, L, 0, FS.length, c', fun i => (bkOf ws.w0 L i).block, fun i => (bkOf ws.w0 L i).off⟩, by rw [hws], rfl, rfl, hfn.symm, rfl, ⟨hF, by rw [hws]; exact ⟨rfl, rfl⟩, ⟨?_, by rw [hws]; rfl, ?_⟩, ⟨Row.nil _ _ _ _, rfl, fun F hF => by simp at hF, fun i hi => absurd hi (by simp), fun i j g h1 => by simp at h1, fun g hg => by simp at hg⟩⟩, ?_, ?_, ?_⟩
 ·rw [hws]
  simp only
  rw [hbox, hfn, hil]
  rfl
 ·refine ⟨?_, hinp, by rw [hws]; exact hch, Row.nil _ _ _ _, by simp [Wv.fresh], ?_, fun k hk => ?_, by rw [hws]; exact ⟨by show (83 : Nat) ≠ 52; decide, by show (83 : Nat) ≠ 113; decide⟩, ⟨_, by rw [hws]; exact hbox⟩⟩
  ·rw [hws]; exact fun k _ => rfl
  ·rw [hws]
   refine ⟨Nat.le_refl _, hmb, fun k hk => ?_, fun k hk => ?_⟩
   ·have := hN.hp k hk; simp only at *; omega
   ·simp only at hk ⊢; omega
  ·rw [hws] at hk ⊢
   simp only at hk ⊢
   refine ⟨by omega, fun q => ?_⟩
   have := hN.hp k q
   omega
 ·intro k hk
  rw [hws] at hk
  rcases hk with q | q | q
  ·simp only at q; omega
  ·have := hN.hp k q; omega
  ·cases q
 ·intro k hk
  rw [hws] at hk
  simp only at hk
  omega
 ·rw [hws]; simp only; omega
set_option maxRecDepth 100000 in
set_option maxHeartbeats 8000000 in
theorem mNewA_yes (w : World) {fa : Option Addr} {fn fc n : Nat} {FS : List Af} (hF : Afs w fa fc FS) (hfn : fn = FS.length) (hlen : fn <= 10000000) (hne : ∀ f ∈ FS, f.blks ≠ []) (hfew : ∀ f ∈ FS, FewA f) (hn : n < fn) {ia : Option Addr} {il ic : Nat} {I : List Int} (hI : Ints w ia ic I) (hil : il = I.length) (hin : il <= 1048576) (hCk : ∀ W, Below w.heap.size w W -> Calls Tryz.prog 22 #[.agg #[.slice fa fn fc, .int .i64 (n : Int)]] W fun e w' => e = .returned (.int .i64 0) /\ Below W.heap.size W w') :
 Calls Tryz.prog 11 #[.agg #[.slice fa fn fc, .int .i64 (n : Int)], .slice ia il ic] w fun e w' => ∃ mb, e = .returned (.tuple #[.pointer (some ⟨mb, 0, none⟩), .int .i64 0]) /\ NewA FS w w' mb (Ma.start I n) := by
 obtain ⟨W0, hW0⟩ : ∃ W0, W0 = w.alloc (.cells #[.slice fa fn fc, .int .i64 (n : Int)] 44) := ⟨_, rfl⟩
 obtain ⟨ab, hab⟩ : ∃ ab, ab = w.heap.size := ⟨_, rfl⟩
 have b0 : Below w.heap.size w W0 := by rw [hW0]; exact below_newA w _
 have hx0 : W0.heap[ab]? = some (.cells #[.slice fa fn fc, .int .i64 (n : Int)] 44 (0, 0)) := by rw [hW0, hab]; exact heap_alloc_new w _
 have a0 : W0.cell? ⟨ab, 0, none⟩ = some (.slice fa fn fc) := cell_arr hx0 rfl
 have a1 : W0.cell? ⟨ab, 1, none⟩ = some (.int .i64 (n : Int)) := cell_arr hx0 rfl
 have la : ab < W0.heap.size := (gl hx0)
 have HCK : Hid _ := hCk W0 b0
 have hpos : FS ≠ [] := by intro q; rw [q] at hfn; simp at hfn; omega
 have hs0 := b0.size
 have HCO : Hid (∀ w1, Below W0.heap.size W0 w1 -> (w1.cell? ⟨ab, 0, none⟩ = some (.slice fa fn fc) /\ ab < w1.heap.size) /\ Calls Tryz.prog 23 #[.slice fa fn fc] w1 fun e w' => ∃ L c', e = .returned (.slice (some ⟨L, 0, none⟩) fn c') /\ Below w1.heap.size w1 w' /\ w1.heap.size <= L /\ ∀ W, (∀ b, w1.heap.size <= b -> b < w'.heap.size -> W.heap[b]? = w'.heap[b]?) -> Afs W (some ⟨L, 0, none⟩) c' FS) := fun w1 b1 => by
  refine ⟨⟨(b1.cell (p := ⟨ab, 0, none⟩) la).trans a0, by have := b1.size; omega⟩, copiedA_any w1 (hF.below (b0.trans (b1.mono hs0)) (Nat.le_refl _)) hfn hpos hlen hfew⟩
 have HAN : Hid (∀ wC, Below w.heap.size w wC -> Calls Tryz.prog 24 #[.slice ia il ic] wC fun e w' => ∃ hb hm hn lo ia' ic', e = .returned (.agg #[.pointer (some ⟨hb, 0, none⟩), .slice none 0 0, .int .i64 0, .int .i64 0, .int .i64 0, .int .i64 0, .int .i64 0, .int .i64 0, .bool false, .slice ia' il ic']) /\ ActN wC w' I hb hm hn lo ia' ic') := fun wC bC => actsNew_any wC (hI.below bC (Nat.le_refl _)) hil (by omega)
 have HB0 : Hid (Below w.heap.size w W0) := b0
 have HRE : Hid (∀ w1 wC wN wM L c' hb hm hn lo ia' ic', Below W0.heap.size W0 w1 -> Below w1.heap.size w1 wC -> w1.heap.size <= L -> (∀ W, (∀ b, w1.heap.size <= b -> b < wC.heap.size -> W.heap[b]? = wC.heap[b]?) -> Afs W (some ⟨L, 0, none⟩) c' FS) -> ActN wC wN I hb hm hn lo ia' ic' -> wM = wN.alloc (.cells #[.pointer none, .pointer none, .int .i64 0, .int .i64 0, .int .i64 0, .int .i64 0, .int .i64 0, .int .i64 0, .int .i64 0, .int .i64 0, .int .i64 0, .map none, .slice none 0 0, .slice (some ⟨L, 0, none⟩) fn c', .pointer (some ⟨hb, 0, none⟩), .slice none 0 0, .int .i64 0, .int .i64 0, .int .i64 0, .int .i64 0, .int .i64 0, .int .i64 0, .bool false, .slice ia' il ic'] 83) -> (w.heap.size <= wN.heap.size /\ wM.cell? ⟨ab, 1, none⟩ = some (.int .i64 (n : Int)) /\ ab < wM.heap.size /\ Below w.heap.size w wM) /\ ∃ s : Ast, s.ws.mb = wN.heap.size /\ s.fb = L /\ s.fo = 0 /\ s.fn = fn /\ s.fc = c' /\ Mrs FS s [.pointer none, .pointer none, .int .i64 0, .int .i64 0, .int .i64 0, .int .i64 0, .int .i64 0, .int .i64 0, .int .i64 0, .int .i64 0, .int .i64 0, .map none] ⟨ia', ic', .slice none 0 0⟩ (.slice none 0 0) [] wM [] (Wv.fresh I) /\ (∀ k, footW s.ws ⟨ia', ic', .slice none 0 0⟩ k -> w.heap.size <= k) /\ (∀ k, s.ws.st k -> w.heap.size <= k) /\ w.heap.size <= s.ws.hi) := by
  intro w1 wC wN wM L c' hb hm hn lo ia' ic' b1 bC hL hA hN hM
  have hbM : Below wN.heap.size wN wM := by rw [hM]; exact below_newA wN _
  have b9 : Below W0.heap.size W0 wM := b1.trans (((bC.trans (hN.low.mono bC.size)).mono b1.size).trans (hbM.mono (by have := b1.size; have := bC.size; have := hN.low.size; omega)))
  refine ⟨⟨by have := b1.size; have := bC.size; have := hN.low.size; omega, (b9.cell (p := ⟨ab, 1, none⟩) la).trans a1, by have := b9.size; omega, b0.trans (b9.mono hs0)⟩, newA_rest (b0.trans (b1.mono hs0)) bC hL hA hN hil hfn hM hne hfew⟩
 have hge : decide (1048576 < (il : Int)) = false := by simp; omega
 have hnI : (n : Int) < (fn : Int) := by omega
 clear hF hfn hne hfew hI hil hCk hx0 b0 hpos hs0
 go_enter Tryz.func11, Tryz.ntmps11
 go_upto_region 1 with fail
 rw [<- hW0, <- hab]
 clear hW0 hab
 go_upto_region 6 with (go_at_call 22; refine Calls.mono HCK.out ?_; rintro e w1 ⟨rfl, b1⟩; have HB1 : Hid _ := b1; clear b1)
 obtain ⟨⟨y0, l1⟩, hco⟩ := HCO.out w1 HB1.out
 have HC2 : Hid _ := hco
 clear hco HCO HCK a0
 go_upto_region 7 with (first
  | (go_at_call 24; refine Calls.mono (HAN.out wC HBWC.out) ?_; rintro e wN ⟨hb, hm, hn2, lo, ia', ic', rfl, hN⟩; have HN : Hid _ := hN; clear hN)
  | (go_at_call 23; refine Calls.mono HC2.out ?_; rintro e wC ⟨L, c', rfl, bC, hL, hA⟩; have HBC : Hid _ := bC; have HA : Hid _ := hA; have HL : Hid _ := hL; have HBWC : Hid (Below w.heap.size w wC) := HB0.out.trans ((HB1.out.trans (bC.mono HB1.out.size)).mono HB0.out.size); clear bC hA hL))
 obtain ⟨wM, hwM⟩ : ∃ wM, wM = wN.alloc (.cells #[.pointer none, .pointer none, .int .i64 0, .int .i64 0, .int .i64 0, .int .i64 0, .int .i64 0, .int .i64 0, .int .i64 0, .int .i64 0, .int .i64 0, .map none, .slice none 0 0, .slice (some ⟨L, 0, none⟩) fn c', .pointer (some ⟨hb, 0, none⟩), .slice none 0 0, .int .i64 0, .int .i64 0, .int .i64 0, .int .i64 0, .int .i64 0, .int .i64 0, .bool false, .slice ia' il ic'] 83) := ⟨_, rfl⟩
 obtain ⟨mb, hmb⟩ : ∃ mb, mb = wN.heap.size := ⟨_, rfl⟩
 obtain ⟨⟨g1, g2, g3, g4⟩, s, e1, e2, e3, e4, e5, hMr, hfo, hst, hhi⟩ := HRE.out w1 wC wN wM L c' hb hm hn2 lo ia' ic' HB1.out HBC.out HL.out HA.out HN.out hwM
 rw [<- hwM, <- hmb]
 have hkl : n < FS.length := by rw [<- hMr.fns.fn, e4]; exact hn
 have bd : Below wM.heap.size wM wM.drew := (Below.refl _ _).drew
 obtain ⟨bbn, hbbn⟩ : ∃ b, b = s.bb n := ⟨_, rfl⟩
 obtain ⟨bon, hbon⟩ : ∃ b, b = s.bo n := ⟨_, rfl⟩
 have efn : fav s (Fa.new n) none = ([.pointer (some ⟨L, n * 5, none⟩), .pointer (some ⟨bbn, bon, none⟩), .int .i64 0, .int .i64 (-1), .int .i64 (-1), .int .i64 (-1), .int .i64 (-1), .int .i64 (-1), .int .i64 (-1), .int .i64 (-1), .int .i64 (-1), .map none] : List Value) := by rw [frame_new, e2, e3, hbbn, hbon, Nat.zero_add]
 have hMb : ∀ W, Below wM.heap.size wM W -> Mrs FS s [.pointer none, .pointer none, .int .i64 0, .int .i64 0, .int .i64 0, .int .i64 0, .int .i64 0, .int .i64 0, .int .i64 0, .int .i64 0, .int .i64 0, .map none] ⟨ia', ic', .slice none 0 0⟩ (.slice none 0 0) [] W [] (Wv.fresh I) := fun W hW => by
  refine hMr.move ?_ rfl hW.size (fun k hk _ _ => hW.block k hk)
  have hbx := hMr.wm.box
  have := (hW.block _ hMr.wm.cells.lt).trans hbx
  simpa using this
 have HFO : Hid (Calls Tryz.prog 26 #[.pointer (some ⟨L, n * 5, none⟩)] wM.drew fun e w' => e = .returned (.agg #[.pointer (some ⟨L, n * 5, none⟩), .pointer (some ⟨bbn, bon, none⟩), .int .i64 0, .int .i64 (-1), .int .i64 (-1), .int .i64 (-1), .int .i64 (-1), .int .i64 (-1), .int .i64 (-1), .int .i64 (-1), .int .i64 (-1), .map none]) /\ Below wM.drew.heap.size wM.drew w') := by
  have := frameOf_any (hMb wM.drew bd).fns (hMb wM.drew bd).wm.rest.agr hkl
  rw [efn, e2, e3, Nat.zero_add] at this
  exact this
 have HBG : Hid (∀ w8, Below wM.drew.heap.size wM.drew w8 -> Calls Tryz.prog 25 #[.pointer (some ⟨mb, 0, none⟩), .agg #[.pointer (some ⟨L, n * 5, none⟩), .pointer (some ⟨bbn, bon, none⟩), .int .i64 0, .int .i64 (-1), .int .i64 (-1), .int .i64 (-1), .int .i64 (-1), .int .i64 (-1), .int .i64 (-1), .int .i64 (-1), .int .i64 (-1), .map none]] w8 fun e w' => e = .returned (.tuple #[]) /\ NewA FS w w' mb (Ma.start I n)) := fun w8 b8 => by
  have hM8 := hMb w8 (bd.trans b8)
  have := mBegin_gen hM8 rfl (Fa.new n) none (by simp [Fa.new]) (SlM.start _ _) (fun g hg => (by cases hg)) (fun g hg => (by cases hg)) (by simp)
  rw [efn, e1, <- hmb] at this
  refine this.mono ?_
  rintro e w9 ⟨rfl, q1, q2⟩
  have hdeep : (max (Wv.fresh I).deep (((([] : List Fa).length : Nat) : Int) + 1)) = 1 := rfl
  rw [hdeep] at q1
  have bw9 : Below w.heap.size w w9 := (g4.trans ((bd.trans b8).mono g4.size)).trans (q2.below (by have := g4.size; have := b8.size; have e9 : wM.drew.heap.size = wM.heap.size := rfl; omega) (fun k hk => by have h9 : k = mb := hk; omega))
  refine ⟨rfl, ⟨s, _, by rw [e1, hmb], q1, fun k hk => ?_, hst, hhi⟩, bw9⟩
  rcases hk with q | q | q | q
  ·exact hfo k q
  ·cases q
  ·cases q
  ·simp at q
 have Sz : (fun w' : World => w'.cell? ⟨mb, 13, none⟩ = some (.slice (some ⟨L, 0, none⟩) fn c') /\ w'.cell? ⟨ab, 1, none⟩ = some (.int .i64 (n : Int)) /\ mb < w'.heap.size /\ ab < w'.heap.size) wM.drew := by
  have hbx := hMr.wm.box
  rw [e1, <- hmb] at hbx
  have ht : wM.cell? ⟨mb, 13, none⟩ = some (fnv s) := cell_arr hbx rfl
  unfold fnv at ht
  rw [e2, e3, e4, e5] at ht
  exact ⟨ht, g2, by have := hMr.wm.cells.lt; rw [e1, <- hmb] at this; exact this, g3⟩
 have hnk : n < fn := hn
 have hcl := (hMr.fns.fus wM hMr.wm.rest.agr).le
 have hfc9 : fn <= 9223372036854775807 := by omega
 clear hMr hfo hst hhi hMb efn e1 e2 e3 e4 e5 hwM hmb g1 g2 g3 g4 HRE HAN HA HL HBC HN HC2 hkl bd hbbn hbon HBWC hcl
 refine lec_start (S := fun w' : World => w'.cell? ⟨mb, 13, none⟩ = some (.slice (some ⟨L, 0, none⟩) fn c') /\ w'.cell? ⟨ab, 1, none⟩ = some (.int .i64 (n : Int)) /\ mb < w'.heap.size /\ ab < w'.heap.size) (z := 8) (by kernel_rfl) ?_
 show lec _ _ _ _ _ 10 _ _ _
 try simp only [List.size_toArray, List.length_cons, List.length_nil, Array.replicate]
 refine lec_takeP (i := 0) (v := ?v0z) rfl (by kernel_rfl) (by kernel_rfl) (by kernel_rfl) (by kernel_rfl) (fun _ _ _ h => h) (.inl ⟨by rfl, ?hy0z⟩) Sz ?rest0z
 case hy0z =>
  rintro w' _
  go_simp
  all_goals with_reducible rfl
 try simp only [Act.put, List.getElem_toArray, List.getElem_cons_succ, List.getElem_cons_zero, List.setIfInBounds_toArray, List.set_cons_zero, List.set_cons_succ]
 refine lec_takeP (i := 1) (v := ?v1z) rfl (by kernel_rfl) (by kernel_rfl) (by kernel_rfl) (by kernel_rfl) (fun _ _ _ h => h) (.inl ⟨by rfl, ?hy1z⟩) Sz ?rest1z
 case hy1z =>
  rintro w' _
  go_simp
  all_goals with_reducible rfl
 try simp only [Act.put, List.getElem_toArray, List.getElem_cons_succ, List.getElem_cons_zero, List.setIfInBounds_toArray, List.set_cons_zero, List.set_cons_succ]
 refine lec_takeP (i := 2) (v := ?v2z) rfl (by kernel_rfl) (by kernel_rfl) (by kernel_rfl) (by kernel_rfl) (fun _ _ _ h => h) (.inl ⟨by rfl, ?hy2z⟩) Sz ?rest2z
 case hy2z =>
  rintro w' _
  go_simp
  all_goals with_reducible rfl
 try simp only [Act.put, List.getElem_toArray, List.getElem_cons_succ, List.getElem_cons_zero, List.setIfInBounds_toArray, List.set_cons_zero, List.set_cons_succ]
 refine lec_takeP (i := 3) (v := ?v3z) rfl (by kernel_rfl) (by kernel_rfl) (by kernel_rfl) (by kernel_rfl) (fun _ _ _ h => h) (.inl ⟨by rfl, ?hy3z⟩) Sz ?rest3z
 case hy3z =>
  rintro w' _
  go_simp
  all_goals with_reducible rfl
 try simp only [Act.put, List.getElem_toArray, List.getElem_cons_succ, List.getElem_cons_zero, List.setIfInBounds_toArray, List.set_cons_zero, List.set_cons_succ]
 refine lec_takeT [7, 8, 9] (i := 4) (v := ?v4z) rfl (by kernel_rfl) (by kernel_rfl) (by kernel_rfl) (by kernel_rfl) (fun _ _ _ h => h) (.inl ⟨by rfl, ?hy4z⟩) Sz ?rest4z
 case hy4z =>
  rintro w' ⟨h1, h2, h3, h4⟩
  go_simp
  all_goals with_reducible rfl
 try simp only [Act.put, List.getElem_toArray, List.getElem_cons_succ, List.getElem_cons_zero, List.setIfInBounds_toArray, List.set_cons_zero, List.set_cons_succ]
 refine lec_takeP (i := 5) (v := ?v5z) rfl (by kernel_rfl) (by kernel_rfl) (by kernel_rfl) (by kernel_rfl) (fun _ _ _ h => h) (.inl ⟨by rfl, ?hy5z⟩) Sz ?rest5z
 case hy5z =>
  rintro w' _
  go_simp
  all_goals with_reducible rfl
 try simp only [Act.put, List.getElem_toArray, List.getElem_cons_succ, List.getElem_cons_zero, List.setIfInBounds_toArray, List.set_cons_zero, List.set_cons_succ]
 refine lec_takeT [7, 8, 9] (i := 6) (v := ?v6z) rfl (by kernel_rfl) (by kernel_rfl) (by kernel_rfl) (by kernel_rfl) (fun _ _ _ h => h) (.inl ⟨by rfl, ?hy6z⟩) Sz ?rest6z
 case hy6z =>
  rintro w' ⟨h1, h2, h3, h4⟩
  go_simp
  all_goals with_reducible rfl
 try simp only [Act.put, List.getElem_toArray, List.getElem_cons_succ, List.getElem_cons_zero, List.setIfInBounds_toArray, List.set_cons_zero, List.set_cons_succ]
 refine lec_takeP (i := 7) (v := ?v7z) rfl (by kernel_rfl) (by kernel_rfl) (by kernel_rfl) (by kernel_rfl) (fun _ _ _ h => h) (.inl ⟨by rfl, ?hy7z⟩) Sz ?rest7z
 case hy7z =>
  rintro w' _
  go_simp
  all_goals with_reducible rfl
 try simp only [Act.put, List.getElem_toArray, List.getElem_cons_succ, List.getElem_cons_zero, List.setIfInBounds_toArray, List.set_cons_zero, List.set_cons_succ]
 refine lec_one (i := 8) rfl (by kernel_rfl) ?_
 intro K8 hK8
 rw [if_pos (by rfl)]
 go_simp
 refine Calls.mono HFO.out ?_
 rintro e w8 ⟨rfl, b8⟩
 have HB8 : Hid _ := HBG.out w8 b8
 clear b8
 go_simp
 refine hK8 _ _ (fun h => by cases h) ?_
 clear hK8
 try simp only [Act.put, List.getElem_toArray, List.getElem_cons_succ, List.getElem_cons_zero, List.setIfInBounds_toArray, List.set_cons_zero, List.set_cons_succ]
 refine lec_one (i := 9) rfl (by kernel_rfl) ?_
 intro K9 hK9
 rw [if_pos (by rfl)]
 go_simp
 refine Calls.mono HB8.out ?_
 rintro e w9 ⟨rfl, h9⟩
 have H9 : Hid _ := h9
 clear h9
 go_simp
 refine hK9 _ _ (fun h => by cases h) ?_
 clear hK9
 try simp only [Act.put, List.getElem_toArray, List.getElem_cons_succ, List.getElem_cons_zero, List.setIfInBounds_toArray, List.set_cons_zero, List.set_cons_succ]
 refine lec_done (by kernel_rfl) ?_
 clear Sz HFO HBG HB8
 go_wp2_with fail
 go_ret2
 exact ⟨mb, rfl, H9.out⟩
end Go.Proofs.YtegoemeefmjnoaaGreatDoor
