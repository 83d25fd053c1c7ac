import Derived.Test.YtfbkopjncmkbiabGreatDoorKbd
set_option linter.unusedVariables false
set_option linter.unusedSimpArgs false
namespace Go.Proofs.YtfbkopjncmkbiabGreatDoor
open Go.ChangeShapes Go.WideShapes Go.ChangeAt Go.RowKit Go.Maps
structure EnS (mb fb q : Nat) (pa : Option Addr) (pl pc vb vo nv vc p xb xo xl xc at_ : Nat) (a : Nat) (w : World) : Prop where
 h1 : w.cell? ⟨mb, 34, none⟩ = some (.pointer (some ⟨fb, q, none⟩))
 h2 : w.cell? ⟨mb, 40, none⟩ = some (.slice pa pl pc)
 h3 : w.cell? ⟨fb, q + 3, none⟩ = some (.slice (some ⟨vb, vo, none⟩) nv vc)
 h4 : w.cell? ⟨vb, vo + p * 4 + 3, none⟩ = some (.slice (some ⟨xb, xo, none⟩) xl xc)
 h5 : w.cell? ⟨xb, xo + at_, none⟩ = some (.int .i64 (a : Int))
theorem OwnI.zero {w : World} {B n c : Nat} {ao : Option Addr} {L : List Int} (h : OwnI w B (.slice ao n c) n L) : OwnI w B (.slice ao 0 c) 0 [] := by
 rcases h.out.2 with ⟨e, rfl⟩ | ⟨g, cap, cur, e, e2, e3, e4, e5, e6, e7⟩
 ·cases e; exact OwnI.nil _ _
 ·cases e
  exact ⟨rfl, ⟨by simp [ivs], .inr ⟨g, c, cur, rfl, e2, e3, by omega, e5, e6, by simp [ivs]⟩⟩⟩
structure EntS (FS : List Fu) (s : Mst) (d0 : Mdy) (w0 w : World) (M : Ms) (t : Nat) (P : List Int) : Prop where
 out : ∃ d, Mach FS s d w { M with here := { M.here with bk := t, bh := 0 }, phis := P } /\ Foo s d0 d w0 w
theorem EntS.next {FS s d0 w0 w M t P} (h : EntS FS s d0 w0 w M t P) {f : Fu} (hf : FS[M.here.fi]? = some f) {p : Nat} {v : Vl} (hv : f.vals[p]? = some v) {at_ a : Nat} (ha : v.args[at_]? = some (a : Int)) {x : Int} (hx : M.nums[M.here.fst + a]? = some x) (hl : M.nums.length <= 1000000000000) (hpl : P.length <= 1000000000) :
 ∃ pa pc vb vo vc xb xo xc, EnS s.mb s.fb (s.fo + M.here.fi * 5) pa P.length pc vb vo f.vals.length vc p xb xo v.args.length xc at_ a w.drew /\ s.mb < w.heap.size /\ f.vals.length <= 9223372036854775807 /\ v.args.length <= 9223372036854775807 /\ Hid (Calls Tryz.prog 73 #[.pointer (some ⟨s.mb, 0, none⟩), .int .i64 (a : Int)] w.drew fun e w' => e = .returned (.int .i64 x) /\ Below w.heap.size w w')
   /\ Hid (∀ w2, Below w.heap.size w w2 -> EnS s.mb s.fb (s.fo + M.here.fi * 5) pa P.length pc vb vo f.vals.length vc p xb xo v.args.length xc at_ a w2 /\ EnS s.mb s.fb (s.fo + M.here.fi * 5) pa P.length pc vb vo f.vals.length vc p xb xo v.args.length xc at_ a (w2.alloc (.cells #[.int .i64 x] 3)) /\ OwnI (w2.alloc (.cells #[.int .i64 x] 3)) s.hi (.slice pa P.length pc) P.length P /\ s.hi <= (w2.alloc (.cells #[.int .i64 x] 3)).heap.size
     /\ ∀ v6 w6, OwnI w6 s.hi v6 (P.length + 1) (P ++ [x]) -> GI s.hi (w2.alloc (.cells #[.int .i64 x] 3)) w6 (.slice pa P.length pc) v6 -> EnS s.mb s.fb (s.fo + M.here.fi * 5) pa P.length pc vb vo f.vals.length vc p xb xo v.args.length xc at_ a w6 /\ w6.frozen? ⟨s.mb, 40, none⟩ = false /\ s.mb < w6.heap.size /\ EntS FS s d0 w0 (w6.setCell ⟨s.mb, 40, none⟩ v6) M t (P ++ [x])) := by
 obtain ⟨d, hM, hF⟩ := h.out
 have hn : M.here.fi < FS.length := (List.getElem?_eq_some_iff.1 hf).1
 have hfe : FS[M.here.fi] = f := (List.getElem?_eq_some_iff.1 hf).2
 have hi : p < f.vals.length := (List.getElem?_eq_some_iff.1 hv).1
 have hve : f.vals[p] = v := (List.getElem?_eq_some_iff.1 hv).2
 have hia : at_ < v.args.length := (List.getElem?_eq_some_iff.1 ha).1
 have hae : v.args[at_] = (a : Int) := (List.getElem?_eq_some_iff.1 ha).2
 obtain ⟨_, _, la, lc, _, _, hst, _, hvs, _⟩ := st_fu hM.rest.agr hM.rest.fus hn
 rw [hfe] at hst hvs
 obtain ⟨vb, vo, ka, kc, rfl, hvc, hvi⟩ := st_vl hM.rest.agr hvs hi
 rw [hve] at hvc hvi
 obtain ⟨xb, xo, rfl, hac⟩ := st_int hM.rest.agr hvi hia
 rw [hae] at hac
 obtain ⟨pa, pc, ep, _, _⟩ := own_slice hM.rest.phis.out
 have ep2 : d.vp = .slice pa P.length pc := ep
 have mk : ∀ W, Mach FS s d W { M with here := { M.here with bk := t, bh := 0 }, phis := P } -> EnS s.mb s.fb (s.fo + M.here.fi * 5) pa P.length pc vb vo f.vals.length lc p xb xo v.args.length kc at_ a W := fun W q =>
  ⟨q.cells.c34, by rw [<- ep2]; exact q.cells.c40, (hst W q.rest.agr).2.1, (hvc W q.rest.agr).2.2.2, hac W q.rest.agr⟩
 have bd : Below w.heap.size w w.drew := (Below.refl _ _).drew
 refine ⟨pa, pc, vb, vo, lc, xb, xo, kc, mk _ (hM.below bd), hM.cells.lt, ?_, ?_, ?_, ?_⟩
 ·have := (hvs w hM.rest.agr).le; have := (hvs w hM.rest.agr).mx; omega
 ·have := (hvi w hM.rest.agr).le; have := (hvi w hM.rest.agr).mx; omega
 ·exact (mNumber_any (hM.below bd) a x hx hl).mono fun e w' q => ⟨q.1, bd.trans (q.2.mono bd.size)⟩
 ·intro w2 b2
  have h2 := hM.below b2
  have b3 := below_new w2 (.cells #[.int .i64 x] 3)
  have h3 := h2.below b3
  refine ⟨mk _ h2, mk _ h3, ?_, h3.rest.hi.2, ?_⟩
  ·have := h3.rest.phis
   rw [ep2] at this
   exact this
  ·intro v6 w6 h6 g6
   have R := h3.rest.setPhis (v' := v6) (phis' := P ++ [x]) (by rw [ep2]; exact g6) (by simpa using h6)
   have box6 := R.2.1.trans h3.box
   have hmb6 := (gl box6)
   have agr6 := R.1.agr
   refine ⟨⟨cell_arr box6 rfl, ?_, (hst w6 agr6).2.1, (hvc w6 agr6).2.2.2, hac w6 agr6⟩, fz_of box6, hmb6, { d with vp := v6 }, ⟨box_at box6 rfl, R.1.set 40 v6⟩, hF.trans ((Foo.of_below b2).trans ((Foo.of_below b3).trans (R.2.2.trans (Foo.set s _ w6 40 v6))))⟩
   rw [<- ep2]; exact cell_arr box6 rfl
def atP (M : Ms) (b : Bk) (tos : List Int) (way : Nat) : Nat := bsP b.preds M.here.bk + (if way = 1 /\ tos[0]? = tos[1]? then 1 else 0)
theorem enter_spec {f : Fu} {M M' : Ms} {tos : List Int} {way : Nat} (h : M.enter f tos way = some M') : ∃ (t : Nat) (b : Bk) (P : List Int), tos[way]? = some (t : Int) /\ f.blks[t]? = some b /\ M' = { M with here := { M.here with bk := t, bh := 0 }, phis := P } /\ P.length = b.phis.length /\ ∀ k (hk : k < b.phis.length), ∃ (p : Nat) (v : Vl) (a : Nat) (x : Int), b.phis[k] = (p : Int) /\ f.vals[p]? = some v /\ v.args[atP M b tos way]? = some (a : Int) /\ M.nums[M.here.fst + a]? = some x /\ P[k]? = some x := by
 unfold Ms.enter at h
 split at h
 ·cases h
 ·next t ht =>
  split at h
  ·cases h
  ·next h0 =>
   split at h
   ·cases h
   ·next b hb =>
    simp only at h
    split at h
    ·cases h
    ·next P hP =>
     cases h
     have hs := allO_some hP
     refine ⟨t.toNat, b, P, by rw [ht, Int.toNat_of_nonneg (by omega)], hb, rfl, hs.1, fun k hk => ?_⟩
     have hx := hs.2 k hk
     have hkP : k < P.length := by rw [hs.1]; exact hk
     rw [List.getElem?_eq_getElem hkP] at hx ⊢
     split at hx
     ·cases hx
     ·next hp0 =>
      split at hx
      ·cases hx
      ·next v hv =>
       split at hx
       ·cases hx
       ·next a ha =>
        unfold Ms.num at hx
        split at hx
        ·next ha0 => exact ⟨(b.phis[k]).toNat, v, a.toNat, P[k], by omega, hv, by rw [Int.toNat_of_nonneg ha0]; exact ha, hx, rfl⟩
        ·cases hx
theorem bsr_le (L : List Int) (x : Int) {n : Nat} : ∀ q i j, i <= n -> j <= n -> bsr L x q i j <= n
 | 0, i, j, h, _ => h
 | q + 1, i, j, h, h2 => by
   rw [bsr]
   split
   ·split
    ·exact bsr_le L x q _ _ (by omega) h2
    ·exact bsr_le L x q _ _ h (by omega)
   ·exact h
theorem bsP_le (L : List Int) (x : Int) : bsP L x <= L.length := bsr_le L x _ _ _ (by omega) (by omega)
set_option maxRecDepth 100000 in
set_option maxHeartbeats 4000000 in
theorem mEnter_0 {FS s d w M} (h : Mach FS s d w M) (f : Fu) (hf : FS[M.here.fi]? = some f) (ta : Option Addr) (tl tc : Nat) (tos : List Int) (htl : tl = tos.length) (hT : ∀ W, Agr s W -> Ints W ta tc tos) (M' : Ms) (hM : M.enter f tos 0 = some M') (hl : M.nums.length <= 1000000000000) (hpr : ∀ b ∈ f.blks, b.preds.length <= 1000000000 /\ b.phis.length <= 1000000000) :
 Calls Tryz.prog 72 #[.pointer (some ⟨s.mb, 0, none⟩), .slice ta tl tc, .int .i64 0] w fun e w' => e = .returned (.tuple #[]) /\ ∃ d', Mach FS s d' w' M' /\ Foo s d d' w w' := by
 obtain ⟨t, b, P, e1, e2, rfl, hPl, hPk⟩ := enter_spec hM
 obtain ⟨at_, hat⟩ : ∃ at_, at_ = atP M b tos 0 := ⟨_, rfl⟩
 rw [<- hat] at hPk
 have hn : M.here.fi < FS.length := (List.getElem?_eq_some_iff.1 hf).1
 have hfe : FS[M.here.fi] = f := (List.getElem?_eq_some_iff.1 hf).2
 have htn : t < f.blks.length := (List.getElem?_eq_some_iff.1 e2).1
 have hbe : f.blks[t] = b := (List.getElem?_eq_some_iff.1 e2).2
 have hwn : 0 < tos.length := (List.getElem?_eq_some_iff.1 e1).1
 have hwe : tos[0] = (t : Int) := (List.getElem?_eq_some_iff.1 e1).2
 obtain ⟨_, _, la, lc, ma, mc, hst, u1, hvs, hbs⟩ := st_fu h.rest.agr h.rest.fus hn
 clear u1
 rw [hfe] at hst hvs hbs
 obtain ⟨bb, bo, ka, kc, xa, xc, ya, yc, na, nc, rfl, hbc, hbi⟩ := st_bk h.rest.agr hbs htn
 rw [hbe] at hbc hbi
 obtain ⟨tb, to_, rfl, htc⟩ := st_int h.rest.agr hT hwn
 rw [hwe] at htc
 obtain ⟨c31, c32, c34, c35, c36, c37, c38, c39, c40, hlt⟩ := h.cells
 have z35 := h.told.fz 35
 have z36 := h.told.fz 36
 have k0 := htc w h.rest.agr
 try rw [Nat.add_zero] at k0
 have hpb := hpr b (List.mem_of_getElem? e2)
 obtain ⟨w1, hw1⟩ : ∃ w1, w1 = (w.setCell ⟨s.mb, 35, none⟩ (.int .i64 (t : Int))).setCell ⟨s.mb, 36, none⟩ (.int .i64 0) := ⟨_, rfl⟩
 have h1 : Mach FS s d w1 { M with here := { M.here with bk := t, bh := 0 } } := by
  rw [hw1]; exact ⟨box_at (box_at h.box rfl) rfl, (h.rest.set 35 _).set 36 _⟩
 have f1 : Foo s d d w w1 := by rw [hw1]; exact (Foo.set s d w 35 _).trans (Foo.set s d _ 36 _)
 obtain ⟨nb, hnb⟩ : ∃ nb, nb = f.blks.length := ⟨_, rfl⟩
 have HIN : Hid (Calls Tryz.prog 44 #[.agg #[.pointer (some ⟨s.fb, s.fo + M.here.fi * 5, none⟩), .int .i64 (t : Int), .int .i64 0, .int .i64 (M.here.fst : Int)]] w1 fun e w' => e = .returned (.pointer (some ⟨bb, bo + t * 6, none⟩)) /\ Below w1.heap.size w1 w') := mIn_any w1 (bh := 0) (hst w1 h1.rest.agr).2.2 htn (by have := (hbs w1 h1.rest.agr).le; have := (hbs w1 h1.rest.agr).mx; omega)
 obtain ⟨pl, hpl⟩ : ∃ pl, pl = b.preds.length := ⟨_, rfl⟩
 obtain ⟨kl, hkl⟩ : ∃ kl, kl = b.phis.length := ⟨_, rfl⟩
 have HBK : Hid (∀ W, Below w1.heap.size w1 W -> W.cell? ⟨bb, bo + t * 6, none⟩ = some (.slice ka kl kc) /\ W.cell? ⟨bb, bo + t * 6 + 5, none⟩ = some (.slice na pl nc) /\ bb < W.heap.size /\ s.mb < W.heap.size) := fun W hW => by
  have q := hbc W (h1.below hW).rest.agr
  rw [hkl, hpl]
  exact ⟨q.1, q.2.2.2.2.2, block_lt_of_cell q.1, (h1.below hW).cells.lt⟩
 have HBS : Hid (∀ W, Below w1.heap.size w1 W -> Calls Tryz.prog 114 #[.slice na pl nc, .int .i64 (M.here.bk : Int)] W fun e w' => ∃ t, e = .returned (.tuple #[.int .i64 (bsP b.preds (M.here.bk : Int) : Int), .bool t]) /\ w' = W) := fun W hW => bs_any W na pl nc b.preds hpl (hbi W (h1.below hW).rest.agr).2.2.2 _ (by omega)
 obtain ⟨pa, pc, ep, _, hpc2⟩ := own_slice h1.rest.phis.out
 have ep2 : d.vp = .slice pa M.phis.length pc := ep
 obtain ⟨ol, hol⟩ : ∃ ol, ol = M.phis.length := ⟨_, rfl⟩
 rw [<- hol] at ep2
 have hopc : ol <= pc := by rw [hol]; assumption
 have HZ : Hid (∀ W, Below w1.heap.size w1 W -> W.cell? ⟨s.mb, 40, none⟩ = some (.slice pa ol pc) /\ W.frozen? ⟨s.mb, 40, none⟩ = false /\ EntS FS s d w (W.setCell ⟨s.mb, 40, none⟩ (.slice pa 0 pc)) M t [] /\ (W.setCell ⟨s.mb, 40, none⟩ (.slice pa 0 pc)).cell? ⟨bb, bo + t * 6, none⟩ = some (.slice ka kl kc)) := fun W hW => by
  have q := h1.below hW
  have O : OwnI W s.hi (.slice pa ol pc) ol M.phis := by have := q.rest.phis; rw [ep2] at this; rw [hol] at this ⊢; exact this
  have R := q.rest.setPhis (w' := W) (v' := .slice pa 0 pc) (phis' := []) ⟨Below.refl _ _, fun _ _ _ => rfl, fun g hg => .inl (by rw [ep2]; cases pa <;> exact hg)⟩ O.zero
  refine ⟨by rw [<- ep2]; exact q.cells.c40, fz_of q.box, ⟨{ d with vp := .slice pa 0 pc }, ⟨box_at q.box rfl, R.1.set 40 _⟩, f1.trans ((Foo.of_below hW).trans (R.2.2.trans (Foo.set s _ W 40 _)))⟩, ?_⟩
  rw [hkl]; exact (hbc _ (R.1.set 40 _).agr).1
 have HSTEP : Hid (∀ (k : Nat) (W : World), k < kl -> EntS FS s d w W M t (P.take k) -> ∃ (kb ko p : Nat) (v : Vl) (a : Nat) (x : Int) (pa : Option Addr) (pc vb vo nv vc xb xo xl xc : Nat), ka = some ⟨kb, ko, none⟩ /\ W.cell? ⟨kb, ko + k, none⟩ = some (.int .i64 (p : Int)) /\ p < nv /\ at_ < xl /\ EnS s.mb s.fb (s.fo + M.here.fi * 5) pa k pc vb vo nv vc p xb xo xl xc at_ a W.drew /\ s.mb < W.heap.size /\ nv <= 9223372036854775807 /\ xl <= 9223372036854775807 /\ Hid (Calls Tryz.prog 73 #[.pointer (some ⟨s.mb, 0, none⟩), .int .i64 (a : Int)] W.drew fun e w' => e = .returned (.int .i64 x) /\ Below W.heap.size W w')
  /\ Hid (∀ w2, Below W.heap.size W w2 -> EnS s.mb s.fb (s.fo + M.here.fi * 5) pa k pc vb vo nv vc p xb xo xl xc at_ a w2 /\ EnS s.mb s.fb (s.fo + M.here.fi * 5) pa k pc vb vo nv vc p xb xo xl xc at_ a (w2.alloc (.cells #[.int .i64 x] 3)) /\ OwnI (w2.alloc (.cells #[.int .i64 x] 3)) s.hi (.slice pa k pc) k (P.take k) /\ s.hi <= (w2.alloc (.cells #[.int .i64 x] 3)).heap.size
    /\ ∀ v6 w6, OwnI w6 s.hi v6 (k + 1) (P.take k ++ [x]) -> GI s.hi (w2.alloc (.cells #[.int .i64 x] 3)) w6 (.slice pa k pc) v6 -> EnS s.mb s.fb (s.fo + M.here.fi * 5) pa k pc vb vo nv vc p xb xo xl xc at_ a w6 /\ w6.frozen? ⟨s.mb, 40, none⟩ = false /\ s.mb < w6.heap.size /\ EntS FS s d w (w6.setCell ⟨s.mb, 40, none⟩ v6) M t (P.take (k + 1)))) := by
  intro k W hk hE
  have hkb : k < b.phis.length := by omega
  have hkP : k < P.length := by omega
  obtain ⟨p, v, a, x, q1, q2, q3, q4, q5⟩ := hPk k hkb
  have hlen : (P.take k).length = k := by simp; omega
  have hnx : P.take k ++ [x] = P.take (k + 1) := by
   have hx5 : P[k] = x := (List.getElem?_eq_some_iff.1 q5).2
   rw [<- hx5, List.take_append_getElem hkP]
  obtain ⟨d5, hm5, _⟩ := hE.out
  obtain ⟨kb, ko, ek, hkc⟩ := st_int h.rest.agr (fun W hW => (hbi W hW).1) hkb
  have k5 := hkc W hm5.rest.agr
  rw [q1] at k5
  obtain ⟨pa, pc, vb, vo, vc, xb, xo, xc, r1, r2, r3, r4, r5, r6⟩ := hE.next hf q2 q3 q4 hl (by rw [hlen]; omega)
  rw [hlen] at r1 r6
  rw [hnx] at r6
  refine ⟨kb, ko, p, v, a, x, pa, pc, vb, vo, _, vc, xb, xo, _, xc, ek, k5, (List.getElem?_eq_some_iff.1 q2).1, (List.getElem?_eq_some_iff.1 q3).1, r1, r2, r3, r4, r5, ?_⟩
  rw [hnx]
  exact r6
 have HEND : Hid (∀ W, EntS FS s d w W M t (P.take kl) -> ∃ d', Mach FS s d' W { M with here := { M.here with bk := t, bh := 0 }, phis := P } /\ Foo s d d' w W) := fun W hE => by
  have e : P.take kl = P := by rw [hkl, <- hPl]; exact List.take_length
  rw [e] at hE
  exact hE.out
 have hat0 : at_ = bsP b.preds (M.here.bk : Int) := by rw [hat]; unfold atP; rw [if_neg (by simp)]; rfl
 have hwnI : (0 : Int) < (tl : Int) := by omega
 have htlm : tl <= tc /\ tc <= 9223372036854775807 := by have := (hT w h.rest.agr).le; have := (hT w h.rest.agr).mx; omega
 have hkm : kl <= kc /\ kc <= 9223372036854775807 := by have := (hbi w h.rest.agr).1.le; have := (hbi w h.rest.agr).1.mx; omega
 have htb : tb < w.heap.size := block_lt_of_cell k0
 have hklb : kl <= 1000000000 := by omega
 have hbsl : bsP b.preds (M.here.bk : Int) <= 1000000000 := Nat.le_trans (bsP_le _ _) (by omega)
 have g34 := h1.cells.c34
 have g35 := h1.cells.c35
 have g36 : w1.cell? ⟨s.mb, 36, none⟩ = some (.int .i64 0) := h1.cells.c36
 have g37 := h1.cells.c37
 have g2 := h1.cells.lt
 have HB0 : Hid (Below w1.heap.size w1 w1) := Below.refl _ _
 clear e1 e2 hPl hPk hat hn hfe htn hbe hwn hwe hst hvs hbs hbc hbi htc h hT hpr hl hf c31 c32 c34 c37 c38 c39 c40 h1 f1 hnb hpl hkl ep ep2 hol hM hpb htl
 rw [<- hat0] at HBS hbsl
 clear hat0
 generalize s.mb = mb at *
 generalize s.fb = fb at *
 generalize s.hi = hi at *
 generalize s.fo + M.here.fi * 5 = q at *
 generalize (M.here.fst : Int) = fst at *
 obtain ⟨bkv, hbkv⟩ : ∃ bkv, bkv = (M.here.bk : Int) := ⟨_, rfl⟩
 rw [<- hbkv] at HBS c35
 clear hbkv
 go_enter Tryz.func72, Tryz.ntmps72
 go_upto_region 2 with fail
 rw [<- hw1]
 clear hw1 c35 c36 z35 z36 k0 hlt htb
 go_wp2_with (first
  | (go_at_call 44; refine Calls.mono HIN.out ?_; rintro e w2 ⟨rfl, b2⟩; obtain ⟨y0, y1, y2, y3⟩ := HBK.out w2 b2)
  | (go_at_call 114; refine (HBS.out _ b2).mono ?_; rintro e w3 ⟨tv, rfl, rfl⟩))
 go_quiet (fail)
 go_upto_region 6 with fail
 generalize hw4 : w3.drewN _ = w4
 have b4 : Below w1.heap.size w1 w4 := by rw [<- hw4]; exact below_drawn b2 _
 clear hw4 y0 y1 y2 y3 g34 g35 g36 g37 g2
 obtain ⟨y0, y1, y2, y3⟩ := HBK.out w4 b4
 obtain ⟨c40, z40, hE0, x0⟩ := HZ.out w4 b4
 have HE0 : Hid _ := hE0
 obtain ⟨w5, hw5⟩ : ∃ w5, w5 = w4.setCell ⟨mb, 40, none⟩ (.slice pa 0 pc) := ⟨_, rfl⟩
 rw [<- hw5] at HE0 x0
 have hbb5 : bb < w5.heap.size := block_lt_of_cell x0
 clear hE0 HZ HBK HIN HBS HB0
 go_upto_region 7 with fail
 rw [<- hw5]
 clear hw5 c40 z40 y0 y1 y2 y3 b4 b2
 go_wp2_with fail
 clear x0 hbb5
 go_loopw [75] (fun u wr => ∃ k : Nat, k <= kl /\ u = .int .i64 k /\ Hid (EntS FS s d w wr M t (P.take k))) (fun u _ => kl - (intOf u).toNat)
 case atStart => exact ⟨0, by omega, rfl, by simpa using HE0⟩
 case round =>
  clear HE0
  obtain ⟨k, hk, rfl, HK⟩ := hrel
  by_cases hlk : k < kl
  ·obtain ⟨kb, ko, p, v, a, x, pa, pc, vb, vo, nv, vc, xb, xo, xl, xc, ek, k5, hpn, hatl, S0, hmw, hnm, hxm, HNUM, HAFT⟩ := HSTEP.out k wr hlk HK.out
   subst ek
   obtain ⟨PK, hPK⟩ : ∃ PK, PK = P.take k := ⟨_, rfl⟩
   rw [<- hPK] at HAFT
   have hpl : k + 1 <= 17592186044416 := by omega
   have hkI : (k : Int) < (kl : Int) := by omega
   have hpI : (p : Int) < (nv : Int) := by omega
   have haI : (at_ : Int) < (xl : Int) := by omega
   have hkb : kb < wr.heap.size := block_lt_of_cell k5
   obtain ⟨pl, hplk⟩ : ∃ pl, pl = k := ⟨_, rfl⟩
   rw [<- hplk] at S0 HAFT hpl
   have HPL : Hid (pl = k) := hplk
   clear HK HSTEP HEND hPK hplk
   go_wp2_with fail
   refine led_start (S := EnS mb fb q pa pl pc vb vo nv vc p xb xo xl xc at_ a) (z := 29) (by kernel_rfl) ?_
   refine led_t (i := 0) (v := ?v0) rfl (by kernel_rfl) (.inl ⟨by rfl, ?hy0⟩) S0 ?rest0
   case hy0 =>
    rintro w' ⟨h1, h2, h3, h4, h5⟩
    go_simp
    all_goals with_reducible rfl
   try simp only [Act.put, List.getElem_toArray, List.getElem_cons_succ, List.getElem_cons_zero, List.setIfInBounds_toArray, List.set_cons_zero, List.set_cons_succ]
   refine led_t (i := 1) (v := ?v1) rfl (by kernel_rfl) (.inl ⟨by rfl, ?hy1⟩) S0 ?rest1
   case hy1 =>
    rintro w' ⟨h1, h2, h3, h4, h5⟩
    go_simp
    all_goals with_reducible rfl
   try simp only [Act.put, List.getElem_toArray, List.getElem_cons_succ, List.getElem_cons_zero, List.setIfInBounds_toArray, List.set_cons_zero, List.set_cons_succ]
   refine led_t (i := 2) (v := ?v2) rfl (by kernel_rfl) (.inl ⟨by rfl, ?hy2⟩) S0 ?rest2
   case hy2 =>
    rintro w' ⟨h1, h2, h3, h4, h5⟩
    go_simp
    all_goals with_reducible rfl
   try simp only [Act.put, List.getElem_toArray, List.getElem_cons_succ, List.getElem_cons_zero, List.setIfInBounds_toArray, List.set_cons_zero, List.set_cons_succ]
   refine led_t (i := 3) (v := ?v3) rfl (by kernel_rfl) (.inl ⟨by rfl, ?hy3⟩) S0 ?rest3
   case hy3 =>
    rintro w' ⟨h1, h2, h3, h4, h5⟩
    go_simp
    all_goals with_reducible rfl
   try simp only [Act.put, List.getElem_toArray, List.getElem_cons_succ, List.getElem_cons_zero, List.setIfInBounds_toArray, List.set_cons_zero, List.set_cons_succ]
   refine led_t (i := 4) (v := ?v4) rfl (by kernel_rfl) (.inl ⟨by rfl, ?hy4⟩) S0 ?rest4
   case hy4 =>
    rintro w' ⟨h1, h2, h3, h4, h5⟩
    go_simp
    all_goals with_reducible rfl
   try simp only [Act.put, List.getElem_toArray, List.getElem_cons_succ, List.getElem_cons_zero, List.setIfInBounds_toArray, List.set_cons_zero, List.set_cons_succ]
   refine led_t (i := 5) (v := ?v5) rfl (by kernel_rfl) (.inl ⟨by rfl, ?hy5⟩) S0 ?rest5
   case hy5 =>
    rintro w' ⟨h1, h2, h3, h4, h5⟩
    go_simp
    all_goals with_reducible rfl
   try simp only [Act.put, List.getElem_toArray, List.getElem_cons_succ, List.getElem_cons_zero, List.setIfInBounds_toArray, List.set_cons_zero, List.set_cons_succ]
   refine led_t (i := 6) (v := ?v6) rfl (by kernel_rfl) (.inl ⟨by rfl, ?hy6⟩) S0 ?rest6
   case hy6 =>
    rintro w' ⟨h1, h2, h3, h4, h5⟩
    go_simp
    all_goals with_reducible rfl
   try simp only [Act.put, List.getElem_toArray, List.getElem_cons_succ, List.getElem_cons_zero, List.setIfInBounds_toArray, List.set_cons_zero, List.set_cons_succ]
   refine led_t (i := 7) (v := ?v7) rfl (by kernel_rfl) (.inl ⟨by rfl, ?hy7⟩) S0 ?rest7
   case hy7 =>
    rintro w' ⟨h1, h2, h3, h4, h5⟩
    go_simp
    all_goals with_reducible rfl
   try simp only [Act.put, List.getElem_toArray, List.getElem_cons_succ, List.getElem_cons_zero, List.setIfInBounds_toArray, List.set_cons_zero, List.set_cons_succ]
   refine led_t (i := 8) (v := ?v8) rfl (by kernel_rfl) (.inl ⟨by rfl, ?hy8⟩) S0 ?rest8
   case hy8 =>
    rintro w' ⟨h1, h2, h3, h4, h5⟩
    go_simp
    all_goals with_reducible rfl
   try simp only [Act.put, List.getElem_toArray, List.getElem_cons_succ, List.getElem_cons_zero, List.setIfInBounds_toArray, List.set_cons_zero, List.set_cons_succ]
   refine led_t (i := 9) (v := ?v9) rfl (by kernel_rfl) (.inl ⟨by rfl, ?hy9⟩) S0 ?rest9
   case hy9 =>
    rintro w' ⟨h1, h2, h3, h4, h5⟩
    go_simp
    all_goals with_reducible rfl
   try simp only [Act.put, List.getElem_toArray, List.getElem_cons_succ, List.getElem_cons_zero, List.setIfInBounds_toArray, List.set_cons_zero, List.set_cons_succ]
   refine led_t (i := 10) (v := ?v10) rfl (by kernel_rfl) (.inl ⟨by rfl, ?hy10⟩) S0 ?rest10
   case hy10 =>
    rintro w' ⟨h1, h2, h3, h4, h5⟩
    go_simp
    all_goals with_reducible rfl
   try simp only [Act.put, List.getElem_toArray, List.getElem_cons_succ, List.getElem_cons_zero, List.setIfInBounds_toArray, List.set_cons_zero, List.set_cons_succ]
   refine led_t (i := 11) (v := ?v11) rfl (by kernel_rfl) (.inl ⟨by rfl, ?hy11⟩) S0 ?rest11
   case hy11 =>
    rintro w' ⟨h1, h2, h3, h4, h5⟩
    go_simp
    all_goals with_reducible rfl
   try simp only [Act.put, List.getElem_toArray, List.getElem_cons_succ, List.getElem_cons_zero, List.setIfInBounds_toArray, List.set_cons_zero, List.set_cons_succ]
   refine led_t (i := 12) (v := ?v12) rfl (by kernel_rfl) (.inl ⟨by rfl, ?hy12⟩) S0 ?rest12
   case hy12 =>
    rintro w' ⟨h1, h2, h3, h4, h5⟩
    go_simp
    all_goals with_reducible rfl
   try simp only [Act.put, List.getElem_toArray, List.getElem_cons_succ, List.getElem_cons_zero, List.setIfInBounds_toArray, List.set_cons_zero, List.set_cons_succ]
   refine led_t (i := 13) (v := ?v13) rfl (by kernel_rfl) (.inl ⟨by rfl, ?hy13⟩) S0 ?rest13
   case hy13 =>
    rintro w' ⟨h1, h2, h3, h4, h5⟩
    go_simp
    all_goals with_reducible rfl
   try simp only [Act.put, List.getElem_toArray, List.getElem_cons_succ, List.getElem_cons_zero, List.setIfInBounds_toArray, List.set_cons_zero, List.set_cons_succ]
   refine led_t (i := 14) (v := ?v14) rfl (by kernel_rfl) (.inl ⟨by rfl, ?hy14⟩) S0 ?rest14
   case hy14 =>
    rintro w' ⟨h1, h2, h3, h4, h5⟩
    go_simp
    all_goals with_reducible rfl
   try simp only [Act.put, List.getElem_toArray, List.getElem_cons_succ, List.getElem_cons_zero, List.setIfInBounds_toArray, List.set_cons_zero, List.set_cons_succ]
   refine led_t (i := 15) (v := ?v15) rfl (by kernel_rfl) (.inl ⟨by rfl, ?hy15⟩) S0 ?rest15
   case hy15 =>
    rintro w' ⟨h1, h2, h3, h4, h5⟩
    go_simp
    all_goals with_reducible rfl
   try simp only [Act.put, List.getElem_toArray, List.getElem_cons_succ, List.getElem_cons_zero, List.setIfInBounds_toArray, List.set_cons_zero, List.set_cons_succ]
   refine led_t (i := 16) (v := ?v16) rfl (by kernel_rfl) (.inl ⟨by rfl, ?hy16⟩) S0 ?rest16
   case hy16 =>
    rintro w' ⟨h1, h2, h3, h4, h5⟩
    go_simp
    all_goals with_reducible rfl
   try simp only [Act.put, List.getElem_toArray, List.getElem_cons_succ, List.getElem_cons_zero, List.setIfInBounds_toArray, List.set_cons_zero, List.set_cons_succ]
   refine led_t (i := 17) (v := ?v17) rfl (by kernel_rfl) (.inl ⟨by rfl, ?hy17⟩) S0 ?rest17
   case hy17 =>
    rintro w' ⟨h1, h2, h3, h4, h5⟩
    go_simp
    all_goals with_reducible rfl
   try simp only [Act.put, List.getElem_toArray, List.getElem_cons_succ, List.getElem_cons_zero, List.setIfInBounds_toArray, List.set_cons_zero, List.set_cons_succ]
   refine led_t (i := 18) (v := ?v18) rfl (by kernel_rfl) (.inl ⟨by rfl, ?hy18⟩) S0 ?rest18
   case hy18 =>
    rintro w' ⟨h1, h2, h3, h4, h5⟩
    go_simp
    all_goals with_reducible rfl
   try simp only [Act.put, List.getElem_toArray, List.getElem_cons_succ, List.getElem_cons_zero, List.setIfInBounds_toArray, List.set_cons_zero, List.set_cons_succ]
   refine led_t (i := 19) (v := ?v19) rfl (by kernel_rfl) (.inl ⟨by rfl, ?hy19⟩) S0 ?rest19
   case hy19 =>
    rintro w' ⟨h1, h2, h3, h4, h5⟩
    go_simp
    all_goals with_reducible rfl
   try simp only [Act.put, List.getElem_toArray, List.getElem_cons_succ, List.getElem_cons_zero, List.setIfInBounds_toArray, List.set_cons_zero, List.set_cons_succ]
   refine led_t (i := 20) (v := ?v20) rfl (by kernel_rfl) (.inl ⟨by rfl, ?hy20⟩) S0 ?rest20
   case hy20 =>
    rintro w' ⟨h1, h2, h3, h4, h5⟩
    go_simp
    all_goals with_reducible rfl
   try simp only [Act.put, List.getElem_toArray, List.getElem_cons_succ, List.getElem_cons_zero, List.setIfInBounds_toArray, List.set_cons_zero, List.set_cons_succ]
   refine led_t (i := 21) (v := ?v21) rfl (by kernel_rfl) (.inl ⟨by rfl, ?hy21⟩) S0 ?rest21
   case hy21 =>
    rintro w' ⟨h1, h2, h3, h4, h5⟩
    go_simp
    all_goals with_reducible rfl
   try simp only [Act.put, List.getElem_toArray, List.getElem_cons_succ, List.getElem_cons_zero, List.setIfInBounds_toArray, List.set_cons_zero, List.set_cons_succ]
   refine led_t (i := 22) (v := ?v22) rfl (by kernel_rfl) (.inl ⟨by rfl, ?hy22⟩) S0 ?rest22
   case hy22 =>
    rintro w' ⟨h1, h2, h3, h4, h5⟩
    go_simp
    all_goals with_reducible rfl
   try simp only [Act.put, List.getElem_toArray, List.getElem_cons_succ, List.getElem_cons_zero, List.setIfInBounds_toArray, List.set_cons_zero, List.set_cons_succ]
   refine led_one (i := 23) rfl (by kernel_rfl) ?_
   intro K1 hK1
   rw [if_pos (by rfl)]
   go_simp
   refine Calls.mono HNUM.out ?_
   rintro e w2 ⟨rfl, b2⟩
   obtain ⟨SA, SB, ON, hsz, hput⟩ := HAFT.out w2 b2
   have HON : Hid _ := ON
   have PUT : Hid _ := hput
   clear ON hput
   refine hK1 _ _ (fun _ => SA) ?_
   clear hK1
   try simp only [Act.put, List.getElem_toArray, List.getElem_cons_succ, List.getElem_cons_zero, List.setIfInBounds_toArray, List.set_cons_zero, List.set_cons_succ]
   refine led_one (i := 24) rfl (by kernel_rfl) ?_
   intro K2 hK2
   rw [if_pos (by rfl)]
   go_simp
   refine hK2 _ _ (fun _ => SB) ?_
   clear hK2
   try simp only [Act.put, List.getElem_toArray, List.getElem_cons_succ, List.getElem_cons_zero, List.setIfInBounds_toArray, List.set_cons_zero, List.set_cons_succ]
   refine led_one (i := 25) rfl (by kernel_rfl) ?_
   intro K3 hK3
   refine step_append_intG rfl _ _ rfl hi (.slice pa pl pc) pl PK x (by simp [Act.eval]) HON.out w2.heap.size (by simp [Act.eval]) (by simp) hpl hsz ?_
   intro v6 w6 h6 g6
   obtain ⟨S6, F6, X6, N6⟩ := PUT.out v6 w6 h6 g6
   have P6 : Hid _ := N6
   refine hK3 _ _ (fun _ => S6) ?_
   clear hK3 N6
   obtain ⟨a6, c6, e6, _, _⟩ := own_slice h6.out
   subst e6
   have T6 := S6.h2
   clear h6 g6
   try simp only [Act.put, List.getElem_toArray, List.getElem_cons_succ, List.getElem_cons_zero, List.setIfInBounds_toArray, List.set_cons_zero, List.set_cons_succ]
   refine led_one (i := 26) rfl (by kernel_rfl) ?_
   intro K4 hK4
   rw [if_pos (by rfl)]
   go_simp
   refine hK4 _ _ (fun _ => S6) ?_
   clear hK4
   try simp only [Act.put, List.getElem_toArray, List.getElem_cons_succ, List.getElem_cons_zero, List.setIfInBounds_toArray, List.set_cons_zero, List.set_cons_succ]
   refine led_one (i := 27) rfl (by kernel_rfl) ?_
   intro K5 hK5
   rw [if_pos (by rfl)]
   go_simp
   refine hK5 _ _ (fun _ => S6) ?_
   clear hK5
   try simp only [Act.put, List.getElem_toArray, List.getElem_cons_succ, List.getElem_cons_zero, List.setIfInBounds_toArray, List.set_cons_zero, List.set_cons_succ]
   refine led_one (i := 28) rfl (by kernel_rfl) ?_
   intro K6 hK6
   rw [if_pos (by rfl)]
   go_simp
   refine hK6 _ _ (fun _ => S6) ?_
   clear hK6
   try simp only [Act.put, List.getElem_toArray, List.getElem_cons_succ, List.getElem_cons_zero, List.setIfInBounds_toArray, List.set_cons_zero, List.set_cons_succ]
   refine led_one (i := 29) rfl (by kernel_rfl) ?_
   intro K7 hK7
   rw [if_pos (by rfl)]
   go_simp
   refine hK7 _ _ (fun h => absurd rfl h) ?_
   clear hK7
   refine led_done (by kernel_rfl) ?_
   go_wp2_with fail
   go_roundw
   case rel => exact ⟨k + 1, by omega, by go_num, by rw [<- HPL.out]; exact P6.out⟩
   case measure => simp [intOf]; omega
  ·have hkn : k = kl := by omega
   subst hkn
   have H9 : Hid _ := HEND.out wr HK.out
   clear HK HSTEP HEND
   go_wp2_with fail
   exact bodyPost_end (v := .tuple #[]) (by simp [results, Tryz.results72, go_sem]) rfl ⟨rfl, H9.out⟩
set_option maxRecDepth 100000 in
set_option maxHeartbeats 4000000 in
theorem mEnter_1n {FS s d w M} (h : Mach FS s d w M) (f : Fu) (hf : FS[M.here.fi]? = some f) (ta : Option Addr) (tl tc : Nat) (tos : List Int) (htl : tl = tos.length) (hT : ∀ W, Agr s W -> Ints W ta tc tos) (M' : Ms) (hM : M.enter f tos 1 = some M') (hq : ¬ tos[0]? = tos[1]?) (hl : M.nums.length <= 1000000000000) (hpr : ∀ b ∈ f.blks, b.preds.length <= 1000000000 /\ b.phis.length <= 1000000000) :
 Calls Tryz.prog 72 #[.pointer (some ⟨s.mb, 0, none⟩), .slice ta tl tc, .int .i64 1] w fun e w' => e = .returned (.tuple #[]) /\ ∃ d', Mach FS s d' w' M' /\ Foo s d d' w w' := by
 obtain ⟨t, b, P, e1, e2, rfl, hPl, hPk⟩ := enter_spec hM
 obtain ⟨at_, hat⟩ : ∃ at_, at_ = atP M b tos 1 := ⟨_, rfl⟩
 rw [<- hat] at hPk
 have hn : M.here.fi < FS.length := (List.getElem?_eq_some_iff.1 hf).1
 have hfe : FS[M.here.fi] = f := (List.getElem?_eq_some_iff.1 hf).2
 have htn : t < f.blks.length := (List.getElem?_eq_some_iff.1 e2).1
 have hbe : f.blks[t] = b := (List.getElem?_eq_some_iff.1 e2).2
 have hwn : 1 < tos.length := (List.getElem?_eq_some_iff.1 e1).1
 have hwe : tos[1] = (t : Int) := (List.getElem?_eq_some_iff.1 e1).2
 obtain ⟨_, _, la, lc, ma, mc, hst, u1, hvs, hbs⟩ := st_fu h.rest.agr h.rest.fus hn
 clear u1
 rw [hfe] at hst hvs hbs
 obtain ⟨bb, bo, ka, kc, xa, xc, ya, yc, na, nc, rfl, hbc, hbi⟩ := st_bk h.rest.agr hbs htn
 rw [hbe] at hbc hbi
 obtain ⟨tb, to_, rfl, htc⟩ := st_int h.rest.agr hT hwn
 rw [hwe] at htc
 obtain ⟨c31, c32, c34, c35, c36, c37, c38, c39, c40, hlt⟩ := h.cells
 have z35 := h.told.fz 35
 have z36 := h.told.fz 36
 have k0 := htc w h.rest.agr
 try rw [Nat.add_zero] at k0
 have hpb := hpr b (List.mem_of_getElem? e2)
 obtain ⟨w1, hw1⟩ : ∃ w1, w1 = (w.setCell ⟨s.mb, 35, none⟩ (.int .i64 (t : Int))).setCell ⟨s.mb, 36, none⟩ (.int .i64 0) := ⟨_, rfl⟩
 have h1 : Mach FS s d w1 { M with here := { M.here with bk := t, bh := 0 } } := by
  rw [hw1]; exact ⟨box_at (box_at h.box rfl) rfl, (h.rest.set 35 _).set 36 _⟩
 have f1 : Foo s d d w w1 := by rw [hw1]; exact (Foo.set s d w 35 _).trans (Foo.set s d _ 36 _)
 obtain ⟨nb, hnb⟩ : ∃ nb, nb = f.blks.length := ⟨_, rfl⟩
 have HIN : Hid (Calls Tryz.prog 44 #[.agg #[.pointer (some ⟨s.fb, s.fo + M.here.fi * 5, none⟩), .int .i64 (t : Int), .int .i64 0, .int .i64 (M.here.fst : Int)]] w1 fun e w' => e = .returned (.pointer (some ⟨bb, bo + t * 6, none⟩)) /\ Below w1.heap.size w1 w') := mIn_any w1 (bh := 0) (hst w1 h1.rest.agr).2.2 htn (by have := (hbs w1 h1.rest.agr).le; have := (hbs w1 h1.rest.agr).mx; omega)
 obtain ⟨pl, hpl⟩ : ∃ pl, pl = b.preds.length := ⟨_, rfl⟩
 obtain ⟨kl, hkl⟩ : ∃ kl, kl = b.phis.length := ⟨_, rfl⟩
 have HBK : Hid (∀ W, Below w1.heap.size w1 W -> W.cell? ⟨bb, bo + t * 6, none⟩ = some (.slice ka kl kc) /\ W.cell? ⟨bb, bo + t * 6 + 5, none⟩ = some (.slice na pl nc) /\ bb < W.heap.size /\ s.mb < W.heap.size) := fun W hW => by
  have q := hbc W (h1.below hW).rest.agr
  rw [hkl, hpl]
  exact ⟨q.1, q.2.2.2.2.2, block_lt_of_cell q.1, (h1.below hW).cells.lt⟩
 have HBS : Hid (∀ W, Below w1.heap.size w1 W -> Calls Tryz.prog 114 #[.slice na pl nc, .int .i64 (M.here.bk : Int)] W fun e w' => ∃ t, e = .returned (.tuple #[.int .i64 (bsP b.preds (M.here.bk : Int) : Int), .bool t]) /\ w' = W) := fun W hW => bs_any W na pl nc b.preds hpl (hbi W (h1.below hW).rest.agr).2.2.2 _ (by omega)
 obtain ⟨pa, pc, ep, _, hpc2⟩ := own_slice h1.rest.phis.out
 have ep2 : d.vp = .slice pa M.phis.length pc := ep
 obtain ⟨ol, hol⟩ : ∃ ol, ol = M.phis.length := ⟨_, rfl⟩
 rw [<- hol] at ep2
 have hopc : ol <= pc := by rw [hol]; assumption
 have HZ : Hid (∀ W, Below w1.heap.size w1 W -> W.cell? ⟨s.mb, 40, none⟩ = some (.slice pa ol pc) /\ W.frozen? ⟨s.mb, 40, none⟩ = false /\ EntS FS s d w (W.setCell ⟨s.mb, 40, none⟩ (.slice pa 0 pc)) M t [] /\ (W.setCell ⟨s.mb, 40, none⟩ (.slice pa 0 pc)).cell? ⟨bb, bo + t * 6, none⟩ = some (.slice ka kl kc)) := fun W hW => by
  have q := h1.below hW
  have O : OwnI W s.hi (.slice pa ol pc) ol M.phis := by have := q.rest.phis; rw [ep2] at this; rw [hol] at this ⊢; exact this
  have R := q.rest.setPhis (w' := W) (v' := .slice pa 0 pc) (phis' := []) ⟨Below.refl _ _, fun _ _ _ => rfl, fun g hg => .inl (by rw [ep2]; cases pa <;> exact hg)⟩ O.zero
  refine ⟨by rw [<- ep2]; exact q.cells.c40, fz_of q.box, ⟨{ d with vp := .slice pa 0 pc }, ⟨box_at q.box rfl, R.1.set 40 _⟩, f1.trans ((Foo.of_below hW).trans (R.2.2.trans (Foo.set s _ W 40 _)))⟩, ?_⟩
  rw [hkl]; exact (hbc _ (R.1.set 40 _).agr).1
 have HSTEP : Hid (∀ (k : Nat) (W : World), k < kl -> EntS FS s d w W M t (P.take k) -> ∃ (kb ko p : Nat) (v : Vl) (a : Nat) (x : Int) (pa : Option Addr) (pc vb vo nv vc xb xo xl xc : Nat), ka = some ⟨kb, ko, none⟩ /\ W.cell? ⟨kb, ko + k, none⟩ = some (.int .i64 (p : Int)) /\ p < nv /\ at_ < xl /\ EnS s.mb s.fb (s.fo + M.here.fi * 5) pa k pc vb vo nv vc p xb xo xl xc at_ a W.drew /\ s.mb < W.heap.size /\ nv <= 9223372036854775807 /\ xl <= 9223372036854775807 /\ Hid (Calls Tryz.prog 73 #[.pointer (some ⟨s.mb, 0, none⟩), .int .i64 (a : Int)] W.drew fun e w' => e = .returned (.int .i64 x) /\ Below W.heap.size W w')
  /\ Hid (∀ w2, Below W.heap.size W w2 -> EnS s.mb s.fb (s.fo + M.here.fi * 5) pa k pc vb vo nv vc p xb xo xl xc at_ a w2 /\ EnS s.mb s.fb (s.fo + M.here.fi * 5) pa k pc vb vo nv vc p xb xo xl xc at_ a (w2.alloc (.cells #[.int .i64 x] 3)) /\ OwnI (w2.alloc (.cells #[.int .i64 x] 3)) s.hi (.slice pa k pc) k (P.take k) /\ s.hi <= (w2.alloc (.cells #[.int .i64 x] 3)).heap.size
    /\ ∀ v6 w6, OwnI w6 s.hi v6 (k + 1) (P.take k ++ [x]) -> GI s.hi (w2.alloc (.cells #[.int .i64 x] 3)) w6 (.slice pa k pc) v6 -> EnS s.mb s.fb (s.fo + M.here.fi * 5) pa k pc vb vo nv vc p xb xo xl xc at_ a w6 /\ w6.frozen? ⟨s.mb, 40, none⟩ = false /\ s.mb < w6.heap.size /\ EntS FS s d w (w6.setCell ⟨s.mb, 40, none⟩ v6) M t (P.take (k + 1)))) := by
  intro k W hk hE
  have hkb : k < b.phis.length := by omega
  have hkP : k < P.length := by omega
  obtain ⟨p, v, a, x, q1, q2, q3, q4, q5⟩ := hPk k hkb
  have hlen : (P.take k).length = k := by simp; omega
  have hnx : P.take k ++ [x] = P.take (k + 1) := by
   have hx5 : P[k] = x := (List.getElem?_eq_some_iff.1 q5).2
   rw [<- hx5, List.take_append_getElem hkP]
  obtain ⟨d5, hm5, _⟩ := hE.out
  obtain ⟨kb, ko, ek, hkc⟩ := st_int h.rest.agr (fun W hW => (hbi W hW).1) hkb
  have k5 := hkc W hm5.rest.agr
  rw [q1] at k5
  obtain ⟨pa, pc, vb, vo, vc, xb, xo, xc, r1, r2, r3, r4, r5, r6⟩ := hE.next hf q2 q3 q4 hl (by rw [hlen]; omega)
  rw [hlen] at r1 r6
  rw [hnx] at r6
  refine ⟨kb, ko, p, v, a, x, pa, pc, vb, vo, _, vc, xb, xo, _, xc, ek, k5, (List.getElem?_eq_some_iff.1 q2).1, (List.getElem?_eq_some_iff.1 q3).1, r1, r2, r3, r4, r5, ?_⟩
  rw [hnx]
  exact r6
 have HEND : Hid (∀ W, EntS FS s d w W M t (P.take kl) -> ∃ d', Mach FS s d' W { M with here := { M.here with bk := t, bh := 0 }, phis := P } /\ Foo s d d' w W) := fun W hE => by
  have e : P.take kl = P := by rw [hkl, <- hPl]; exact List.take_length
  rw [e] at hE
  exact hE.out
 have hat1 : at_ = bsP b.preds (M.here.bk : Int) := by rw [hat]; unfold atP; rw [if_neg (by simp [hq])]; rfl
 have hw0 : 0 < tos.length := by omega
 obtain ⟨tb', to', et, htc0⟩ := st_int h.rest.agr hT hw0
 cases et
 rw [Nat.add_zero] at htc0
 obtain ⟨y9, hy9⟩ : ∃ y9, y9 = tos[0] := ⟨_, rfl⟩
 rw [<- hy9] at htc0
 have hcmp : (tos[0]? = tos[1]?) ↔ y9 = (t : Int) := by rw [e1, List.getElem?_eq_getElem hw0, <- hy9]; simp
 have HTO : Hid (∀ W, Below w1.heap.size w1 W -> W.cell? ⟨tb, to_, none⟩ = some (.int .i64 y9) /\ W.cell? ⟨tb, to_ + 1, none⟩ = some (.int .i64 (t : Int)) /\ tb < W.heap.size) := fun W hW => ⟨htc0 W (h1.below hW).rest.agr, htc W (h1.below hW).rest.agr, block_lt_of_cell (htc0 W (h1.below hW).rest.agr)⟩
 have hw0I : (0 : Int) < (tl : Int) := by omega
 have hyt : (y9 == (t : Int)) = false := by simpa using fun e => hq (hcmp.2 e)
 clear hcmp hy9 hw0 htc0 hq
 have hwnI : (1 : Int) < (tl : Int) := by omega
 have htlm : tl <= tc /\ tc <= 9223372036854775807 := by have := (hT w h.rest.agr).le; have := (hT w h.rest.agr).mx; omega
 have hkm : kl <= kc /\ kc <= 9223372036854775807 := by have := (hbi w h.rest.agr).1.le; have := (hbi w h.rest.agr).1.mx; omega
 have htb : tb < w.heap.size := block_lt_of_cell k0
 have hklb : kl <= 1000000000 := by omega
 have hbsl : bsP b.preds (M.here.bk : Int) <= 1000000000 := Nat.le_trans (bsP_le _ _) (by omega)
 have g34 := h1.cells.c34
 have g35 := h1.cells.c35
 have g36 : w1.cell? ⟨s.mb, 36, none⟩ = some (.int .i64 0) := h1.cells.c36
 have g37 := h1.cells.c37
 have g2 := h1.cells.lt
 have HB0 : Hid (Below w1.heap.size w1 w1) := Below.refl _ _
 clear e1 e2 hPl hPk hat hn hfe htn hbe hwn hwe hst hvs hbs hbc hbi htc h hT hpr hl hf c31 c32 c34 c37 c38 c39 c40 h1 f1 hnb hpl hkl ep ep2 hol hM hpb htl
 rw [<- hat1] at HBS hbsl
 clear hat1
 generalize s.mb = mb at *
 generalize s.fb = fb at *
 generalize s.hi = hi at *
 generalize s.fo + M.here.fi * 5 = q at *
 generalize (M.here.fst : Int) = fst at *
 obtain ⟨bkv, hbkv⟩ : ∃ bkv, bkv = (M.here.bk : Int) := ⟨_, rfl⟩
 rw [<- hbkv] at HBS c35
 clear hbkv
 go_enter Tryz.func72, Tryz.ntmps72
 go_upto_region 2 with fail
 rw [<- hw1]
 clear hw1 c35 c36 z35 z36 k0 hlt htb
 go_wp2_with (first
  | (go_at_call 44; refine Calls.mono HIN.out ?_; rintro e w2 ⟨rfl, b2⟩; obtain ⟨y0, y1, y2, y3⟩ := HBK.out w2 b2)
  | (go_at_call 114; refine (HBS.out _ b2).mono ?_; rintro e w3 ⟨tv, rfl, rfl⟩))
 obtain ⟨o0, o1, o2⟩ := HTO.out w3 b2
 go_quiet (fail)
 go_upto_region 6 with fail
 clear o0 o1 o2 HTO
 generalize hw4 : w3.drewN _ = w4
 have b4 : Below w1.heap.size w1 w4 := by rw [<- hw4]; exact below_drawn b2 _
 clear hw4 y0 y1 y2 y3 g34 g35 g36 g37 g2
 obtain ⟨y0, y1, y2, y3⟩ := HBK.out w4 b4
 obtain ⟨c40, z40, hE0, x0⟩ := HZ.out w4 b4
 have HE0 : Hid _ := hE0
 obtain ⟨w5, hw5⟩ : ∃ w5, w5 = w4.setCell ⟨mb, 40, none⟩ (.slice pa 0 pc) := ⟨_, rfl⟩
 rw [<- hw5] at HE0 x0
 have hbb5 : bb < w5.heap.size := block_lt_of_cell x0
 clear hE0 HZ HBK HIN HBS HB0
 go_upto_region 7 with fail
 rw [<- hw5]
 clear hw5 c40 z40 y0 y1 y2 y3 b4 b2
 go_wp2_with fail
 clear x0 hbb5
 go_loopw [75] (fun u wr => ∃ k : Nat, k <= kl /\ u = .int .i64 k /\ Hid (EntS FS s d w wr M t (P.take k))) (fun u _ => kl - (intOf u).toNat)
 case atStart => exact ⟨0, by omega, rfl, by simpa using HE0⟩
 case round =>
  clear HE0
  obtain ⟨k, hk, rfl, HK⟩ := hrel
  by_cases hlk : k < kl
  ·obtain ⟨kb, ko, p, v, a, x, pa, pc, vb, vo, nv, vc, xb, xo, xl, xc, ek, k5, hpn, hatl, S0, hmw, hnm, hxm, HNUM, HAFT⟩ := HSTEP.out k wr hlk HK.out
   subst ek
   obtain ⟨PK, hPK⟩ : ∃ PK, PK = P.take k := ⟨_, rfl⟩
   rw [<- hPK] at HAFT
   have hpl : k + 1 <= 17592186044416 := by omega
   have hkI : (k : Int) < (kl : Int) := by omega
   have hpI : (p : Int) < (nv : Int) := by omega
   have haI : (at_ : Int) < (xl : Int) := by omega
   have hkb : kb < wr.heap.size := block_lt_of_cell k5
   obtain ⟨pl, hplk⟩ : ∃ pl, pl = k := ⟨_, rfl⟩
   rw [<- hplk] at S0 HAFT hpl
   have HPL : Hid (pl = k) := hplk
   clear HK HSTEP HEND hPK hplk
   go_wp2_with fail
   refine led_start (S := EnS mb fb q pa pl pc vb vo nv vc p xb xo xl xc at_ a) (z := 29) (by kernel_rfl) ?_
   refine led_t (i := 0) (v := ?v0) rfl (by kernel_rfl) (.inl ⟨by rfl, ?hy0⟩) S0 ?rest0
   case hy0 =>
    rintro w' ⟨h1, h2, h3, h4, h5⟩
    go_simp
    all_goals with_reducible rfl
   try simp only [Act.put, List.getElem_toArray, List.getElem_cons_succ, List.getElem_cons_zero, List.setIfInBounds_toArray, List.set_cons_zero, List.set_cons_succ]
   refine led_t (i := 1) (v := ?v1) rfl (by kernel_rfl) (.inl ⟨by rfl, ?hy1⟩) S0 ?rest1
   case hy1 =>
    rintro w' ⟨h1, h2, h3, h4, h5⟩
    go_simp
    all_goals with_reducible rfl
   try simp only [Act.put, List.getElem_toArray, List.getElem_cons_succ, List.getElem_cons_zero, List.setIfInBounds_toArray, List.set_cons_zero, List.set_cons_succ]
   refine led_t (i := 2) (v := ?v2) rfl (by kernel_rfl) (.inl ⟨by rfl, ?hy2⟩) S0 ?rest2
   case hy2 =>
    rintro w' ⟨h1, h2, h3, h4, h5⟩
    go_simp
    all_goals with_reducible rfl
   try simp only [Act.put, List.getElem_toArray, List.getElem_cons_succ, List.getElem_cons_zero, List.setIfInBounds_toArray, List.set_cons_zero, List.set_cons_succ]
   refine led_t (i := 3) (v := ?v3) rfl (by kernel_rfl) (.inl ⟨by rfl, ?hy3⟩) S0 ?rest3
   case hy3 =>
    rintro w' ⟨h1, h2, h3, h4, h5⟩
    go_simp
    all_goals with_reducible rfl
   try simp only [Act.put, List.getElem_toArray, List.getElem_cons_succ, List.getElem_cons_zero, List.setIfInBounds_toArray, List.set_cons_zero, List.set_cons_succ]
   refine led_t (i := 4) (v := ?v4) rfl (by kernel_rfl) (.inl ⟨by rfl, ?hy4⟩) S0 ?rest4
   case hy4 =>
    rintro w' ⟨h1, h2, h3, h4, h5⟩
    go_simp
    all_goals with_reducible rfl
   try simp only [Act.put, List.getElem_toArray, List.getElem_cons_succ, List.getElem_cons_zero, List.setIfInBounds_toArray, List.set_cons_zero, List.set_cons_succ]
   refine led_t (i := 5) (v := ?v5) rfl (by kernel_rfl) (.inl ⟨by rfl, ?hy5⟩) S0 ?rest5
   case hy5 =>
    rintro w' ⟨h1, h2, h3, h4, h5⟩
    go_simp
    all_goals with_reducible rfl
   try simp only [Act.put, List.getElem_toArray, List.getElem_cons_succ, List.getElem_cons_zero, List.setIfInBounds_toArray, List.set_cons_zero, List.set_cons_succ]
   refine led_t (i := 6) (v := ?v6) rfl (by kernel_rfl) (.inl ⟨by rfl, ?hy6⟩) S0 ?rest6
   case hy6 =>
    rintro w' ⟨h1, h2, h3, h4, h5⟩
    go_simp
    all_goals with_reducible rfl
   try simp only [Act.put, List.getElem_toArray, List.getElem_cons_succ, List.getElem_cons_zero, List.setIfInBounds_toArray, List.set_cons_zero, List.set_cons_succ]
   refine led_t (i := 7) (v := ?v7) rfl (by kernel_rfl) (.inl ⟨by rfl, ?hy7⟩) S0 ?rest7
   case hy7 =>
    rintro w' ⟨h1, h2, h3, h4, h5⟩
    go_simp
    all_goals with_reducible rfl
   try simp only [Act.put, List.getElem_toArray, List.getElem_cons_succ, List.getElem_cons_zero, List.setIfInBounds_toArray, List.set_cons_zero, List.set_cons_succ]
   refine led_t (i := 8) (v := ?v8) rfl (by kernel_rfl) (.inl ⟨by rfl, ?hy8⟩) S0 ?rest8
   case hy8 =>
    rintro w' ⟨h1, h2, h3, h4, h5⟩
    go_simp
    all_goals with_reducible rfl
   try simp only [Act.put, List.getElem_toArray, List.getElem_cons_succ, List.getElem_cons_zero, List.setIfInBounds_toArray, List.set_cons_zero, List.set_cons_succ]
   refine led_t (i := 9) (v := ?v9) rfl (by kernel_rfl) (.inl ⟨by rfl, ?hy9⟩) S0 ?rest9
   case hy9 =>
    rintro w' ⟨h1, h2, h3, h4, h5⟩
    go_simp
    all_goals with_reducible rfl
   try simp only [Act.put, List.getElem_toArray, List.getElem_cons_succ, List.getElem_cons_zero, List.setIfInBounds_toArray, List.set_cons_zero, List.set_cons_succ]
   refine led_t (i := 10) (v := ?v10) rfl (by kernel_rfl) (.inl ⟨by rfl, ?hy10⟩) S0 ?rest10
   case hy10 =>
    rintro w' ⟨h1, h2, h3, h4, h5⟩
    go_simp
    all_goals with_reducible rfl
   try simp only [Act.put, List.getElem_toArray, List.getElem_cons_succ, List.getElem_cons_zero, List.setIfInBounds_toArray, List.set_cons_zero, List.set_cons_succ]
   refine led_t (i := 11) (v := ?v11) rfl (by kernel_rfl) (.inl ⟨by rfl, ?hy11⟩) S0 ?rest11
   case hy11 =>
    rintro w' ⟨h1, h2, h3, h4, h5⟩
    go_simp
    all_goals with_reducible rfl
   try simp only [Act.put, List.getElem_toArray, List.getElem_cons_succ, List.getElem_cons_zero, List.setIfInBounds_toArray, List.set_cons_zero, List.set_cons_succ]
   refine led_t (i := 12) (v := ?v12) rfl (by kernel_rfl) (.inl ⟨by rfl, ?hy12⟩) S0 ?rest12
   case hy12 =>
    rintro w' ⟨h1, h2, h3, h4, h5⟩
    go_simp
    all_goals with_reducible rfl
   try simp only [Act.put, List.getElem_toArray, List.getElem_cons_succ, List.getElem_cons_zero, List.setIfInBounds_toArray, List.set_cons_zero, List.set_cons_succ]
   refine led_t (i := 13) (v := ?v13) rfl (by kernel_rfl) (.inl ⟨by rfl, ?hy13⟩) S0 ?rest13
   case hy13 =>
    rintro w' ⟨h1, h2, h3, h4, h5⟩
    go_simp
    all_goals with_reducible rfl
   try simp only [Act.put, List.getElem_toArray, List.getElem_cons_succ, List.getElem_cons_zero, List.setIfInBounds_toArray, List.set_cons_zero, List.set_cons_succ]
   refine led_t (i := 14) (v := ?v14) rfl (by kernel_rfl) (.inl ⟨by rfl, ?hy14⟩) S0 ?rest14
   case hy14 =>
    rintro w' ⟨h1, h2, h3, h4, h5⟩
    go_simp
    all_goals with_reducible rfl
   try simp only [Act.put, List.getElem_toArray, List.getElem_cons_succ, List.getElem_cons_zero, List.setIfInBounds_toArray, List.set_cons_zero, List.set_cons_succ]
   refine led_t (i := 15) (v := ?v15) rfl (by kernel_rfl) (.inl ⟨by rfl, ?hy15⟩) S0 ?rest15
   case hy15 =>
    rintro w' ⟨h1, h2, h3, h4, h5⟩
    go_simp
    all_goals with_reducible rfl
   try simp only [Act.put, List.getElem_toArray, List.getElem_cons_succ, List.getElem_cons_zero, List.setIfInBounds_toArray, List.set_cons_zero, List.set_cons_succ]
   refine led_t (i := 16) (v := ?v16) rfl (by kernel_rfl) (.inl ⟨by rfl, ?hy16⟩) S0 ?rest16
   case hy16 =>
    rintro w' ⟨h1, h2, h3, h4, h5⟩
    go_simp
    all_goals with_reducible rfl
   try simp only [Act.put, List.getElem_toArray, List.getElem_cons_succ, List.getElem_cons_zero, List.setIfInBounds_toArray, List.set_cons_zero, List.set_cons_succ]
   refine led_t (i := 17) (v := ?v17) rfl (by kernel_rfl) (.inl ⟨by rfl, ?hy17⟩) S0 ?rest17
   case hy17 =>
    rintro w' ⟨h1, h2, h3, h4, h5⟩
    go_simp
    all_goals with_reducible rfl
   try simp only [Act.put, List.getElem_toArray, List.getElem_cons_succ, List.getElem_cons_zero, List.setIfInBounds_toArray, List.set_cons_zero, List.set_cons_succ]
   refine led_t (i := 18) (v := ?v18) rfl (by kernel_rfl) (.inl ⟨by rfl, ?hy18⟩) S0 ?rest18
   case hy18 =>
    rintro w' ⟨h1, h2, h3, h4, h5⟩
    go_simp
    all_goals with_reducible rfl
   try simp only [Act.put, List.getElem_toArray, List.getElem_cons_succ, List.getElem_cons_zero, List.setIfInBounds_toArray, List.set_cons_zero, List.set_cons_succ]
   refine led_t (i := 19) (v := ?v19) rfl (by kernel_rfl) (.inl ⟨by rfl, ?hy19⟩) S0 ?rest19
   case hy19 =>
    rintro w' ⟨h1, h2, h3, h4, h5⟩
    go_simp
    all_goals with_reducible rfl
   try simp only [Act.put, List.getElem_toArray, List.getElem_cons_succ, List.getElem_cons_zero, List.setIfInBounds_toArray, List.set_cons_zero, List.set_cons_succ]
   refine led_t (i := 20) (v := ?v20) rfl (by kernel_rfl) (.inl ⟨by rfl, ?hy20⟩) S0 ?rest20
   case hy20 =>
    rintro w' ⟨h1, h2, h3, h4, h5⟩
    go_simp
    all_goals with_reducible rfl
   try simp only [Act.put, List.getElem_toArray, List.getElem_cons_succ, List.getElem_cons_zero, List.setIfInBounds_toArray, List.set_cons_zero, List.set_cons_succ]
   refine led_t (i := 21) (v := ?v21) rfl (by kernel_rfl) (.inl ⟨by rfl, ?hy21⟩) S0 ?rest21
   case hy21 =>
    rintro w' ⟨h1, h2, h3, h4, h5⟩
    go_simp
    all_goals with_reducible rfl
   try simp only [Act.put, List.getElem_toArray, List.getElem_cons_succ, List.getElem_cons_zero, List.setIfInBounds_toArray, List.set_cons_zero, List.set_cons_succ]
   refine led_t (i := 22) (v := ?v22) rfl (by kernel_rfl) (.inl ⟨by rfl, ?hy22⟩) S0 ?rest22
   case hy22 =>
    rintro w' ⟨h1, h2, h3, h4, h5⟩
    go_simp
    all_goals with_reducible rfl
   try simp only [Act.put, List.getElem_toArray, List.getElem_cons_succ, List.getElem_cons_zero, List.setIfInBounds_toArray, List.set_cons_zero, List.set_cons_succ]
   refine led_one (i := 23) rfl (by kernel_rfl) ?_
   intro K1 hK1
   rw [if_pos (by rfl)]
   go_simp
   refine Calls.mono HNUM.out ?_
   rintro e w2 ⟨rfl, b2⟩
   obtain ⟨SA, SB, ON, hsz, hput⟩ := HAFT.out w2 b2
   have HON : Hid _ := ON
   have PUT : Hid _ := hput
   clear ON hput
   refine hK1 _ _ (fun _ => SA) ?_
   clear hK1
   try simp only [Act.put, List.getElem_toArray, List.getElem_cons_succ, List.getElem_cons_zero, List.setIfInBounds_toArray, List.set_cons_zero, List.set_cons_succ]
   refine led_one (i := 24) rfl (by kernel_rfl) ?_
   intro K2 hK2
   rw [if_pos (by rfl)]
   go_simp
   refine hK2 _ _ (fun _ => SB) ?_
   clear hK2
   try simp only [Act.put, List.getElem_toArray, List.getElem_cons_succ, List.getElem_cons_zero, List.setIfInBounds_toArray, List.set_cons_zero, List.set_cons_succ]
   refine led_one (i := 25) rfl (by kernel_rfl) ?_
   intro K3 hK3
   refine step_append_intG rfl _ _ rfl hi (.slice pa pl pc) pl PK x (by simp [Act.eval]) HON.out w2.heap.size (by simp [Act.eval]) (by simp) hpl hsz ?_
   intro v6 w6 h6 g6
   obtain ⟨S6, F6, X6, N6⟩ := PUT.out v6 w6 h6 g6
   have P6 : Hid _ := N6
   refine hK3 _ _ (fun _ => S6) ?_
   clear hK3 N6
   obtain ⟨a6, c6, e6, _, _⟩ := own_slice h6.out
   subst e6
   have T6 := S6.h2
   clear h6 g6
   try simp only [Act.put, List.getElem_toArray, List.getElem_cons_succ, List.getElem_cons_zero, List.setIfInBounds_toArray, List.set_cons_zero, List.set_cons_succ]
   refine led_one (i := 26) rfl (by kernel_rfl) ?_
   intro K4 hK4
   rw [if_pos (by rfl)]
   go_simp
   refine hK4 _ _ (fun _ => S6) ?_
   clear hK4
   try simp only [Act.put, List.getElem_toArray, List.getElem_cons_succ, List.getElem_cons_zero, List.setIfInBounds_toArray, List.set_cons_zero, List.set_cons_succ]
   refine led_one (i := 27) rfl (by kernel_rfl) ?_
   intro K5 hK5
   rw [if_pos (by rfl)]
   go_simp
   refine hK5 _ _ (fun _ => S6) ?_
   clear hK5
   try simp only [Act.put, List.getElem_toArray, List.getElem_cons_succ, List.getElem_cons_zero, List.setIfInBounds_toArray, List.set_cons_zero, List.set_cons_succ]
   refine led_one (i := 28) rfl (by kernel_rfl) ?_
   intro K6 hK6
   rw [if_pos (by rfl)]
   go_simp
   refine hK6 _ _ (fun _ => S6) ?_
   clear hK6
   try simp only [Act.put, List.getElem_toArray, List.getElem_cons_succ, List.getElem_cons_zero, List.setIfInBounds_toArray, List.set_cons_zero, List.set_cons_succ]
   refine led_one (i := 29) rfl (by kernel_rfl) ?_
   intro K7 hK7
   rw [if_pos (by rfl)]
   go_simp
   refine hK7 _ _ (fun h => absurd rfl h) ?_
   clear hK7
   refine led_done (by kernel_rfl) ?_
   go_wp2_with fail
   go_roundw
   case rel => exact ⟨k + 1, by omega, by go_num, by rw [<- HPL.out]; exact P6.out⟩
   case measure => simp [intOf]; omega
  ·have hkn : k = kl := by omega
   subst hkn
   have H9 : Hid _ := HEND.out wr HK.out
   clear HK HSTEP HEND
   go_wp2_with fail
   exact bodyPost_end (v := .tuple #[]) (by simp [results, Tryz.results72, go_sem]) rfl ⟨rfl, H9.out⟩
set_option maxRecDepth 100000 in
set_option maxHeartbeats 4000000 in
theorem mEnter_1e {FS s d w M} (h : Mach FS s d w M) (f : Fu) (hf : FS[M.here.fi]? = some f) (ta : Option Addr) (tl tc : Nat) (tos : List Int) (htl : tl = tos.length) (hT : ∀ W, Agr s W -> Ints W ta tc tos) (M' : Ms) (hM : M.enter f tos 1 = some M') (hq : tos[0]? = tos[1]?) (hl : M.nums.length <= 1000000000000) (hpr : ∀ b ∈ f.blks, b.preds.length <= 1000000000 /\ b.phis.length <= 1000000000) :
 Calls Tryz.prog 72 #[.pointer (some ⟨s.mb, 0, none⟩), .slice ta tl tc, .int .i64 1] w fun e w' => e = .returned (.tuple #[]) /\ ∃ d', Mach FS s d' w' M' /\ Foo s d d' w w' := by
 obtain ⟨t, b, P, e1, e2, rfl, hPl, hPk⟩ := enter_spec hM
 obtain ⟨at_, hat⟩ : ∃ at_, at_ = atP M b tos 1 := ⟨_, rfl⟩
 rw [<- hat] at hPk
 have hn : M.here.fi < FS.length := (List.getElem?_eq_some_iff.1 hf).1
 have hfe : FS[M.here.fi] = f := (List.getElem?_eq_some_iff.1 hf).2
 have htn : t < f.blks.length := (List.getElem?_eq_some_iff.1 e2).1
 have hbe : f.blks[t] = b := (List.getElem?_eq_some_iff.1 e2).2
 have hwn : 1 < tos.length := (List.getElem?_eq_some_iff.1 e1).1
 have hwe : tos[1] = (t : Int) := (List.getElem?_eq_some_iff.1 e1).2
 obtain ⟨_, _, la, lc, ma, mc, hst, u1, hvs, hbs⟩ := st_fu h.rest.agr h.rest.fus hn
 clear u1
 rw [hfe] at hst hvs hbs
 obtain ⟨bb, bo, ka, kc, xa, xc, ya, yc, na, nc, rfl, hbc, hbi⟩ := st_bk h.rest.agr hbs htn
 rw [hbe] at hbc hbi
 obtain ⟨tb, to_, rfl, htc⟩ := st_int h.rest.agr hT hwn
 rw [hwe] at htc
 obtain ⟨c31, c32, c34, c35, c36, c37, c38, c39, c40, hlt⟩ := h.cells
 have z35 := h.told.fz 35
 have z36 := h.told.fz 36
 have k0 := htc w h.rest.agr
 try rw [Nat.add_zero] at k0
 have hpb := hpr b (List.mem_of_getElem? e2)
 obtain ⟨w1, hw1⟩ : ∃ w1, w1 = (w.setCell ⟨s.mb, 35, none⟩ (.int .i64 (t : Int))).setCell ⟨s.mb, 36, none⟩ (.int .i64 0) := ⟨_, rfl⟩
 have h1 : Mach FS s d w1 { M with here := { M.here with bk := t, bh := 0 } } := by
  rw [hw1]; exact ⟨box_at (box_at h.box rfl) rfl, (h.rest.set 35 _).set 36 _⟩
 have f1 : Foo s d d w w1 := by rw [hw1]; exact (Foo.set s d w 35 _).trans (Foo.set s d _ 36 _)
 obtain ⟨nb, hnb⟩ : ∃ nb, nb = f.blks.length := ⟨_, rfl⟩
 have HIN : Hid (Calls Tryz.prog 44 #[.agg #[.pointer (some ⟨s.fb, s.fo + M.here.fi * 5, none⟩), .int .i64 (t : Int), .int .i64 0, .int .i64 (M.here.fst : Int)]] w1 fun e w' => e = .returned (.pointer (some ⟨bb, bo + t * 6, none⟩)) /\ Below w1.heap.size w1 w') := mIn_any w1 (bh := 0) (hst w1 h1.rest.agr).2.2 htn (by have := (hbs w1 h1.rest.agr).le; have := (hbs w1 h1.rest.agr).mx; omega)
 obtain ⟨pl, hpl⟩ : ∃ pl, pl = b.preds.length := ⟨_, rfl⟩
 obtain ⟨kl, hkl⟩ : ∃ kl, kl = b.phis.length := ⟨_, rfl⟩
 have HBK : Hid (∀ W, Below w1.heap.size w1 W -> W.cell? ⟨bb, bo + t * 6, none⟩ = some (.slice ka kl kc) /\ W.cell? ⟨bb, bo + t * 6 + 5, none⟩ = some (.slice na pl nc) /\ bb < W.heap.size /\ s.mb < W.heap.size) := fun W hW => by
  have q := hbc W (h1.below hW).rest.agr
  rw [hkl, hpl]
  exact ⟨q.1, q.2.2.2.2.2, block_lt_of_cell q.1, (h1.below hW).cells.lt⟩
 have HBS : Hid (∀ W, Below w1.heap.size w1 W -> Calls Tryz.prog 114 #[.slice na pl nc, .int .i64 (M.here.bk : Int)] W fun e w' => ∃ t, e = .returned (.tuple #[.int .i64 (bsP b.preds (M.here.bk : Int) : Int), .bool t]) /\ w' = W) := fun W hW => bs_any W na pl nc b.preds hpl (hbi W (h1.below hW).rest.agr).2.2.2 _ (by omega)
 obtain ⟨pa, pc, ep, _, hpc2⟩ := own_slice h1.rest.phis.out
 have ep2 : d.vp = .slice pa M.phis.length pc := ep
 obtain ⟨ol, hol⟩ : ∃ ol, ol = M.phis.length := ⟨_, rfl⟩
 rw [<- hol] at ep2
 have hopc : ol <= pc := by rw [hol]; assumption
 have HZ : Hid (∀ W, Below w1.heap.size w1 W -> W.cell? ⟨s.mb, 40, none⟩ = some (.slice pa ol pc) /\ W.frozen? ⟨s.mb, 40, none⟩ = false /\ EntS FS s d w (W.setCell ⟨s.mb, 40, none⟩ (.slice pa 0 pc)) M t [] /\ (W.setCell ⟨s.mb, 40, none⟩ (.slice pa 0 pc)).cell? ⟨bb, bo + t * 6, none⟩ = some (.slice ka kl kc)) := fun W hW => by
  have q := h1.below hW
  have O : OwnI W s.hi (.slice pa ol pc) ol M.phis := by have := q.rest.phis; rw [ep2] at this; rw [hol] at this ⊢; exact this
  have R := q.rest.setPhis (w' := W) (v' := .slice pa 0 pc) (phis' := []) ⟨Below.refl _ _, fun _ _ _ => rfl, fun g hg => .inl (by rw [ep2]; cases pa <;> exact hg)⟩ O.zero
  refine ⟨by rw [<- ep2]; exact q.cells.c40, fz_of q.box, ⟨{ d with vp := .slice pa 0 pc }, ⟨box_at q.box rfl, R.1.set 40 _⟩, f1.trans ((Foo.of_below hW).trans (R.2.2.trans (Foo.set s _ W 40 _)))⟩, ?_⟩
  rw [hkl]; exact (hbc _ (R.1.set 40 _).agr).1
 have HSTEP : Hid (∀ (k : Nat) (W : World), k < kl -> EntS FS s d w W M t (P.take k) -> ∃ (kb ko p : Nat) (v : Vl) (a : Nat) (x : Int) (pa : Option Addr) (pc vb vo nv vc xb xo xl xc : Nat), ka = some ⟨kb, ko, none⟩ /\ W.cell? ⟨kb, ko + k, none⟩ = some (.int .i64 (p : Int)) /\ p < nv /\ at_ < xl /\ EnS s.mb s.fb (s.fo + M.here.fi * 5) pa k pc vb vo nv vc p xb xo xl xc at_ a W.drew /\ s.mb < W.heap.size /\ nv <= 9223372036854775807 /\ xl <= 9223372036854775807 /\ Hid (Calls Tryz.prog 73 #[.pointer (some ⟨s.mb, 0, none⟩), .int .i64 (a : Int)] W.drew fun e w' => e = .returned (.int .i64 x) /\ Below W.heap.size W w')
  /\ Hid (∀ w2, Below W.heap.size W w2 -> EnS s.mb s.fb (s.fo + M.here.fi * 5) pa k pc vb vo nv vc p xb xo xl xc at_ a w2 /\ EnS s.mb s.fb (s.fo + M.here.fi * 5) pa k pc vb vo nv vc p xb xo xl xc at_ a (w2.alloc (.cells #[.int .i64 x] 3)) /\ OwnI (w2.alloc (.cells #[.int .i64 x] 3)) s.hi (.slice pa k pc) k (P.take k) /\ s.hi <= (w2.alloc (.cells #[.int .i64 x] 3)).heap.size
    /\ ∀ v6 w6, OwnI w6 s.hi v6 (k + 1) (P.take k ++ [x]) -> GI s.hi (w2.alloc (.cells #[.int .i64 x] 3)) w6 (.slice pa k pc) v6 -> EnS s.mb s.fb (s.fo + M.here.fi * 5) pa k pc vb vo nv vc p xb xo xl xc at_ a w6 /\ w6.frozen? ⟨s.mb, 40, none⟩ = false /\ s.mb < w6.heap.size /\ EntS FS s d w (w6.setCell ⟨s.mb, 40, none⟩ v6) M t (P.take (k + 1)))) := by
  intro k W hk hE
  have hkb : k < b.phis.length := by omega
  have hkP : k < P.length := by omega
  obtain ⟨p, v, a, x, q1, q2, q3, q4, q5⟩ := hPk k hkb
  have hlen : (P.take k).length = k := by simp; omega
  have hnx : P.take k ++ [x] = P.take (k + 1) := by
   have hx5 : P[k] = x := (List.getElem?_eq_some_iff.1 q5).2
   rw [<- hx5, List.take_append_getElem hkP]
  obtain ⟨d5, hm5, _⟩ := hE.out
  obtain ⟨kb, ko, ek, hkc⟩ := st_int h.rest.agr (fun W hW => (hbi W hW).1) hkb
  have k5 := hkc W hm5.rest.agr
  rw [q1] at k5
  obtain ⟨pa, pc, vb, vo, vc, xb, xo, xc, r1, r2, r3, r4, r5, r6⟩ := hE.next hf q2 q3 q4 hl (by rw [hlen]; omega)
  rw [hlen] at r1 r6
  rw [hnx] at r6
  refine ⟨kb, ko, p, v, a, x, pa, pc, vb, vo, _, vc, xb, xo, _, xc, ek, k5, (List.getElem?_eq_some_iff.1 q2).1, (List.getElem?_eq_some_iff.1 q3).1, r1, r2, r3, r4, r5, ?_⟩
  rw [hnx]
  exact r6
 have HEND : Hid (∀ W, EntS FS s d w W M t (P.take kl) -> ∃ d', Mach FS s d' W { M with here := { M.here with bk := t, bh := 0 }, phis := P } /\ Foo s d d' w W) := fun W hE => by
  have e : P.take kl = P := by rw [hkl, <- hPl]; exact List.take_length
  rw [e] at hE
  exact hE.out
 have hat1 : at_ = bsP b.preds (M.here.bk : Int) + 1 := by rw [hat]; unfold atP; rw [if_pos ⟨rfl, hq⟩]
 have hw0 : 0 < tos.length := by omega
 obtain ⟨tb', to', et, htc0⟩ := st_int h.rest.agr hT hw0
 cases et
 rw [Nat.add_zero] at htc0
 obtain ⟨y9, hy9⟩ : ∃ y9, y9 = tos[0] := ⟨_, rfl⟩
 rw [<- hy9] at htc0
 have hcmp : (tos[0]? = tos[1]?) ↔ y9 = (t : Int) := by rw [e1, List.getElem?_eq_getElem hw0, <- hy9]; simp
 have HTO : Hid (∀ W, Below w1.heap.size w1 W -> W.cell? ⟨tb, to_, none⟩ = some (.int .i64 y9) /\ W.cell? ⟨tb, to_ + 1, none⟩ = some (.int .i64 (t : Int)) /\ tb < W.heap.size) := fun W hW => ⟨htc0 W (h1.below hW).rest.agr, htc W (h1.below hW).rest.agr, block_lt_of_cell (htc0 W (h1.below hW).rest.agr)⟩
 have hw0I : (0 : Int) < (tl : Int) := by omega
 have hyt : (y9 == (t : Int)) = true := by simpa using hcmp.1 hq
 clear hcmp hy9 hw0 htc0 hq
 have hwnI : (1 : Int) < (tl : Int) := by omega
 have htlm : tl <= tc /\ tc <= 9223372036854775807 := by have := (hT w h.rest.agr).le; have := (hT w h.rest.agr).mx; omega
 have hkm : kl <= kc /\ kc <= 9223372036854775807 := by have := (hbi w h.rest.agr).1.le; have := (hbi w h.rest.agr).1.mx; omega
 have htb : tb < w.heap.size := block_lt_of_cell k0
 have hklb : kl <= 1000000000 := by omega
 have hbsl : bsP b.preds (M.here.bk : Int) <= 1000000000 := Nat.le_trans (bsP_le _ _) (by omega)
 have g34 := h1.cells.c34
 have g35 := h1.cells.c35
 have g36 : w1.cell? ⟨s.mb, 36, none⟩ = some (.int .i64 0) := h1.cells.c36
 have g37 := h1.cells.c37
 have g2 := h1.cells.lt
 have HB0 : Hid (Below w1.heap.size w1 w1) := Below.refl _ _
 clear e1 e2 hPl hPk hat hn hfe htn hbe hwn hwe hst hvs hbs hbc hbi htc h hT hpr hl hf c31 c32 c34 c37 c38 c39 c40 h1 f1 hnb hpl hkl ep ep2 hol hM hpb htl
 obtain ⟨bs, hbs⟩ : ∃ bs, bs = bsP b.preds (M.here.bk : Int) := ⟨_, rfl⟩
 rw [<- hbs] at HBS hbsl hat1
 have HA1 : Hid ((bs : Int) + 1 = (at_ : Int)) := by show _ = _; omega
 have hwb : IntKind.i64.wrap ((bs : Int) + 1) = (bs : Int) + 1 := by rw [IntKind.wrap_i64]; omega
 clear hbs hat1
 generalize s.mb = mb at *
 generalize s.fb = fb at *
 generalize s.hi = hi at *
 generalize s.fo + M.here.fi * 5 = q at *
 generalize (M.here.fst : Int) = fst at *
 obtain ⟨bkv, hbkv⟩ : ∃ bkv, bkv = (M.here.bk : Int) := ⟨_, rfl⟩
 rw [<- hbkv] at HBS c35
 clear hbkv
 go_enter Tryz.func72, Tryz.ntmps72
 go_upto_region 2 with fail
 rw [<- hw1]
 clear hw1 c35 c36 z35 z36 k0 hlt htb
 go_wp2_with (first
  | (go_at_call 44; refine Calls.mono HIN.out ?_; rintro e w2 ⟨rfl, b2⟩; obtain ⟨y0, y1, y2, y3⟩ := HBK.out w2 b2)
  | (go_at_call 114; refine (HBS.out _ b2).mono ?_; rintro e w3 ⟨tv, rfl, rfl⟩))
 obtain ⟨o0, o1, o2⟩ := HTO.out w3 b2
 go_quiet (fail)
 go_upto_region 6 with fail
 rw [HA1.out]
 clear o0 o1 o2 HTO HA1 hwb
 generalize hw4 : w3.drewN _ = w4
 have b4 : Below w1.heap.size w1 w4 := by rw [<- hw4]; exact below_drawn b2 _
 clear hw4 y0 y1 y2 y3 g34 g35 g36 g37 g2
 obtain ⟨y0, y1, y2, y3⟩ := HBK.out w4 b4
 obtain ⟨c40, z40, hE0, x0⟩ := HZ.out w4 b4
 have HE0 : Hid _ := hE0
 obtain ⟨w5, hw5⟩ : ∃ w5, w5 = w4.setCell ⟨mb, 40, none⟩ (.slice pa 0 pc) := ⟨_, rfl⟩
 rw [<- hw5] at HE0 x0
 have hbb5 : bb < w5.heap.size := block_lt_of_cell x0
 clear hE0 HZ HBK HIN HBS HB0
 go_upto_region 7 with fail
 rw [<- hw5]
 clear hw5 c40 z40 y0 y1 y2 y3 b4 b2
 go_wp2_with fail
 clear x0 hbb5
 go_loopw [75] (fun u wr => ∃ k : Nat, k <= kl /\ u = .int .i64 k /\ Hid (EntS FS s d w wr M t (P.take k))) (fun u _ => kl - (intOf u).toNat)
 case atStart => exact ⟨0, by omega, rfl, by simpa using HE0⟩
 case round =>
  clear HE0
  obtain ⟨k, hk, rfl, HK⟩ := hrel
  by_cases hlk : k < kl
  ·obtain ⟨kb, ko, p, v, a, x, pa, pc, vb, vo, nv, vc, xb, xo, xl, xc, ek, k5, hpn, hatl, S0, hmw, hnm, hxm, HNUM, HAFT⟩ := HSTEP.out k wr hlk HK.out
   subst ek
   obtain ⟨PK, hPK⟩ : ∃ PK, PK = P.take k := ⟨_, rfl⟩
   rw [<- hPK] at HAFT
   have hpl : k + 1 <= 17592186044416 := by omega
   have hkI : (k : Int) < (kl : Int) := by omega
   have hpI : (p : Int) < (nv : Int) := by omega
   have haI : (at_ : Int) < (xl : Int) := by omega
   have hkb : kb < wr.heap.size := block_lt_of_cell k5
   obtain ⟨pl, hplk⟩ : ∃ pl, pl = k := ⟨_, rfl⟩
   rw [<- hplk] at S0 HAFT hpl
   have HPL : Hid (pl = k) := hplk
   clear HK HSTEP HEND hPK hplk
   go_wp2_with fail
   refine led_start (S := EnS mb fb q pa pl pc vb vo nv vc p xb xo xl xc at_ a) (z := 29) (by kernel_rfl) ?_
   refine led_t (i := 0) (v := ?v0) rfl (by kernel_rfl) (.inl ⟨by rfl, ?hy0⟩) S0 ?rest0
   case hy0 =>
    rintro w' ⟨h1, h2, h3, h4, h5⟩
    go_simp
    all_goals with_reducible rfl
   try simp only [Act.put, List.getElem_toArray, List.getElem_cons_succ, List.getElem_cons_zero, List.setIfInBounds_toArray, List.set_cons_zero, List.set_cons_succ]
   refine led_t (i := 1) (v := ?v1) rfl (by kernel_rfl) (.inl ⟨by rfl, ?hy1⟩) S0 ?rest1
   case hy1 =>
    rintro w' ⟨h1, h2, h3, h4, h5⟩
    go_simp
    all_goals with_reducible rfl
   try simp only [Act.put, List.getElem_toArray, List.getElem_cons_succ, List.getElem_cons_zero, List.setIfInBounds_toArray, List.set_cons_zero, List.set_cons_succ]
   refine led_t (i := 2) (v := ?v2) rfl (by kernel_rfl) (.inl ⟨by rfl, ?hy2⟩) S0 ?rest2
   case hy2 =>
    rintro w' ⟨h1, h2, h3, h4, h5⟩
    go_simp
    all_goals with_reducible rfl
   try simp only [Act.put, List.getElem_toArray, List.getElem_cons_succ, List.getElem_cons_zero, List.setIfInBounds_toArray, List.set_cons_zero, List.set_cons_succ]
   refine led_t (i := 3) (v := ?v3) rfl (by kernel_rfl) (.inl ⟨by rfl, ?hy3⟩) S0 ?rest3
   case hy3 =>
    rintro w' ⟨h1, h2, h3, h4, h5⟩
    go_simp
    all_goals with_reducible rfl
   try simp only [Act.put, List.getElem_toArray, List.getElem_cons_succ, List.getElem_cons_zero, List.setIfInBounds_toArray, List.set_cons_zero, List.set_cons_succ]
   refine led_t (i := 4) (v := ?v4) rfl (by kernel_rfl) (.inl ⟨by rfl, ?hy4⟩) S0 ?rest4
   case hy4 =>
    rintro w' ⟨h1, h2, h3, h4, h5⟩
    go_simp
    all_goals with_reducible rfl
   try simp only [Act.put, List.getElem_toArray, List.getElem_cons_succ, List.getElem_cons_zero, List.setIfInBounds_toArray, List.set_cons_zero, List.set_cons_succ]
   refine led_t (i := 5) (v := ?v5) rfl (by kernel_rfl) (.inl ⟨by rfl, ?hy5⟩) S0 ?rest5
   case hy5 =>
    rintro w' ⟨h1, h2, h3, h4, h5⟩
    go_simp
    all_goals with_reducible rfl
   try simp only [Act.put, List.getElem_toArray, List.getElem_cons_succ, List.getElem_cons_zero, List.setIfInBounds_toArray, List.set_cons_zero, List.set_cons_succ]
   refine led_t (i := 6) (v := ?v6) rfl (by kernel_rfl) (.inl ⟨by rfl, ?hy6⟩) S0 ?rest6
   case hy6 =>
    rintro w' ⟨h1, h2, h3, h4, h5⟩
    go_simp
    all_goals with_reducible rfl
   try simp only [Act.put, List.getElem_toArray, List.getElem_cons_succ, List.getElem_cons_zero, List.setIfInBounds_toArray, List.set_cons_zero, List.set_cons_succ]
   refine led_t (i := 7) (v := ?v7) rfl (by kernel_rfl) (.inl ⟨by rfl, ?hy7⟩) S0 ?rest7
   case hy7 =>
    rintro w' ⟨h1, h2, h3, h4, h5⟩
    go_simp
    all_goals with_reducible rfl
   try simp only [Act.put, List.getElem_toArray, List.getElem_cons_succ, List.getElem_cons_zero, List.setIfInBounds_toArray, List.set_cons_zero, List.set_cons_succ]
   refine led_t (i := 8) (v := ?v8) rfl (by kernel_rfl) (.inl ⟨by rfl, ?hy8⟩) S0 ?rest8
   case hy8 =>
    rintro w' ⟨h1, h2, h3, h4, h5⟩
    go_simp
    all_goals with_reducible rfl
   try simp only [Act.put, List.getElem_toArray, List.getElem_cons_succ, List.getElem_cons_zero, List.setIfInBounds_toArray, List.set_cons_zero, List.set_cons_succ]
   refine led_t (i := 9) (v := ?v9) rfl (by kernel_rfl) (.inl ⟨by rfl, ?hy9⟩) S0 ?rest9
   case hy9 =>
    rintro w' ⟨h1, h2, h3, h4, h5⟩
    go_simp
    all_goals with_reducible rfl
   try simp only [Act.put, List.getElem_toArray, List.getElem_cons_succ, List.getElem_cons_zero, List.setIfInBounds_toArray, List.set_cons_zero, List.set_cons_succ]
   refine led_t (i := 10) (v := ?v10) rfl (by kernel_rfl) (.inl ⟨by rfl, ?hy10⟩) S0 ?rest10
   case hy10 =>
    rintro w' ⟨h1, h2, h3, h4, h5⟩
    go_simp
    all_goals with_reducible rfl
   try simp only [Act.put, List.getElem_toArray, List.getElem_cons_succ, List.getElem_cons_zero, List.setIfInBounds_toArray, List.set_cons_zero, List.set_cons_succ]
   refine led_t (i := 11) (v := ?v11) rfl (by kernel_rfl) (.inl ⟨by rfl, ?hy11⟩) S0 ?rest11
   case hy11 =>
    rintro w' ⟨h1, h2, h3, h4, h5⟩
    go_simp
    all_goals with_reducible rfl
   try simp only [Act.put, List.getElem_toArray, List.getElem_cons_succ, List.getElem_cons_zero, List.setIfInBounds_toArray, List.set_cons_zero, List.set_cons_succ]
   refine led_t (i := 12) (v := ?v12) rfl (by kernel_rfl) (.inl ⟨by rfl, ?hy12⟩) S0 ?rest12
   case hy12 =>
    rintro w' ⟨h1, h2, h3, h4, h5⟩
    go_simp
    all_goals with_reducible rfl
   try simp only [Act.put, List.getElem_toArray, List.getElem_cons_succ, List.getElem_cons_zero, List.setIfInBounds_toArray, List.set_cons_zero, List.set_cons_succ]
   refine led_t (i := 13) (v := ?v13) rfl (by kernel_rfl) (.inl ⟨by rfl, ?hy13⟩) S0 ?rest13
   case hy13 =>
    rintro w' ⟨h1, h2, h3, h4, h5⟩
    go_simp
    all_goals with_reducible rfl
   try simp only [Act.put, List.getElem_toArray, List.getElem_cons_succ, List.getElem_cons_zero, List.setIfInBounds_toArray, List.set_cons_zero, List.set_cons_succ]
   refine led_t (i := 14) (v := ?v14) rfl (by kernel_rfl) (.inl ⟨by rfl, ?hy14⟩) S0 ?rest14
   case hy14 =>
    rintro w' ⟨h1, h2, h3, h4, h5⟩
    go_simp
    all_goals with_reducible rfl
   try simp only [Act.put, List.getElem_toArray, List.getElem_cons_succ, List.getElem_cons_zero, List.setIfInBounds_toArray, List.set_cons_zero, List.set_cons_succ]
   refine led_t (i := 15) (v := ?v15) rfl (by kernel_rfl) (.inl ⟨by rfl, ?hy15⟩) S0 ?rest15
   case hy15 =>
    rintro w' ⟨h1, h2, h3, h4, h5⟩
    go_simp
    all_goals with_reducible rfl
   try simp only [Act.put, List.getElem_toArray, List.getElem_cons_succ, List.getElem_cons_zero, List.setIfInBounds_toArray, List.set_cons_zero, List.set_cons_succ]
   refine led_t (i := 16) (v := ?v16) rfl (by kernel_rfl) (.inl ⟨by rfl, ?hy16⟩) S0 ?rest16
   case hy16 =>
    rintro w' ⟨h1, h2, h3, h4, h5⟩
    go_simp
    all_goals with_reducible rfl
   try simp only [Act.put, List.getElem_toArray, List.getElem_cons_succ, List.getElem_cons_zero, List.setIfInBounds_toArray, List.set_cons_zero, List.set_cons_succ]
   refine led_t (i := 17) (v := ?v17) rfl (by kernel_rfl) (.inl ⟨by rfl, ?hy17⟩) S0 ?rest17
   case hy17 =>
    rintro w' ⟨h1, h2, h3, h4, h5⟩
    go_simp
    all_goals with_reducible rfl
   try simp only [Act.put, List.getElem_toArray, List.getElem_cons_succ, List.getElem_cons_zero, List.setIfInBounds_toArray, List.set_cons_zero, List.set_cons_succ]
   refine led_t (i := 18) (v := ?v18) rfl (by kernel_rfl) (.inl ⟨by rfl, ?hy18⟩) S0 ?rest18
   case hy18 =>
    rintro w' ⟨h1, h2, h3, h4, h5⟩
    go_simp
    all_goals with_reducible rfl
   try simp only [Act.put, List.getElem_toArray, List.getElem_cons_succ, List.getElem_cons_zero, List.setIfInBounds_toArray, List.set_cons_zero, List.set_cons_succ]
   refine led_t (i := 19) (v := ?v19) rfl (by kernel_rfl) (.inl ⟨by rfl, ?hy19⟩) S0 ?rest19
   case hy19 =>
    rintro w' ⟨h1, h2, h3, h4, h5⟩
    go_simp
    all_goals with_reducible rfl
   try simp only [Act.put, List.getElem_toArray, List.getElem_cons_succ, List.getElem_cons_zero, List.setIfInBounds_toArray, List.set_cons_zero, List.set_cons_succ]
   refine led_t (i := 20) (v := ?v20) rfl (by kernel_rfl) (.inl ⟨by rfl, ?hy20⟩) S0 ?rest20
   case hy20 =>
    rintro w' ⟨h1, h2, h3, h4, h5⟩
    go_simp
    all_goals with_reducible rfl
   try simp only [Act.put, List.getElem_toArray, List.getElem_cons_succ, List.getElem_cons_zero, List.setIfInBounds_toArray, List.set_cons_zero, List.set_cons_succ]
   refine led_t (i := 21) (v := ?v21) rfl (by kernel_rfl) (.inl ⟨by rfl, ?hy21⟩) S0 ?rest21
   case hy21 =>
    rintro w' ⟨h1, h2, h3, h4, h5⟩
    go_simp
    all_goals with_reducible rfl
   try simp only [Act.put, List.getElem_toArray, List.getElem_cons_succ, List.getElem_cons_zero, List.setIfInBounds_toArray, List.set_cons_zero, List.set_cons_succ]
   refine led_t (i := 22) (v := ?v22) rfl (by kernel_rfl) (.inl ⟨by rfl, ?hy22⟩) S0 ?rest22
   case hy22 =>
    rintro w' ⟨h1, h2, h3, h4, h5⟩
    go_simp
    all_goals with_reducible rfl
   try simp only [Act.put, List.getElem_toArray, List.getElem_cons_succ, List.getElem_cons_zero, List.setIfInBounds_toArray, List.set_cons_zero, List.set_cons_succ]
   refine led_one (i := 23) rfl (by kernel_rfl) ?_
   intro K1 hK1
   rw [if_pos (by rfl)]
   go_simp
   refine Calls.mono HNUM.out ?_
   rintro e w2 ⟨rfl, b2⟩
   obtain ⟨SA, SB, ON, hsz, hput⟩ := HAFT.out w2 b2
   have HON : Hid _ := ON
   have PUT : Hid _ := hput
   clear ON hput
   refine hK1 _ _ (fun _ => SA) ?_
   clear hK1
   try simp only [Act.put, List.getElem_toArray, List.getElem_cons_succ, List.getElem_cons_zero, List.setIfInBounds_toArray, List.set_cons_zero, List.set_cons_succ]
   refine led_one (i := 24) rfl (by kernel_rfl) ?_
   intro K2 hK2
   rw [if_pos (by rfl)]
   go_simp
   refine hK2 _ _ (fun _ => SB) ?_
   clear hK2
   try simp only [Act.put, List.getElem_toArray, List.getElem_cons_succ, List.getElem_cons_zero, List.setIfInBounds_toArray, List.set_cons_zero, List.set_cons_succ]
   refine led_one (i := 25) rfl (by kernel_rfl) ?_
   intro K3 hK3
   refine step_append_intG rfl _ _ rfl hi (.slice pa pl pc) pl PK x (by simp [Act.eval]) HON.out w2.heap.size (by simp [Act.eval]) (by simp) hpl hsz ?_
   intro v6 w6 h6 g6
   obtain ⟨S6, F6, X6, N6⟩ := PUT.out v6 w6 h6 g6
   have P6 : Hid _ := N6
   refine hK3 _ _ (fun _ => S6) ?_
   clear hK3 N6
   obtain ⟨a6, c6, e6, _, _⟩ := own_slice h6.out
   subst e6
   have T6 := S6.h2
   clear h6 g6
   try simp only [Act.put, List.getElem_toArray, List.getElem_cons_succ, List.getElem_cons_zero, List.setIfInBounds_toArray, List.set_cons_zero, List.set_cons_succ]
   refine led_one (i := 26) rfl (by kernel_rfl) ?_
   intro K4 hK4
   rw [if_pos (by rfl)]
   go_simp
   refine hK4 _ _ (fun _ => S6) ?_
   clear hK4
   try simp only [Act.put, List.getElem_toArray, List.getElem_cons_succ, List.getElem_cons_zero, List.setIfInBounds_toArray, List.set_cons_zero, List.set_cons_succ]
   refine led_one (i := 27) rfl (by kernel_rfl) ?_
   intro K5 hK5
   rw [if_pos (by rfl)]
   go_simp
   refine hK5 _ _ (fun _ => S6) ?_
   clear hK5
   try simp only [Act.put, List.getElem_toArray, List.getElem_cons_succ, List.getElem_cons_zero, List.setIfInBounds_toArray, List.set_cons_zero, List.set_cons_succ]
   refine led_one (i := 28) rfl (by kernel_rfl) ?_
   intro K6 hK6
   rw [if_pos (by rfl)]
   go_simp
   refine hK6 _ _ (fun _ => S6) ?_
   clear hK6
   try simp only [Act.put, List.getElem_toArray, List.getElem_cons_succ, List.getElem_cons_zero, List.setIfInBounds_toArray, List.set_cons_zero, List.set_cons_succ]
   refine led_one (i := 29) rfl (by kernel_rfl) ?_
   intro K7 hK7
   rw [if_pos (by rfl)]
   go_simp
   refine hK7 _ _ (fun h => absurd rfl h) ?_
   clear hK7
   refine led_done (by kernel_rfl) ?_
   go_wp2_with fail
   go_roundw
   case rel => exact ⟨k + 1, by omega, by go_num, by rw [<- HPL.out]; exact P6.out⟩
   case measure => simp [intOf]; omega
  ·have hkn : k = kl := by omega
   subst hkn
   have H9 : Hid _ := HEND.out wr HK.out
   clear HK HSTEP HEND
   go_wp2_with fail
   exact bodyPost_end (v := .tuple #[]) (by simp [results, Tryz.results72, go_sem]) rfl ⟨rfl, H9.out⟩
end Go.Proofs.YtfbkopjncmkbiabGreatDoor
