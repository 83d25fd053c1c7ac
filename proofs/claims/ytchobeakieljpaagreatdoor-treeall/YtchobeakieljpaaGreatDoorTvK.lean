import Derived.Test.YtchobeakieljpaaGreatDoorLvD
import Derived.Deep.LoopGhost
set_option linter.unusedVariables false
set_option linter.unusedSimpArgs false
namespace Go.Proofs.YtchobeakieljpaaGreatDoor
open Go.ChangeShapes Go.WideShapes Go.ChangeAt Go.RowKit

set_option maxRecDepth 10000 in
set_option maxHeartbeats 4000000 in
theorem rPrint_no (w : World) (no : Option Addr) (nc nn : Nat) (fo : Option Addr) (fc fn : Nat) (T : Tr) (hnn : nn = T.nodes.length) (hfn : fn = T.funcs.length) (hN : Nodes w no nc T.nodes) (hF : Ints w fo fc T.funcs) (hm : nn ≤ 1000000000) (hfm : fn ≤ 1000000000) (hkb : ∀ n ∈ T.nodes, n.kids.length ≤ 1000000000) (hsb : ∀ n ∈ T.nodes, n.name.length ≤ 1000000000000000) (hc : chk T = false) :
    Calls Tryz.prog 9 #[.agg #[.slice no nn nc, .slice fo fn fc]] w fun e w' => e = .returned (.tuple #[.slice none 0 0, .int .i64 30]) ∧ Below w.heap.size w w' := by
  have hb1 : Below w.heap.size w (w.alloc (.cells #[.slice no nn nc, .slice fo fn fc] 27)) := (Below.refl _ _).alloc (Nat.le_refl _) _
  have RC := rCheck_any _ no nc nn fo fc fn T hnn hfn (hN.below hb1 (Nat.le_refl _)) (hF.below hb1 (Nat.le_refl _)) hm hfm hkb hsb
  rw [hc] at RC
  simp only [Bool.false_eq_true, if_false] at RC
  clear hnn hfn hkb hsb hc
  go_enter Tryz.func9, Tryz.ntmps9
  go_wp2_with (first | (go_at_call 15; refine RC.mono ?_; rintro e w1 ⟨rfl, hb2⟩))
  go_ret2
  exact ⟨rfl, hb1.trans (hb2.mono (by simp))⟩
structure PrR (w w' : World) (L : List UInt8) (e : Ending) : Prop where
  out : ∃ v n, e = .returned (.tuple #[v, .int .i64 0]) ∧ OwnB w' (w.heap.size + 1) v n L
  bel : Below w.heap.size w w'
theorem drop_cons {F : List Int} {q : Nat} (h : q < F.length) : F.drop q = F[q] :: F.drop (q + 1) := List.drop_eq_getElem_cons h
theorem int_eq {a b : Int} (h : a = b) : Value.int .i64 a = Value.int .i64 b := by rw [h]
/-- What an iteration reads. -/
structure PE (wx : World) (h ob xg r : Nat) (V0 V1 : Value) (A : Array Value) (j : Nat) : Prop where
  f0 : wx.cell? ⟨h, 0, none⟩ = some V0
  f1 : wx.cell? ⟨h, 1, none⟩ = some V1
  ob : wx.heap[ob]? = some (.cells A 39 (0, 0))
  xq : wx.cell? ⟨xg, r, none⟩ = some (.int .i64 j)
  lt : h < wx.heap.size ∧ xg < wx.heap.size
theorem PE.keep {wx wy : World} {h ob xg r V0 V1 A j} (H : PE wx h ob xg r V0 V1 A j) (hb : Below wx.heap.size wx wy) : PE wy h ob xg r V0 V1 A j :=
  ⟨cell_below hb H.lt.1 H.f0, cell_below hb H.lt.1 H.f1, (hb.block ob (Array.getElem?_eq_some_iff.1 H.ob).1).trans H.ob, cell_below hb H.lt.2 H.xq, by have := hb.size; have := H.lt; omega⟩
theorem PE.grow {wx wy : World} {h ob xg r V0 V1 A j B vo m O} (H : PE wx h ob xg r V0 V1 A j) (ho : OwnB wx B vo m O) (hh : h < B) (hx : vo.ownBlock ≠ some xg) (hg : ∀ b, b < wx.heap.size → vo.ownBlock ≠ some b → wy.heap[b]? = wx.heap[b]?) : PE wy h ob xg r V0 V1 A j := by
  have e0 := hg h H.lt.1 (fun e => by have := (own_block ho.out e).1; omega)
  have e1 := hg ob (Array.getElem?_eq_some_iff.1 H.ob).1 (own_not ho.out H.ob (by decide))
  have e2 := hg xg H.lt.2 hx
  have s0 : h < wy.heap.size := by
    rw [Array.getElem?_eq_getElem H.lt.1] at e0
    exact (Array.getElem?_eq_some_iff.1 e0).1
  have s2 : xg < wy.heap.size := by
    rw [Array.getElem?_eq_getElem H.lt.2] at e2
    exact (Array.getElem?_eq_some_iff.1 e2).1
  exact ⟨(World.cell?_of_block e0).trans H.f0, (World.cell?_of_block e0).trans H.f1, e1.trans H.ob, (World.cell?_of_block e2).trans H.xq, s0, s2⟩
set_option maxRecDepth 10000 in
set_option maxHeartbeats 16000000 in
theorem rPrint_yes (w : World) (no : Option Addr) (nc nn : Nat) (fo : Option Addr) (fc fn : Nat) (T : Tr) (hnn : nn = T.nodes.length) (hfn : fn = T.funcs.length) (hN : Nodes w no nc T.nodes) (hF : Ints w fo fc T.funcs) (hm : nn ≤ 120000) (hfm : fn ≤ 1000000000) (hkb : ∀ n ∈ T.nodes, n.kids.length ≤ 120000) (hsb : ∀ n ∈ T.nodes, n.name.length ≤ 1000000000000000) (hvb : ∀ n ∈ T.nodes, n.val ≤ 9223372036854775807) (hc : chk T = true) (S' : Ps) (hP : PrintsOKx T.nodes T.funcs ⟨[], [], 0⟩ S') (hL : S'.text.length ≤ 900000000) :
    Calls Tryz.prog 9 #[.agg #[.slice no nn nc, .slice fo fn fc]] w fun e w' => PrR w w' S'.text e := by
  obtain ⟨w1, hw1⟩ : ∃ w1, w1 = w.alloc (.cells #[.slice no nn nc, .slice fo fn fc] 27) := ⟨_, rfl⟩
  have hb1 : Below w.heap.size w w1 := by rw [hw1]; exact (Below.refl _ _).alloc (Nat.le_refl _) _
  have hs1 : w.heap.size + 1 ≤ w1.heap.size := by rw [hw1]; simp
  have e0 : w1.cell? ⟨w.heap.size, 0, none⟩ = some (.slice no nn nc) := by rw [hw1]; simp
  have e1 : w1.cell? ⟨w.heap.size, 1, none⟩ = some (.slice fo fn fc) := by rw [hw1]; simp
  have RC := rCheck_any w1 no nc nn fo fc fn T hnn hfn (hN.below hb1 (Nat.le_refl _)) (hF.below hb1 (Nat.le_refl _)) (by omega) hfm (fun n hn => by have := hkb n hn; omega) hsb
  rw [hc] at RC
  simp only [if_true] at RC
  have HND : Hid (∀ (i : Nat) (hi : i < T.nodes.length), NdF T.nodes T.nodes[i]) := fun i hi => nd_facts hc hvb i hi
  have HLW : Hid (Lwr (T.nodes.map Nd.kids)) := ((rchk_iff T).1 hc).low
  have HFN : Hid (∀ f ∈ T.funcs, 0 ≤ f ∧ f < T.nodes.length ∧ kd T.nodes f = 1) := ((rchk_iff T).1 hc).fns
  have HH : Hid (nn = T.nodes.length ∧ fn = T.funcs.length) := ⟨hnn, hfn⟩
  have HKB : Hid _ := hkb
  have HW1 : Hid _ := hw1
  have HL : Hid (S'.text.length ≤ 900000000) := hL
  have hnc : nn ≤ nc := by have := hN.le; omega
  have hnx := hN.mx
  have hfc : fn ≤ fc := by have := hF.le; omega
  have hfx := hF.mx
  clear hnn hfn hkb hsb hvb hc hw1 hL
  go_enter Tryz.func9, Tryz.ntmps9
  go_wp2_with (first | (go_at_call 15; rw [← HW1.out]; refine RC.mono ?_; rintro e w2 ⟨rfl, hb2⟩))
  have hs2 := hb2.size
  have hw2 : Below w.heap.size w w2 := hb1.trans (hb2.mono (by omega))
  have g0 := cell_below hb2 (by omega) e0
  have g1 := cell_below hb2 (by omega) e1
  clear RC e0 e1 hb1 HW1
  go_loopw [4, 5] (fun vo fv wr => ∃ (q m : Nat) (O : List UInt8), q ≤ fn ∧ fv = .int .i64 q ∧ OwnB wr (w.heap.size + 1) vo m O ∧ PrintsOKx T.nodes (T.funcs.drop q) ⟨O, [], 0⟩ S' ∧ Below (w.heap.size + 1) w2 wr) (fun _ fv _ => fn - (intOf fv).toNat)
  case atStart => exact ⟨0, 0, [], by omega, rfl, OwnB.nil _ _, hP, Below.refl _ _⟩
  case round =>
    obtain ⟨q, m, O, hq, rfl, HO, HP, hbr⟩ := hrel
    obtain ⟨oa0, oc0, rfl⟩ := own_slice HO.out
    have hsr := hbr.size
    have hbW : Below w.heap.size w wr := hw2.trans (hbr.mono (by omega))
    have f0 := cell_below hbr (by omega) g0
    have f1 := cell_below hbr (by omega) g1
    by_cases hqf : q < fn
    · have hqT : q < T.funcs.length := by have := HH.out; omega
      obtain ⟨fb, fo', rfl, hFA⟩ := (hF.below hbW (Nat.le_refl _)).out (by intro e; rw [e] at hqT; simp at hqT)
      have fcell := hFA.cell q hqT
      obtain ⟨f, hf⟩ : ∃ f, f = T.funcs[q] := ⟨_, rfl⟩
      rw [← hf] at fcell
      have hfr := HFN.out f (by rw [hf]; exact List.getElem_mem hqT)
      obtain ⟨hf0, hf1, _⟩ := hfr
      obtain ⟨fm, rfl⟩ : ∃ fm : Nat, f = (fm : Int) := ⟨f.toNat, by omega⟩
      have hfmn : fm < T.nodes.length := by omega
      rw [drop_cons hqT, ← hf] at HP
      obtain ⟨k0, s1, hR0, hs1t, HP1⟩ := HP.inv
      have hnf := HND.out fm hfmn
      have e2 : ndOf T.nodes (fm : Int) = T.nodes[fm] := ndOf_at fm hfmn
      obtain ⟨k1, _, hR1⟩ := r_start (by rw [e2]; exact hnf.vk) (by rw [e2]; exact hnf.kf) hR0
      have hs1l : s1.text.length ≤ 900000000 := Nat.le_trans (p_len HP1) HL.out
      have HS1L : Hid (s1.text.length ≤ 900000000) := hs1l
      have HP1' : Hid (PrintsOKx T.nodes (T.funcs.drop (q + 1)) s1 S') := HP1
      clear hf hFA hs1l HP1 hR0 hs1t e2 hnf
      go_wp2_with fail
      obtain ⟨w3, hw3⟩ : ∃ w3, w3 = (wr.alloc (.cells #[.int .i64 (fm : Int)] 3)).alloc (.cells #[.int .i64 0] 3) := ⟨_, rfl⟩
      have hb3 : Below wr.heap.size wr w3 := by rw [hw3]; exact ((Below.refl _ _).alloc (Nat.le_refl _) _).alloc (by simp) _
      have HPK0 : PK w3 (w.heap.size + 1) T.nodes nn fm (.slice oa0 m oc0) (.slice (some ⟨wr.heap.size, 0, none⟩) 1 1) (.slice (some ⟨wr.heap.size + 1, 0, none⟩) 1 1) m 1 [((fm : Int), 0)] O := by
        have n1 := OwnI.one wr (w.heap.size + 1) fm (by omega)
        have n2 := n1.alloc0 (.cells #[.int .i64 0] 3)
        have x1 := OwnI.one (wr.alloc (.cells #[.int .i64 (fm : Int)] 3)) (w.heap.size + 1) 0 (by simp; omega)
        rw [← hw3] at n2 x1
        refine ⟨HO.keep hb3, by simpa using n2, by simpa using x1, fun g h1 h2 => ?_, ⟨by omega, by have := HH.out; omega, by omega, by show 0 + (fm : Int).toNat ≤ fm; omega, trivial⟩, by simp, HLW.out⟩
        simp [Value.ownBlock] at h1 h2
        omega
      rw [← hw3]
      have hbr3 : Below (w.heap.size + 1) w2 w3 := hbr.trans (hb3.mono (by omega))
      clear hw3 hb3 HO f0 f1 fcell
      have hfm2 : fm < nn := by have := HH.out; omega
      go_loopg [4, 6, 7, 8] (2 * k1 + 1) (fun M vo vn vx bv wr => ∃ (k m d : Nat) (S : List (Int × Nat)) (O : List UInt8), PK wr (w.heap.size + 1) T.nodes nn fm vo vn vx m d S O ∧ RunsOKx T.nodes k ⟨O, RP T.nodes S, nbk T.nodes S⟩ s1 ∧ 2 * k + d = M ∧ bv = .int .i64 (bks T.nodes S : Nat) ∧ Below (w.heap.size + 1) w2 wr)
      case atStart => exact ⟨k1, m, 1, _, _, HPK0, hR1, rfl, by simp [bks, nbk], hbr3⟩
      case round =>
        obtain ⟨k, m, d, S, O, HK, HR, hMM, rfl, hbr⟩ := hrel
        clear HPK0 hR1 hbr3
        have hsr := hbr.size
        have hbW : Below w.heap.size w wr := hw2.trans (hbr.mono (by omega))
        have f0 := cell_below hbr (by omega) g0
        have f1 := cell_below hbr (by omega) g1
        obtain ⟨oa, oc, rfl⟩ := own_slice HK.oo.out
        have HMM : Hid _ := hMM
        clear hMM
        by_cases hd : 0 < d
        · obtain ⟨f, j, S2, rfl, hdr⟩ := HK.top hd
          obtain ⟨r, hr⟩ : ∃ r, r = S2.length := ⟨_, rfl⟩
          rw [← hr] at hdr
          subst hdr
          obtain ⟨ng, nc2, rfl⟩ := HK.on.blkOf (by omega)
          obtain ⟨xg, xc, rfl⟩ := HK.ox.blkOf (by omega)
          obtain ⟨q1, q2, q3, q4, q5⟩ := HK.frs
          obtain ⟨i, rfl⟩ : ∃ i : Nat, f = (i : Int) := ⟨f.toNat, by omega⟩
          have hin : i < nn := by omega
          have hrf : r + i ≤ fm := by rw [hr]; omega
          have hni : i < T.nodes.length := by have := HH.out; omega
          have hnf := HND.out i hni
          have hkbi := HKB.out _ (List.getElem_mem hni)
          obtain ⟨b, o', rfl, hblw, hAt⟩ := hN.out (by intro e; rw [e] at hni; simp at hni)
          obtain ⟨ka, kc, v0, v1, v2, v3, v4, v5, v6, v7, v8, v9, hKI⟩ := (hAt i hni).out
          have c0 := cell_below hbW hblw v0
          have c1 := cell_below hbW hblw v1
          have c2 := cell_below hbW hblw v2
          have c3 := cell_below hbW hblw v3
          have c4 := cell_below hbW hblw v4
          have c5 := cell_below hbW hblw v5
          have c6 := cell_below hbW hblw v6
          have c7 := cell_below hbW hblw v7
          have c8 := cell_below hbW hblw v8
          have c9 := cell_below hbW hblw v9
          have hbl : b < wr.heap.size := by have := hbW.size; omega
          have hks := ks_nd (N := T.nodes) i hni
          have hnd0 : ndOf T.nodes (i : Int) = T.nodes[i] := ndOf_at i hni
          obtain ⟨nd, hnd⟩ : ∃ nd, nd = T.nodes[i] := ⟨_, rfl⟩
          rw [← hnd] at c0 c1 c2 c3 c4 c5 c6 c7 c8 c9 hKI hks hnd0 hnf hkbi
          obtain ⟨kl, hkl⟩ : ∃ kl, kl = nd.kids.length := ⟨_, rfl⟩
          rw [← hkl] at c9 hkbi
          obtain ⟨s, hs⟩ : ∃ s, s = bs nd.name := ⟨_, rfl⟩
          rw [← hs] at c8
          have hjk : j ≤ kl := by rw [hkl, ← hks]; exact q3
          have HE : Hid (ndOf T.nodes (i : Int) = nd ∧ ks (T.nodes.map Nd.kids) (i : Int) = nd.kids ∧ kl = nd.kids.length ∧ s = bs nd.name ∧ nd = T.nodes[i] ∧ r = S2.length) := ⟨hnd0, hks, hkl, hs, hnd, hr⟩
          have HNF : Hid (NdF T.nodes nd) := hnf
          have nq : wr.cell? ⟨ng, r, none⟩ = some (.int .i64 i) := by
            have := HK.on.cellAt r (by simp [hr])
            rw [this]
            simp [hr]
          have xq : wr.cell? ⟨xg, r, none⟩ = some (.int .i64 j) := by
            have := HK.ox.cellAt r (by simp [hr])
            rw [this]
            simp [hr]
          have hsub : ((r + 1 : Nat) : Int) - 1 = (r : Int) := by omega
          obtain ⟨_, _, en, hn1, hn2, _, _⟩ := HK.on.view
          cases en
          obtain ⟨_, _, ex, hx1, hx2, _, _⟩ := HK.ox.view
          cases ex
          have hngl := own_block HK.on.out (g := ng) rfl
          have hxgl := own_block HK.ox.out (g := xg) rfl
          have hkll : kl ≤ kc := by have := hKI.le; omega
          have hkmx := hKI.mx
          clear v0 v1 v2 v3 v4 v5 v6 v7 v8 v9 hks hkl hr hAt hnd hnd0 hs hnf q1 q2 q3 q4 q5 hd
          obtain ⟨hng1, hng2⟩ := hngl
          obtain ⟨hxg1, hxg2⟩ := hxgl
          have hA0 : w.heap.size < wr.heap.size := by omega
          have hrI : (r : Int) < (r : Int) + 1 := by omega
          have hrN : r < r + 1 := by omega
          have hrg : ∀ x ∈ nd.kids, 0 ≤ x ∧ x < nn := fun x hx => by
            have h1 := HLW.out i (by simpa using hni) x (by simpa [← HE.out.2.2.2.2.1] using hx)
            omega
          obtain ⟨dd, hdde, hdd⟩ := HNF.out.decl
          obtain ⟨pp, hppe, hpp⟩ := HNF.out.op
          obtain ⟨vv, hvve, hvv⟩ := HNF.out.val
          have HDD : Hid (nd.decl = (dd : Int)) := hdde
          have HPP : Hid (nd.op = (pp : Int)) := hppe
          have HVV : Hid (nd.val = (vv : Int)) := hvve
          clear hdde hppe hvve
          go_wp2_with fail
          go_region
          obtain ⟨wq, hwq⟩ : ∃ wq, wq = (wr.alloc (.cells #[.int .i64 nd.kind, .int .i64 nd.at_, .int .i64 nd.wh, .int .i64 nd.close, .int .i64 nd.decl, .int .i64 nd.typ, .int .i64 nd.op, .int .i64 nd.val, .string s, .slice ka kl kc] 39)).drew := ⟨_, rfl⟩
          have hbq : Below wr.heap.size wr wq := by rw [hwq]; exact ((Below.refl _ _).alloc (Nat.le_refl _) _).drew
          have hobq : wq.heap[wr.heap.size]? = some (.cells #[.int .i64 nd.kind, .int .i64 nd.at_, .int .i64 nd.wh, .int .i64 nd.close, .int .i64 nd.decl, .int .i64 nd.typ, .int .i64 nd.op, .int .i64 nd.val, .string s, .slice ka kl kc] 39 (0, 0)) := by rw [hwq]; exact heap_alloc_last _ _
          rw [← hwq]
          have HKc := HK.keep hbq
          have HPEc : PE wq w.heap.size wr.heap.size xg r (.slice (some ⟨b, o', none⟩) nn nc) (.slice (some ⟨fb, fo', none⟩) fn fc) #[.int .i64 nd.kind, .int .i64 nd.at_, .int .i64 nd.wh, .int .i64 nd.close, .int .i64 nd.decl, .int .i64 nd.typ, .int .i64 nd.op, .int .i64 nd.val, .string s, .slice ka kl kc] j := ⟨cell_below hbq hA0 f0, cell_below hbq hA0 f1, hobq, cell_below hbq hxg2 xq, by have := hbq.size; omega⟩
          have hbB : Below (w.heap.size + 1) w2 wq := hbr.trans (hbq.mono (by omega))
          have hbw : Below w.heap.size w wq := hbW.trans (hbq.mono hbW.size)
          obtain ⟨ob, hobE⟩ : ∃ ob, ob = wr.heap.size := ⟨_, rfl⟩
          have hobx : xg < ob := by omega
          rw [← hobE] at HPEc ⊢
          obtain ⟨o, ho⟩ : ∃ o, o = nbk T.nodes (((i : Int), j) :: S2) := ⟨_, rfl⟩
          have HO3 : Hid (o = nbk T.nodes (((i : Int), j) :: S2)) := ho
          have hol : o ≤ 120001 := by
            have h1 := nbk_le T.nodes (((i : Int), j) :: S2)
            have h2 := HE.out.2.2.2.2.2
            simp at h1
            omega
          have HR1 : RunsOKx T.nodes k ⟨O, clo T.nodes nd j ++ (segs T.nodes nd j ++ RP T.nodes S2), o⟩ s1 := by
            have := HR
            rw [← ho] at this
            simp only [RP, HE.out.1] at this
            exact this
          obtain ⟨k2, hk2, HR2⟩ := r_clo HR1
          clear hwq hbq hobq hobE ho HR1 HR HK hbr hbW f0 f1 nq xq c0 c1 c2 c3 c4 c5 c6 c7 c8 c9 hbl hsr hA0 hng1 hng2 hxg2
          have f0 := HPEc.f0
          have f1 := HPEc.f1
          have hob := HPEc.ob
          have xq := HPEc.xq
          have n0 : wq.cell? ⟨ob, 0, none⟩ = some (.int .i64 nd.kind) := cell_arr hob rfl
          have n1 : wq.cell? ⟨ob, 1, none⟩ = some (.int .i64 nd.at_) := cell_arr hob rfl
          have n2 : wq.cell? ⟨ob, 2, none⟩ = some (.int .i64 nd.wh) := cell_arr hob rfl
          have n3 : wq.cell? ⟨ob, 3, none⟩ = some (.int .i64 nd.close) := cell_arr hob rfl
          have n4 : wq.cell? ⟨ob, 4, none⟩ = some (.int .i64 nd.decl) := cell_arr hob rfl
          have n5 : wq.cell? ⟨ob, 5, none⟩ = some (.int .i64 nd.typ) := cell_arr hob rfl
          have n6 : wq.cell? ⟨ob, 6, none⟩ = some (.int .i64 nd.op) := cell_arr hob rfl
          have n7 : wq.cell? ⟨ob, 7, none⟩ = some (.int .i64 nd.val) := cell_arr hob rfl
          have n8 : wq.cell? ⟨ob, 8, none⟩ = some (.string s) := cell_arr hob rfl
          have n9 : wq.cell? ⟨ob, 9, none⟩ = some (.slice ka kl kc) := cell_arr hob rfl
          -- ROUND
          by_cases hk3 : nd.kind = 3
          · by_cases hj0 : j = 0
            · obtain ⟨bv, hbv⟩ : ∃ bv, bv = bks T.nodes ((((i : Nat) : Int), j) :: S2) := ⟨_, rfl⟩
              have HOB : Hid (o = bv + 1) := by show _ = _; rw [HO3.out, hbv]; simp only [bks, nbk, HE.out.1]; simp [hk3, hj0]; omega
              rw [← hbv]
              clear hbv
              by_cases hpu : j < kl
              · have HO4 : Hid (nd.kind = 3 → 1 ≤ o) := fun _ => by have := HOB.out; omega
                have hkB : (nd.kind == 3) = true := by simpa using hk3
                have hjB : ((j : Int) == 0) = true := by simp; omega
                have hjP : decide (0 < (j : Int)) = false := by simp; omega
                have hjP2 : decide (0 < j) = false := by simp; omega
                have hjL : (j : Int) < (kl : Int) := by omega
                have hcl : clx T.nodes nd j = [] := by simp [clx]; omega
                rw [hcl, List.append_nil] at HR2
                have hjn : j < nd.kids.length := by have := HE.out; omega
                have hx0 : nd.kids.getD j 0 = nd.kids[j] := by simp [List.getD, hjn]
                obtain ⟨x, hx⟩ : ∃ x, x = nd.kids[j] := ⟨_, rfl⟩
                have hxm : x ∈ nd.kids := by rw [hx]; exact List.getElem_mem hjn
                have hxr := hrg x hxm
                obtain ⟨xm, hxm2⟩ : ∃ xm : Nat, x = (xm : Int) := ⟨x.toNat, by omega⟩
                have hxN : xm < T.nodes.length := by have := HH.out; omega
                have hkn := HND.out xm hxN
                have ekn : ndOf T.nodes (nd.kids.getD j 0) = T.nodes[xm] := by rw [hx0, ← hx, hxm2]; exact ndOf_at xm hxN
                have HR2n : RunsOKx T.nodes k2 ⟨O, segs T.nodes (ndOf T.nodes (i : Int)) j ++ RP T.nodes S2, o⟩ s1 := by rw [HE.out.1]; exact HR2
                obtain ⟨k3, hk3l, HR3⟩ := r_push (by rw [HE.out.1]; exact hjn) (by rw [HE.out.1, ekn]; exact hkn.vk) (by rw [HE.out.1, ekn]; exact hkn.kf) HO3.out HR2n
                rw [HE.out.1, hx0, ← hx] at HR3
                obtain ⟨X, hX⟩ : ∃ X, X = ptx o (pre nd j) ++ (if ard T.nodes nd j = true then [40] else []) := ⟨_, rfl⟩
                rw [← hX] at HR3
                have hXl := r_len HR3
                have AHD : ∀ wx, Below w.heap.size w wx → Calls Tryz.prog 24 #[.agg #[.slice (some ⟨b, o', none⟩) nn nc, .slice (some ⟨fb, fo', none⟩) fn fc], .agg #[.int .i64 nd.kind, .int .i64 nd.at_, .int .i64 nd.wh, .int .i64 nd.close, .int .i64 nd.decl, .int .i64 nd.typ, .int .i64 nd.op, .int .i64 nd.val, .string s, .slice ka kl kc], .int .i64 j, .int .i64 ((bv : Int) + 1)] wx fun e w' => e = .returned (.string (bs X)) ∧ Below wx.heap.size wx w' := fun wx hwx => by
                  have := rAhead_all wx _ nc nn (some ⟨fb, fo', none⟩) fc fn T.nodes nd ka kc kl s j dd pp ⟨HH.out.1, hN.below hwx (Nat.le_refl _), hKI.below hwx (Nat.le_refl _), HE.out.2.2.1, by omega, hrg, by omega, by omega, HE.out.2.2.2.1, HNF.out.name, HDD.out, hdd, HPP.out, hpp⟩ HNF.out.vk HNF.out.kf o (by omega)
                  rw [← hX, HOB.out] at this
                  have e9 : (((bv + 1 : Nat)) : Int) = (bv : Int) + 1 := by omega
                  rw [e9] at this
                  exact this
                have HX : Hid (∃ h : j < nd.kids.length, x = nd.kids[j]) := ⟨hjn, hx⟩
                obtain ⟨kb, ko, eka, hKA⟩ := hKI.out (by intro e; rw [e] at hjn; simp at hjn)
                subst eka
                have kqw := hKA.cell j hjn
                rw [← hx] at kqw
                have hkbl := hKA.lt
                clear hx hxm hxm2 hxr hkn ekn hx0 hjn hKA hX
                simp only [List.length_append] at hXl
                have hXl2 : O.length + X.length + 1 ≤ 1000000000 := by have := HS1L.out; omega
                have hmO : m = O.length := HKc.oo.len
                have hA1 : m + X.length ≤ 1000000000 := by omega
                have hA0 : m + 1 ≤ 1000000000 := by omega
                have HR3' : Hid _ := HR3
                have hbvl : bv ≤ 120001 := by have := HOB.out; omega
                clear hXl hXl2 hmO HR3 HR2 HR2n hcl hk3 hj0
                have hB1 : ∀ wx, Below (w.heap.size + 1) w2 wx → w.heap.size + 1 ≤ wx.heap.size := fun wx h => by have := h.size; omega
                go_wp2_with (first
                  | (go_at_call 24; refine (AHD _ hbw).mono ?_; rintro e w6 ⟨rfl, hb6⟩; clear f0 f1 hob xq n0 n1 n2 n3 n4 n5 n6 n7 n8 n9; have HKc := HKc.keep hb6; have HPEc := HPEc.keep hb6; have hbB := hbB.trans (hb6.mono (by have := hbB.size; omega)); have hbw := hbw.trans (hb6.mono hbw.size); have f0 := HPEc.f0; have f1 := HPEc.f1; have hob := HPEc.ob; have xq := HPEc.xq; have n0 : w6.cell? ⟨ob, 0, none⟩ = some (.int .i64 nd.kind) := cell_arr hob rfl; have n1 : w6.cell? ⟨ob, 1, none⟩ = some (.int .i64 nd.at_) := cell_arr hob rfl; have n2 : w6.cell? ⟨ob, 2, none⟩ = some (.int .i64 nd.wh) := cell_arr hob rfl; have n3 : w6.cell? ⟨ob, 3, none⟩ = some (.int .i64 nd.close) := cell_arr hob rfl; have n4 : w6.cell? ⟨ob, 4, none⟩ = some (.int .i64 nd.decl) := cell_arr hob rfl; have n5 : w6.cell? ⟨ob, 5, none⟩ = some (.int .i64 nd.typ) := cell_arr hob rfl; have n6 : w6.cell? ⟨ob, 6, none⟩ = some (.int .i64 nd.op) := cell_arr hob rfl; have n7 : w6.cell? ⟨ob, 7, none⟩ = some (.int .i64 nd.val) := cell_arr hob rfl; have n8 : w6.cell? ⟨ob, 8, none⟩ = some (.string s) := cell_arr hob rfl; have n9 : w6.cell? ⟨ob, 9, none⟩ = some (.slice (some ⟨kb, ko, none⟩) kl kc) := cell_arr hob rfl)
                  | (at_builtin; refine wpList_append_strP rfl _ _ rfl (w.heap.size + 1) _ m O ?_ HKc.oo _ X ?_ rfl hA1 (hB1 _ hbB) ?_; (next => rfl); (next => rfl); intro v7 w7 HO7 hG7; have hg7 : ∀ b, b < w6.heap.size → (Value.slice oa m oc).ownBlock ≠ some b → w7.heap[b]? = w6.heap[b]? := (fun b h1 h2 => grown_at hG7 h1 h2); have hbB := hbB.grown hG7 (hB1 _ hbB) (fun k hk => (own_block HKc.oo.out hk).1); have hbw : Below w.heap.size w w7 := hw2.trans (hbB.mono (by omega)); clear f0 f1 hob xq n0 n1 n2 n3 n4 n5 n6 n7 n8 n9; obtain ⟨oa, oc, rfl⟩ := own_slice HO7.out; have HPEc := HPEc.grow HKc.oo (by omega) (own_apart HKc.ox.out HKc.oo.out (by decide) xg rfl) hg7; have HKc := HKc.grow HO7 hg7; have f0 := HPEc.f0; have f1 := HPEc.f1; have hob := HPEc.ob; have xq := HPEc.xq; have n0 : w7.cell? ⟨ob, 0, none⟩ = some (.int .i64 nd.kind) := cell_arr hob rfl; have n1 : w7.cell? ⟨ob, 1, none⟩ = some (.int .i64 nd.at_) := cell_arr hob rfl; have n2 : w7.cell? ⟨ob, 2, none⟩ = some (.int .i64 nd.wh) := cell_arr hob rfl; have n3 : w7.cell? ⟨ob, 3, none⟩ = some (.int .i64 nd.close) := cell_arr hob rfl; have n4 : w7.cell? ⟨ob, 4, none⟩ = some (.int .i64 nd.decl) := cell_arr hob rfl; have n5 : w7.cell? ⟨ob, 5, none⟩ = some (.int .i64 nd.typ) := cell_arr hob rfl; have n6 : w7.cell? ⟨ob, 6, none⟩ = some (.int .i64 nd.op) := cell_arr hob rfl; have n7 : w7.cell? ⟨ob, 7, none⟩ = some (.int .i64 nd.val) := cell_arr hob rfl; have n8 : w7.cell? ⟨ob, 8, none⟩ = some (.string s) := cell_arr hob rfl; have n9 : w7.cell? ⟨ob, 9, none⟩ = some (.slice (some ⟨kb, ko, none⟩) kl kc) := cell_arr hob rfl; have hfz : w7.frozen? ⟨xg, r, none⟩ = false := row_fz HKc.ox.out r; obtain ⟨HT1, HT2, HT3⟩ := HKc.turn HE.out.2.2.2.2.2; have kq : w7.cell? ⟨kb, ko + j, none⟩ = some (.int .i64 x) := cell_below hbw hkbl kqw; have hne1 : ¬ ob = xg := (by omega); have hne2 : ¬ xg = ob := (by omega); have hne3 : ¬ kb = xg := (by omega); have hne4 : ¬ xg = kb := (by omega); have hAC : w.heap.size + 1 ≤ (w7.setCell ⟨xg, r, none⟩ (.int .i64 ((j : Int) + 1))).heap.size := (by simp [World.setCell]; have := hB1 _ hbB; omega); have hAD : r + 1 + 1 ≤ 17592186044416 := (by omega))
                  | (at_builtin; refine wpList_append_intG rfl _ _ rfl (w.heap.size + 1) _ (r + 1) _ 0 ?_ HX8 ?_ hAD hAE ?_; (next => rfl); (next => rfl); intro v9 w9 HO9 hG9)
                  | (at_builtin; refine wpList_append_intH rfl _ _ rfl (w.heap.size + 1) _ (r + 1) _ x w7.heap.size ?_ HT2 ?_ (by simp [World.setCell]) hAD hAC ?_; (next => rfl); (next => rfl); intro v8 w8 HO8 hG8; obtain ⟨na8, nc8, rfl⟩ := own_slice HO8.out; have HX8 := HT1.gi hG8 (fun b hb e => HKc.a3 b e hb); have hAE : w.heap.size + 1 ≤ w8.heap.size := (by have := hG8.size; omega)))
                obtain ⟨hX1, hX2⟩ := HX.out
                have HPN := HKc.push (by rw [HE.out.2.1]; exact hX1) (by rw [hX2]; exact (List.getElem_of_eq HE.out.2.1 _).symm) HE.out.2.2.2.2.2 HO8 hG8 HO9 hG9
                have hbN : Below (w.heap.size + 1) w2 w9 := ((hbB.setCell (p := ⟨xg, r, none⟩) (by show w.heap.size + 1 ≤ xg; omega) _).trans hG8.bel).trans hG9.bel
                go_roundg (2 * k3 + (r + 1 + 1))
                case rel => exact ⟨k3, _, r + 1 + 1, _, _, HPN, HR3'.out, rfl, int_eq (by have h1 := HO3.out; have h2 := HOB.out; simp only [bks, nbk] at h1 ⊢; simp; omega), hbN⟩
                case measure => have := HMM.out; omega
              · have HO4 : Hid (nd.kind = 3 → 1 ≤ o) := fun _ => by have := HOB.out; omega
                have hkB : (nd.kind == 3) = true := by simpa using hk3
                have hjB : ((j : Int) == 0) = true := by simp; omega
                have hjP : decide (0 < (j : Int)) = false := by simp; omega
                have hjP2 : decide (0 < j) = false := by simp; omega
                have hjL : ¬ (j : Int) < (kl : Int) := by omega
                have hcl : clx T.nodes nd j = [] := by simp [clx]; omega
                rw [hcl, List.append_nil] at HR2
                have HR2n : RunsOKx T.nodes k2 ⟨O, segs T.nodes (ndOf T.nodes (i : Int)) j ++ RP T.nodes S2, o⟩ s1 := by rw [HE.out.1]; exact HR2
                obtain ⟨k3, hk3l, HR3⟩ := r_pop (by rw [HE.out.1]; have := HE.out; omega) HO3.out HR2n
                rw [HE.out.1] at HR3
                obtain ⟨X, hX⟩ : ∃ X, X = etx o (tl nd) := ⟨_, rfl⟩
                rw [← hX] at HR3
                have hXl := r_len HR3
                have BHD : ∀ wx, Calls Tryz.prog 25 #[.agg #[.int .i64 nd.kind, .int .i64 nd.at_, .int .i64 nd.wh, .int .i64 nd.close, .int .i64 nd.decl, .int .i64 nd.typ, .int .i64 nd.op, .int .i64 nd.val, .string s, .slice ka kl kc], .int .i64 ((bv : Int) + 1)] wx fun e w' => e = .returned (.string (bs X)) ∧ Below wx.heap.size wx w' := fun wx => by
                  have := rBehind_all wx T.nodes nd ka kc kl s dd vv ⟨HE.out.2.2.2.1, HNF.out.name, HDD.out, hdd, HVV.out, hvv, HE.out.2.2.1⟩ HNF.out.vk o (by omega) (by intro _; rw [HOB.out]; omega)
                  rw [← hX, HOB.out] at this
                  have e9 : (((bv + 1 : Nat)) : Int) = (bv : Int) + 1 := by omega
                  rw [e9] at this
                  exact this
                clear hX
                simp only [List.length_append] at hXl
                have hXl2 : O.length + X.length + 1 ≤ 1000000000 := by have := HS1L.out; omega
                have hmO : m = O.length := HKc.oo.len
                have hA1 : m + X.length ≤ 1000000000 := by omega
                have hA0 : m + 1 ≤ 1000000000 := by omega
                have HR3' : Hid _ := HR3
                have HNB : Hid (nbk T.nodes S2 = bv) := by show _ = _; have h1 := HO3.out; have h2 := HOB.out; simp only [nbk, HE.out.1] at h1; simp [hk3] at h1; omega
                have hbvl : bv ≤ 120001 := by have := HOB.out; omega
                clear hXl hXl2 hmO HR3 HR2 HR2n hcl hk3 hj0
                have hB1 : ∀ wx, Below (w.heap.size + 1) w2 wx → w.heap.size + 1 ≤ wx.heap.size := fun wx h => by have := h.size; omega
                go_wp2_with (first
                  | (go_at_call 25; refine (BHD _).mono ?_; rintro e w6 ⟨rfl, hb6⟩; clear f0 f1 hob xq n0 n1 n2 n3 n4 n5 n6 n7 n8 n9; have HKc := HKc.keep hb6; have HPEc := HPEc.keep hb6; have hbB := hbB.trans (hb6.mono (by have := hbB.size; omega)); have hbw := hbw.trans (hb6.mono hbw.size); have f0 := HPEc.f0; have f1 := HPEc.f1; have hob := HPEc.ob; have xq := HPEc.xq; have n0 : w6.cell? ⟨ob, 0, none⟩ = some (.int .i64 nd.kind) := cell_arr hob rfl; have n1 : w6.cell? ⟨ob, 1, none⟩ = some (.int .i64 nd.at_) := cell_arr hob rfl; have n2 : w6.cell? ⟨ob, 2, none⟩ = some (.int .i64 nd.wh) := cell_arr hob rfl; have n3 : w6.cell? ⟨ob, 3, none⟩ = some (.int .i64 nd.close) := cell_arr hob rfl; have n4 : w6.cell? ⟨ob, 4, none⟩ = some (.int .i64 nd.decl) := cell_arr hob rfl; have n5 : w6.cell? ⟨ob, 5, none⟩ = some (.int .i64 nd.typ) := cell_arr hob rfl; have n6 : w6.cell? ⟨ob, 6, none⟩ = some (.int .i64 nd.op) := cell_arr hob rfl; have n7 : w6.cell? ⟨ob, 7, none⟩ = some (.int .i64 nd.val) := cell_arr hob rfl; have n8 : w6.cell? ⟨ob, 8, none⟩ = some (.string s) := cell_arr hob rfl; have n9 : w6.cell? ⟨ob, 9, none⟩ = some (.slice ka kl kc) := cell_arr hob rfl)
                  | (at_builtin; refine wpList_append_strP rfl _ _ rfl (w.heap.size + 1) _ m O ?_ HKc.oo _ X ?_ rfl hA1 (hB1 _ hbB) ?_; (next => rfl); (next => rfl); intro v7 w7 HO7 hG7; have hg7 : ∀ b, b < w6.heap.size → (Value.slice oa m oc).ownBlock ≠ some b → w7.heap[b]? = w6.heap[b]? := (fun b h1 h2 => grown_at hG7 h1 h2); have hbB := hbB.grown hG7 (hB1 _ hbB) (fun k hk => (own_block HKc.oo.out hk).1); have hbw : Below w.heap.size w w7 := hw2.trans (hbB.mono (by omega)); clear f0 f1 hob xq n0 n1 n2 n3 n4 n5 n6 n7 n8 n9; obtain ⟨oa, oc, rfl⟩ := own_slice HO7.out; have HPEc := HPEc.grow HKc.oo (by omega) (own_apart HKc.ox.out HKc.oo.out (by decide) xg rfl) hg7; have HKc := HKc.grow HO7 hg7; have f0 := HPEc.f0; have f1 := HPEc.f1; have hob := HPEc.ob; have xq := HPEc.xq; have n0 : w7.cell? ⟨ob, 0, none⟩ = some (.int .i64 nd.kind) := cell_arr hob rfl; have n1 : w7.cell? ⟨ob, 1, none⟩ = some (.int .i64 nd.at_) := cell_arr hob rfl; have n2 : w7.cell? ⟨ob, 2, none⟩ = some (.int .i64 nd.wh) := cell_arr hob rfl; have n3 : w7.cell? ⟨ob, 3, none⟩ = some (.int .i64 nd.close) := cell_arr hob rfl; have n4 : w7.cell? ⟨ob, 4, none⟩ = some (.int .i64 nd.decl) := cell_arr hob rfl; have n5 : w7.cell? ⟨ob, 5, none⟩ = some (.int .i64 nd.typ) := cell_arr hob rfl; have n6 : w7.cell? ⟨ob, 6, none⟩ = some (.int .i64 nd.op) := cell_arr hob rfl; have n7 : w7.cell? ⟨ob, 7, none⟩ = some (.int .i64 nd.val) := cell_arr hob rfl; have n8 : w7.cell? ⟨ob, 8, none⟩ = some (.string s) := cell_arr hob rfl; have n9 : w7.cell? ⟨ob, 9, none⟩ = some (.slice ka kl kc) := cell_arr hob rfl))
                have HPN := HKc.pop HE.out.2.2.2.2.2
                go_roundg (2 * k3 + r)
                case rel => exact ⟨k3, _, r, _, _, HPN, HR3'.out, rfl, int_eq (by rw [bks_adv (fun p hp => HKc.adv p (by simpa using hp))]; have := HNB.out; omega), hbB⟩
                case measure => have := HMM.out; omega
            · obtain ⟨bv, hbv⟩ : ∃ bv, bv = bks T.nodes ((((i : Nat) : Int), j) :: S2) := ⟨_, rfl⟩
              have HOB : Hid (o = bv) := by show _ = _; rw [HO3.out, hbv]; simp only [bks, nbk, HE.out.1]; simp [hk3, hj0]
              have HO4 : Hid (nd.kind = 3 → 1 ≤ o) := fun _ => by have := HO3.out; simp only [nbk, HE.out.1] at this; simp [hk3] at this; omega
              rw [← hbv]
              clear hbv
              have hjp : 0 < j := by omega
              obtain ⟨RR, hRR⟩ : ∃ R, R = ard T.nodes nd (j - 1) := ⟨_, rfl⟩
              have HAR : Hid (ard T.nodes nd (j - 1) = RR) := hRR.symm
              have ARD : ∀ wx, Below w.heap.size w wx → Calls Tryz.prog 23 #[.agg #[.slice (some ⟨b, o', none⟩) nn nc, .slice (some ⟨fb, fo', none⟩) fn fc], .agg #[.int .i64 nd.kind, .int .i64 nd.at_, .int .i64 nd.wh, .int .i64 nd.close, .int .i64 nd.decl, .int .i64 nd.typ, .int .i64 nd.op, .int .i64 nd.val, .string s, .slice ka kl kc], .int .i64 ((j : Int) - 1)] wx fun e w' => e = .returned (.bool RR) ∧ Below wx.heap.size wx w' := fun wx hwx => by
                have := rAround_any wx _ nc nn (some ⟨fb, fo', none⟩) fc fn T.nodes HH.out.1 (hN.below hwx (Nat.le_refl _)) nd ka kc kl s (hKI.below hwx (Nat.le_refl _)) HE.out.2.2.1 (j - 1) (by omega) hrg (by omega) (by omega) RR hRR
                rw [show (((j - 1 : Nat)) : Int) = (j : Int) - 1 by omega] at this
                exact this
              clear hRR
              cases RR
              · by_cases hpu : j < kl
                · skip
                  have hkB : (nd.kind == 3) = true := by simpa using hk3
                  have hjB : ((j : Int) == 0) = false := by simp; omega
                  have hjP : decide (0 < (j : Int)) = true := by simp; omega
                  have hjP2 : decide (0 < j) = true := by simp; omega
                  have hjL : (j : Int) < (kl : Int) := by omega
                  have hcl : clx T.nodes nd j = [] := by simp [clx, HAR.out]
                  rw [hcl, List.append_nil] at HR2
                  have hjn : j < nd.kids.length := by have := HE.out; omega
                  have hx0 : nd.kids.getD j 0 = nd.kids[j] := by simp [List.getD, hjn]
                  obtain ⟨x, hx⟩ : ∃ x, x = nd.kids[j] := ⟨_, rfl⟩
                  have hxm : x ∈ nd.kids := by rw [hx]; exact List.getElem_mem hjn
                  have hxr := hrg x hxm
                  obtain ⟨xm, hxm2⟩ : ∃ xm : Nat, x = (xm : Int) := ⟨x.toNat, by omega⟩
                  have hxN : xm < T.nodes.length := by have := HH.out; omega
                  have hkn := HND.out xm hxN
                  have ekn : ndOf T.nodes (nd.kids.getD j 0) = T.nodes[xm] := by rw [hx0, ← hx, hxm2]; exact ndOf_at xm hxN
                  have HR2n : RunsOKx T.nodes k2 ⟨O, segs T.nodes (ndOf T.nodes (i : Int)) j ++ RP T.nodes S2, o⟩ s1 := by rw [HE.out.1]; exact HR2
                  obtain ⟨k3, hk3l, HR3⟩ := r_push (by rw [HE.out.1]; exact hjn) (by rw [HE.out.1, ekn]; exact hkn.vk) (by rw [HE.out.1, ekn]; exact hkn.kf) HO3.out HR2n
                  rw [HE.out.1, hx0, ← hx] at HR3
                  obtain ⟨X, hX⟩ : ∃ X, X = ptx o (pre nd j) ++ (if ard T.nodes nd j = true then [40] else []) := ⟨_, rfl⟩
                  rw [← hX] at HR3
                  have hXl := r_len HR3
                  have AHD : ∀ wx, Below w.heap.size w wx → Calls Tryz.prog 24 #[.agg #[.slice (some ⟨b, o', none⟩) nn nc, .slice (some ⟨fb, fo', none⟩) fn fc], .agg #[.int .i64 nd.kind, .int .i64 nd.at_, .int .i64 nd.wh, .int .i64 nd.close, .int .i64 nd.decl, .int .i64 nd.typ, .int .i64 nd.op, .int .i64 nd.val, .string s, .slice ka kl kc], .int .i64 j, .int .i64 (bv : Int)] wx fun e w' => e = .returned (.string (bs X)) ∧ Below wx.heap.size wx w' := fun wx hwx => by
                    have := rAhead_all wx _ nc nn (some ⟨fb, fo', none⟩) fc fn T.nodes nd ka kc kl s j dd pp ⟨HH.out.1, hN.below hwx (Nat.le_refl _), hKI.below hwx (Nat.le_refl _), HE.out.2.2.1, by omega, hrg, by omega, by omega, HE.out.2.2.2.1, HNF.out.name, HDD.out, hdd, HPP.out, hpp⟩ HNF.out.vk HNF.out.kf o (by omega)
                    rw [← hX, HOB.out] at this
                    exact this
                  have HX : Hid (∃ h : j < nd.kids.length, x = nd.kids[j]) := ⟨hjn, hx⟩
                  obtain ⟨kb, ko, eka, hKA⟩ := hKI.out (by intro e; rw [e] at hjn; simp at hjn)
                  subst eka
                  have kqw := hKA.cell j hjn
                  rw [← hx] at kqw
                  have hkbl := hKA.lt
                  clear hx hxm hxm2 hxr hkn ekn hx0 hjn hKA hX
                  simp only [List.length_append] at hXl
                  have hXl2 : O.length + X.length + 1 ≤ 1000000000 := by have := HS1L.out; omega
                  have hmO : m = O.length := HKc.oo.len
                  have hA1 : m + X.length ≤ 1000000000 := by omega
                  have hA0 : m + 1 ≤ 1000000000 := by omega
                  have HR3' : Hid _ := HR3
                  have hbvl : bv ≤ 120001 := by have := HOB.out; omega
                  clear hXl hXl2 hmO HR3 HR2 HR2n hcl hk3
                  have hB1 : ∀ wx, Below (w.heap.size + 1) w2 wx → w.heap.size + 1 ≤ wx.heap.size := fun wx h => by have := h.size; omega
                  go_wp2_with (first
                    | (go_at_call 23; refine (ARD _ hbw).mono ?_; rintro e w4 ⟨rfl, hb4⟩; clear f0 f1 hob xq n0 n1 n2 n3 n4 n5 n6 n7 n8 n9; have HKc := HKc.keep hb4; have HPEc := HPEc.keep hb4; have hbB := hbB.trans (hb4.mono (by have := hbB.size; omega)); have hbw := hbw.trans (hb4.mono hbw.size); have f0 := HPEc.f0; have f1 := HPEc.f1; have hob := HPEc.ob; have xq := HPEc.xq; have n0 : w4.cell? ⟨ob, 0, none⟩ = some (.int .i64 nd.kind) := cell_arr hob rfl; have n1 : w4.cell? ⟨ob, 1, none⟩ = some (.int .i64 nd.at_) := cell_arr hob rfl; have n2 : w4.cell? ⟨ob, 2, none⟩ = some (.int .i64 nd.wh) := cell_arr hob rfl; have n3 : w4.cell? ⟨ob, 3, none⟩ = some (.int .i64 nd.close) := cell_arr hob rfl; have n4 : w4.cell? ⟨ob, 4, none⟩ = some (.int .i64 nd.decl) := cell_arr hob rfl; have n5 : w4.cell? ⟨ob, 5, none⟩ = some (.int .i64 nd.typ) := cell_arr hob rfl; have n6 : w4.cell? ⟨ob, 6, none⟩ = some (.int .i64 nd.op) := cell_arr hob rfl; have n7 : w4.cell? ⟨ob, 7, none⟩ = some (.int .i64 nd.val) := cell_arr hob rfl; have n8 : w4.cell? ⟨ob, 8, none⟩ = some (.string s) := cell_arr hob rfl; have n9 : w4.cell? ⟨ob, 9, none⟩ = some (.slice (some ⟨kb, ko, none⟩) kl kc) := cell_arr hob rfl)
                    | (go_at_call 24; refine (AHD _ hbw).mono ?_; rintro e w6 ⟨rfl, hb6⟩; clear f0 f1 hob xq n0 n1 n2 n3 n4 n5 n6 n7 n8 n9; have HKc := HKc.keep hb6; have HPEc := HPEc.keep hb6; have hbB := hbB.trans (hb6.mono (by have := hbB.size; omega)); have hbw := hbw.trans (hb6.mono hbw.size); have f0 := HPEc.f0; have f1 := HPEc.f1; have hob := HPEc.ob; have xq := HPEc.xq; have n0 : w6.cell? ⟨ob, 0, none⟩ = some (.int .i64 nd.kind) := cell_arr hob rfl; have n1 : w6.cell? ⟨ob, 1, none⟩ = some (.int .i64 nd.at_) := cell_arr hob rfl; have n2 : w6.cell? ⟨ob, 2, none⟩ = some (.int .i64 nd.wh) := cell_arr hob rfl; have n3 : w6.cell? ⟨ob, 3, none⟩ = some (.int .i64 nd.close) := cell_arr hob rfl; have n4 : w6.cell? ⟨ob, 4, none⟩ = some (.int .i64 nd.decl) := cell_arr hob rfl; have n5 : w6.cell? ⟨ob, 5, none⟩ = some (.int .i64 nd.typ) := cell_arr hob rfl; have n6 : w6.cell? ⟨ob, 6, none⟩ = some (.int .i64 nd.op) := cell_arr hob rfl; have n7 : w6.cell? ⟨ob, 7, none⟩ = some (.int .i64 nd.val) := cell_arr hob rfl; have n8 : w6.cell? ⟨ob, 8, none⟩ = some (.string s) := cell_arr hob rfl; have n9 : w6.cell? ⟨ob, 9, none⟩ = some (.slice (some ⟨kb, ko, none⟩) kl kc) := cell_arr hob rfl)
                    | (at_builtin; refine wpList_append_strP rfl _ _ rfl (w.heap.size + 1) _ m O ?_ HKc.oo _ X ?_ rfl hA1 (hB1 _ hbB) ?_; (next => rfl); (next => rfl); intro v7 w7 HO7 hG7; have hg7 : ∀ b, b < w6.heap.size → (Value.slice oa m oc).ownBlock ≠ some b → w7.heap[b]? = w6.heap[b]? := (fun b h1 h2 => grown_at hG7 h1 h2); have hbB := hbB.grown hG7 (hB1 _ hbB) (fun k hk => (own_block HKc.oo.out hk).1); have hbw : Below w.heap.size w w7 := hw2.trans (hbB.mono (by omega)); clear f0 f1 hob xq n0 n1 n2 n3 n4 n5 n6 n7 n8 n9; obtain ⟨oa, oc, rfl⟩ := own_slice HO7.out; have HPEc := HPEc.grow HKc.oo (by omega) (own_apart HKc.ox.out HKc.oo.out (by decide) xg rfl) hg7; have HKc := HKc.grow HO7 hg7; have f0 := HPEc.f0; have f1 := HPEc.f1; have hob := HPEc.ob; have xq := HPEc.xq; have n0 : w7.cell? ⟨ob, 0, none⟩ = some (.int .i64 nd.kind) := cell_arr hob rfl; have n1 : w7.cell? ⟨ob, 1, none⟩ = some (.int .i64 nd.at_) := cell_arr hob rfl; have n2 : w7.cell? ⟨ob, 2, none⟩ = some (.int .i64 nd.wh) := cell_arr hob rfl; have n3 : w7.cell? ⟨ob, 3, none⟩ = some (.int .i64 nd.close) := cell_arr hob rfl; have n4 : w7.cell? ⟨ob, 4, none⟩ = some (.int .i64 nd.decl) := cell_arr hob rfl; have n5 : w7.cell? ⟨ob, 5, none⟩ = some (.int .i64 nd.typ) := cell_arr hob rfl; have n6 : w7.cell? ⟨ob, 6, none⟩ = some (.int .i64 nd.op) := cell_arr hob rfl; have n7 : w7.cell? ⟨ob, 7, none⟩ = some (.int .i64 nd.val) := cell_arr hob rfl; have n8 : w7.cell? ⟨ob, 8, none⟩ = some (.string s) := cell_arr hob rfl; have n9 : w7.cell? ⟨ob, 9, none⟩ = some (.slice (some ⟨kb, ko, none⟩) kl kc) := cell_arr hob rfl; have hfz : w7.frozen? ⟨xg, r, none⟩ = false := row_fz HKc.ox.out r; obtain ⟨HT1, HT2, HT3⟩ := HKc.turn HE.out.2.2.2.2.2; have kq : w7.cell? ⟨kb, ko + j, none⟩ = some (.int .i64 x) := cell_below hbw hkbl kqw; have hne1 : ¬ ob = xg := (by omega); have hne2 : ¬ xg = ob := (by omega); have hne3 : ¬ kb = xg := (by omega); have hne4 : ¬ xg = kb := (by omega); have hAC : w.heap.size + 1 ≤ (w7.setCell ⟨xg, r, none⟩ (.int .i64 ((j : Int) + 1))).heap.size := (by simp [World.setCell]; have := hB1 _ hbB; omega); have hAD : r + 1 + 1 ≤ 17592186044416 := (by omega))
                    | (at_builtin; refine wpList_append_intG rfl _ _ rfl (w.heap.size + 1) _ (r + 1) _ 0 ?_ HX8 ?_ hAD hAE ?_; (next => rfl); (next => rfl); intro v9 w9 HO9 hG9)
                    | (at_builtin; refine wpList_append_intH rfl _ _ rfl (w.heap.size + 1) _ (r + 1) _ x w7.heap.size ?_ HT2 ?_ (by simp [World.setCell]) hAD hAC ?_; (next => rfl); (next => rfl); intro v8 w8 HO8 hG8; obtain ⟨na8, nc8, rfl⟩ := own_slice HO8.out; have HX8 := HT1.gi hG8 (fun b hb e => HKc.a3 b e hb); have hAE : w.heap.size + 1 ≤ w8.heap.size := (by have := hG8.size; omega)))
                  obtain ⟨hX1, hX2⟩ := HX.out
                  have HPN := HKc.push (by rw [HE.out.2.1]; exact hX1) (by rw [hX2]; exact (List.getElem_of_eq HE.out.2.1 _).symm) HE.out.2.2.2.2.2 HO8 hG8 HO9 hG9
                  have hbN : Below (w.heap.size + 1) w2 w9 := ((hbB.setCell (p := ⟨xg, r, none⟩) (by show w.heap.size + 1 ≤ xg; omega) _).trans hG8.bel).trans hG9.bel
                  go_roundg (2 * k3 + (r + 1 + 1))
                  case rel => exact ⟨k3, _, r + 1 + 1, _, _, HPN, HR3'.out, rfl, int_eq (by have h1 := HO3.out; have h2 := HOB.out; simp only [bks, nbk] at h1 ⊢; simp; omega), hbN⟩
                  case measure => have := HMM.out; omega
                · skip
                  have hkB : (nd.kind == 3) = true := by simpa using hk3
                  have hjB : ((j : Int) == 0) = false := by simp; omega
                  have hjP : decide (0 < (j : Int)) = true := by simp; omega
                  have hjP2 : decide (0 < j) = true := by simp; omega
                  have hjL : ¬ (j : Int) < (kl : Int) := by omega
                  have hcl : clx T.nodes nd j = [] := by simp [clx, HAR.out]
                  rw [hcl, List.append_nil] at HR2
                  have HR2n : RunsOKx T.nodes k2 ⟨O, segs T.nodes (ndOf T.nodes (i : Int)) j ++ RP T.nodes S2, o⟩ s1 := by rw [HE.out.1]; exact HR2
                  obtain ⟨k3, hk3l, HR3⟩ := r_pop (by rw [HE.out.1]; have := HE.out; omega) HO3.out HR2n
                  rw [HE.out.1] at HR3
                  obtain ⟨X, hX⟩ : ∃ X, X = etx o (tl nd) := ⟨_, rfl⟩
                  rw [← hX] at HR3
                  have hXl := r_len HR3
                  have BHD : ∀ wx, Calls Tryz.prog 25 #[.agg #[.int .i64 nd.kind, .int .i64 nd.at_, .int .i64 nd.wh, .int .i64 nd.close, .int .i64 nd.decl, .int .i64 nd.typ, .int .i64 nd.op, .int .i64 nd.val, .string s, .slice ka kl kc], .int .i64 (bv : Int)] wx fun e w' => e = .returned (.string (bs X)) ∧ Below wx.heap.size wx w' := fun wx => by
                    have := rBehind_all wx T.nodes nd ka kc kl s dd vv ⟨HE.out.2.2.2.1, HNF.out.name, HDD.out, hdd, HVV.out, hvv, HE.out.2.2.1⟩ HNF.out.vk o (by omega) (by intro h; have := HO4.out h; omega)
                    rw [← hX, HOB.out] at this
                    exact this
                  clear hX
                  simp only [List.length_append] at hXl
                  have hXl2 : O.length + X.length + 1 ≤ 1000000000 := by have := HS1L.out; omega
                  have hmO : m = O.length := HKc.oo.len
                  have hA1 : m + X.length ≤ 1000000000 := by omega
                  have hA0 : m + 1 ≤ 1000000000 := by omega
                  have HR3' : Hid _ := HR3
                  have HNB : Hid (nbk T.nodes S2 + 1 = bv) := by show _ = _; have h1 := HO3.out; have h2 := HOB.out; simp only [nbk, HE.out.1] at h1; simp [hk3] at h1; omega
                  have hbvl : bv ≤ 120001 := by have := HOB.out; omega
                  clear hXl hXl2 hmO HR3 HR2 HR2n hcl hk3
                  have hB1 : ∀ wx, Below (w.heap.size + 1) w2 wx → w.heap.size + 1 ≤ wx.heap.size := fun wx h => by have := h.size; omega
                  go_wp2_with (first
                    | (go_at_call 23; refine (ARD _ hbw).mono ?_; rintro e w4 ⟨rfl, hb4⟩; clear f0 f1 hob xq n0 n1 n2 n3 n4 n5 n6 n7 n8 n9; have HKc := HKc.keep hb4; have HPEc := HPEc.keep hb4; have hbB := hbB.trans (hb4.mono (by have := hbB.size; omega)); have hbw := hbw.trans (hb4.mono hbw.size); have f0 := HPEc.f0; have f1 := HPEc.f1; have hob := HPEc.ob; have xq := HPEc.xq; have n0 : w4.cell? ⟨ob, 0, none⟩ = some (.int .i64 nd.kind) := cell_arr hob rfl; have n1 : w4.cell? ⟨ob, 1, none⟩ = some (.int .i64 nd.at_) := cell_arr hob rfl; have n2 : w4.cell? ⟨ob, 2, none⟩ = some (.int .i64 nd.wh) := cell_arr hob rfl; have n3 : w4.cell? ⟨ob, 3, none⟩ = some (.int .i64 nd.close) := cell_arr hob rfl; have n4 : w4.cell? ⟨ob, 4, none⟩ = some (.int .i64 nd.decl) := cell_arr hob rfl; have n5 : w4.cell? ⟨ob, 5, none⟩ = some (.int .i64 nd.typ) := cell_arr hob rfl; have n6 : w4.cell? ⟨ob, 6, none⟩ = some (.int .i64 nd.op) := cell_arr hob rfl; have n7 : w4.cell? ⟨ob, 7, none⟩ = some (.int .i64 nd.val) := cell_arr hob rfl; have n8 : w4.cell? ⟨ob, 8, none⟩ = some (.string s) := cell_arr hob rfl; have n9 : w4.cell? ⟨ob, 9, none⟩ = some (.slice ka kl kc) := cell_arr hob rfl)
                    | (go_at_call 25; refine (BHD _).mono ?_; rintro e w6 ⟨rfl, hb6⟩; clear f0 f1 hob xq n0 n1 n2 n3 n4 n5 n6 n7 n8 n9; have HKc := HKc.keep hb6; have HPEc := HPEc.keep hb6; have hbB := hbB.trans (hb6.mono (by have := hbB.size; omega)); have hbw := hbw.trans (hb6.mono hbw.size); have f0 := HPEc.f0; have f1 := HPEc.f1; have hob := HPEc.ob; have xq := HPEc.xq; have n0 : w6.cell? ⟨ob, 0, none⟩ = some (.int .i64 nd.kind) := cell_arr hob rfl; have n1 : w6.cell? ⟨ob, 1, none⟩ = some (.int .i64 nd.at_) := cell_arr hob rfl; have n2 : w6.cell? ⟨ob, 2, none⟩ = some (.int .i64 nd.wh) := cell_arr hob rfl; have n3 : w6.cell? ⟨ob, 3, none⟩ = some (.int .i64 nd.close) := cell_arr hob rfl; have n4 : w6.cell? ⟨ob, 4, none⟩ = some (.int .i64 nd.decl) := cell_arr hob rfl; have n5 : w6.cell? ⟨ob, 5, none⟩ = some (.int .i64 nd.typ) := cell_arr hob rfl; have n6 : w6.cell? ⟨ob, 6, none⟩ = some (.int .i64 nd.op) := cell_arr hob rfl; have n7 : w6.cell? ⟨ob, 7, none⟩ = some (.int .i64 nd.val) := cell_arr hob rfl; have n8 : w6.cell? ⟨ob, 8, none⟩ = some (.string s) := cell_arr hob rfl; have n9 : w6.cell? ⟨ob, 9, none⟩ = some (.slice ka kl kc) := cell_arr hob rfl)
                    | (at_builtin; refine wpList_append_strP rfl _ _ rfl (w.heap.size + 1) _ m O ?_ HKc.oo _ X ?_ rfl hA1 (hB1 _ hbB) ?_; (next => rfl); (next => rfl); intro v7 w7 HO7 hG7; have hg7 : ∀ b, b < w6.heap.size → (Value.slice oa m oc).ownBlock ≠ some b → w7.heap[b]? = w6.heap[b]? := (fun b h1 h2 => grown_at hG7 h1 h2); have hbB := hbB.grown hG7 (hB1 _ hbB) (fun k hk => (own_block HKc.oo.out hk).1); have hbw : Below w.heap.size w w7 := hw2.trans (hbB.mono (by omega)); clear f0 f1 hob xq n0 n1 n2 n3 n4 n5 n6 n7 n8 n9; obtain ⟨oa, oc, rfl⟩ := own_slice HO7.out; have HPEc := HPEc.grow HKc.oo (by omega) (own_apart HKc.ox.out HKc.oo.out (by decide) xg rfl) hg7; have HKc := HKc.grow HO7 hg7; have f0 := HPEc.f0; have f1 := HPEc.f1; have hob := HPEc.ob; have xq := HPEc.xq; have n0 : w7.cell? ⟨ob, 0, none⟩ = some (.int .i64 nd.kind) := cell_arr hob rfl; have n1 : w7.cell? ⟨ob, 1, none⟩ = some (.int .i64 nd.at_) := cell_arr hob rfl; have n2 : w7.cell? ⟨ob, 2, none⟩ = some (.int .i64 nd.wh) := cell_arr hob rfl; have n3 : w7.cell? ⟨ob, 3, none⟩ = some (.int .i64 nd.close) := cell_arr hob rfl; have n4 : w7.cell? ⟨ob, 4, none⟩ = some (.int .i64 nd.decl) := cell_arr hob rfl; have n5 : w7.cell? ⟨ob, 5, none⟩ = some (.int .i64 nd.typ) := cell_arr hob rfl; have n6 : w7.cell? ⟨ob, 6, none⟩ = some (.int .i64 nd.op) := cell_arr hob rfl; have n7 : w7.cell? ⟨ob, 7, none⟩ = some (.int .i64 nd.val) := cell_arr hob rfl; have n8 : w7.cell? ⟨ob, 8, none⟩ = some (.string s) := cell_arr hob rfl; have n9 : w7.cell? ⟨ob, 9, none⟩ = some (.slice ka kl kc) := cell_arr hob rfl))
                  have HPN := HKc.pop HE.out.2.2.2.2.2
                  go_roundg (2 * k3 + r)
                  case rel => exact ⟨k3, _, r, _, _, HPN, HR3'.out, rfl, int_eq (by rw [bks_adv (fun p hp => HKc.adv p (by simpa using hp))]; have := HNB.out; omega), hbB⟩
                  case measure => have := HMM.out; omega
              · by_cases hpu : j < kl
                · skip
                  have hkB : (nd.kind == 3) = true := by simpa using hk3
                  have hjB : ((j : Int) == 0) = false := by simp; omega
                  have hjP : decide (0 < (j : Int)) = true := by simp; omega
                  have hjP2 : decide (0 < j) = true := by simp; omega
                  have hjL : (j : Int) < (kl : Int) := by omega
                  have hcl : clx T.nodes nd j = [41] := by simp [clx, HAR.out]; omega
                  rw [hcl] at HR2
                  have hjn : j < nd.kids.length := by have := HE.out; omega
                  have hx0 : nd.kids.getD j 0 = nd.kids[j] := by simp [List.getD, hjn]
                  obtain ⟨x, hx⟩ : ∃ x, x = nd.kids[j] := ⟨_, rfl⟩
                  have hxm : x ∈ nd.kids := by rw [hx]; exact List.getElem_mem hjn
                  have hxr := hrg x hxm
                  obtain ⟨xm, hxm2⟩ : ∃ xm : Nat, x = (xm : Int) := ⟨x.toNat, by omega⟩
                  have hxN : xm < T.nodes.length := by have := HH.out; omega
                  have hkn := HND.out xm hxN
                  have ekn : ndOf T.nodes (nd.kids.getD j 0) = T.nodes[xm] := by rw [hx0, ← hx, hxm2]; exact ndOf_at xm hxN
                  have HR2n : RunsOKx T.nodes k2 ⟨(O ++ [41]), segs T.nodes (ndOf T.nodes (i : Int)) j ++ RP T.nodes S2, o⟩ s1 := by rw [HE.out.1]; exact HR2
                  obtain ⟨k3, hk3l, HR3⟩ := r_push (by rw [HE.out.1]; exact hjn) (by rw [HE.out.1, ekn]; exact hkn.vk) (by rw [HE.out.1, ekn]; exact hkn.kf) HO3.out HR2n
                  rw [HE.out.1, hx0, ← hx] at HR3
                  obtain ⟨X, hX⟩ : ∃ X, X = ptx o (pre nd j) ++ (if ard T.nodes nd j = true then [40] else []) := ⟨_, rfl⟩
                  rw [← hX] at HR3
                  have hXl := r_len HR3
                  have AHD : ∀ wx, Below w.heap.size w wx → Calls Tryz.prog 24 #[.agg #[.slice (some ⟨b, o', none⟩) nn nc, .slice (some ⟨fb, fo', none⟩) fn fc], .agg #[.int .i64 nd.kind, .int .i64 nd.at_, .int .i64 nd.wh, .int .i64 nd.close, .int .i64 nd.decl, .int .i64 nd.typ, .int .i64 nd.op, .int .i64 nd.val, .string s, .slice ka kl kc], .int .i64 j, .int .i64 (bv : Int)] wx fun e w' => e = .returned (.string (bs X)) ∧ Below wx.heap.size wx w' := fun wx hwx => by
                    have := rAhead_all wx _ nc nn (some ⟨fb, fo', none⟩) fc fn T.nodes nd ka kc kl s j dd pp ⟨HH.out.1, hN.below hwx (Nat.le_refl _), hKI.below hwx (Nat.le_refl _), HE.out.2.2.1, by omega, hrg, by omega, by omega, HE.out.2.2.2.1, HNF.out.name, HDD.out, hdd, HPP.out, hpp⟩ HNF.out.vk HNF.out.kf o (by omega)
                    rw [← hX, HOB.out] at this
                    exact this
                  have HX : Hid (∃ h : j < nd.kids.length, x = nd.kids[j]) := ⟨hjn, hx⟩
                  obtain ⟨kb, ko, eka, hKA⟩ := hKI.out (by intro e; rw [e] at hjn; simp at hjn)
                  subst eka
                  have kqw := hKA.cell j hjn
                  rw [← hx] at kqw
                  have hkbl := hKA.lt
                  clear hx hxm hxm2 hxr hkn ekn hx0 hjn hKA hX
                  simp only [List.length_append] at hXl
                  have hXl2 : O.length + X.length + 1 ≤ 1000000000 := by have := HS1L.out; simp at hXl; omega
                  have hmO : m = O.length := HKc.oo.len
                  have hA1 : (m + 1) + X.length ≤ 1000000000 := by omega
                  have hA0 : m + 1 ≤ 1000000000 := by omega
                  have HR3' : Hid _ := HR3
                  have hbvl : bv ≤ 120001 := by have := HOB.out; omega
                  clear hXl hXl2 hmO HR3 HR2 HR2n hcl hk3
                  have hB1 : ∀ wx, Below (w.heap.size + 1) w2 wx → w.heap.size + 1 ≤ wx.heap.size := fun wx h => by have := h.size; omega
                  go_wp2_with (first
                    | (go_at_call 23; refine (ARD _ hbw).mono ?_; rintro e w4 ⟨rfl, hb4⟩; clear f0 f1 hob xq n0 n1 n2 n3 n4 n5 n6 n7 n8 n9; have HKc := HKc.keep hb4; have HPEc := HPEc.keep hb4; have hbB := hbB.trans (hb4.mono (by have := hbB.size; omega)); have hbw := hbw.trans (hb4.mono hbw.size); have f0 := HPEc.f0; have f1 := HPEc.f1; have hob := HPEc.ob; have xq := HPEc.xq; have n0 : w4.cell? ⟨ob, 0, none⟩ = some (.int .i64 nd.kind) := cell_arr hob rfl; have n1 : w4.cell? ⟨ob, 1, none⟩ = some (.int .i64 nd.at_) := cell_arr hob rfl; have n2 : w4.cell? ⟨ob, 2, none⟩ = some (.int .i64 nd.wh) := cell_arr hob rfl; have n3 : w4.cell? ⟨ob, 3, none⟩ = some (.int .i64 nd.close) := cell_arr hob rfl; have n4 : w4.cell? ⟨ob, 4, none⟩ = some (.int .i64 nd.decl) := cell_arr hob rfl; have n5 : w4.cell? ⟨ob, 5, none⟩ = some (.int .i64 nd.typ) := cell_arr hob rfl; have n6 : w4.cell? ⟨ob, 6, none⟩ = some (.int .i64 nd.op) := cell_arr hob rfl; have n7 : w4.cell? ⟨ob, 7, none⟩ = some (.int .i64 nd.val) := cell_arr hob rfl; have n8 : w4.cell? ⟨ob, 8, none⟩ = some (.string s) := cell_arr hob rfl; have n9 : w4.cell? ⟨ob, 9, none⟩ = some (.slice (some ⟨kb, ko, none⟩) kl kc) := cell_arr hob rfl)
                    | (at_builtin; refine wpList_append_byte rfl _ _ rfl (w.heap.size + 1) _ m O 41 ?_ HKc.oo ?_ hA0 (hB1 _ hbB) ?_; (next => rfl); (next => rfl); intro v5 w5 HO5 hG5; have hg5 : ∀ b, b < w4.heap.size → (Value.slice oa m oc).ownBlock ≠ some b → w5.heap[b]? = w4.heap[b]? := (fun b h1 h2 => (grown_at hG5 (by simp; omega) h2).trans (heap_alloc_old _ _ h1)); have hbB := (hbB.alloc (hB1 _ hbB) _).grown hG5 (by simp; have := hB1 _ hbB; omega) (fun k hk => (own_block HKc.oo.out hk).1); have hbw : Below w.heap.size w w5 := hw2.trans (hbB.mono (by omega)); clear f0 f1 hob xq n0 n1 n2 n3 n4 n5 n6 n7 n8 n9; obtain ⟨oa, oc, rfl⟩ := own_slice HO5.out; have HPEc := HPEc.grow HKc.oo (by omega) (own_apart HKc.ox.out HKc.oo.out (by decide) xg rfl) hg5; have HKc := HKc.grow HO5 hg5; have f0 := HPEc.f0; have f1 := HPEc.f1; have hob := HPEc.ob; have xq := HPEc.xq; have n0 : w5.cell? ⟨ob, 0, none⟩ = some (.int .i64 nd.kind) := cell_arr hob rfl; have n1 : w5.cell? ⟨ob, 1, none⟩ = some (.int .i64 nd.at_) := cell_arr hob rfl; have n2 : w5.cell? ⟨ob, 2, none⟩ = some (.int .i64 nd.wh) := cell_arr hob rfl; have n3 : w5.cell? ⟨ob, 3, none⟩ = some (.int .i64 nd.close) := cell_arr hob rfl; have n4 : w5.cell? ⟨ob, 4, none⟩ = some (.int .i64 nd.decl) := cell_arr hob rfl; have n5 : w5.cell? ⟨ob, 5, none⟩ = some (.int .i64 nd.typ) := cell_arr hob rfl; have n6 : w5.cell? ⟨ob, 6, none⟩ = some (.int .i64 nd.op) := cell_arr hob rfl; have n7 : w5.cell? ⟨ob, 7, none⟩ = some (.int .i64 nd.val) := cell_arr hob rfl; have n8 : w5.cell? ⟨ob, 8, none⟩ = some (.string s) := cell_arr hob rfl; have n9 : w5.cell? ⟨ob, 9, none⟩ = some (.slice (some ⟨kb, ko, none⟩) kl kc) := cell_arr hob rfl)
                    | (go_at_call 24; refine (AHD _ hbw).mono ?_; rintro e w6 ⟨rfl, hb6⟩; clear f0 f1 hob xq n0 n1 n2 n3 n4 n5 n6 n7 n8 n9; have HKc := HKc.keep hb6; have HPEc := HPEc.keep hb6; have hbB := hbB.trans (hb6.mono (by have := hbB.size; omega)); have hbw := hbw.trans (hb6.mono hbw.size); have f0 := HPEc.f0; have f1 := HPEc.f1; have hob := HPEc.ob; have xq := HPEc.xq; have n0 : w6.cell? ⟨ob, 0, none⟩ = some (.int .i64 nd.kind) := cell_arr hob rfl; have n1 : w6.cell? ⟨ob, 1, none⟩ = some (.int .i64 nd.at_) := cell_arr hob rfl; have n2 : w6.cell? ⟨ob, 2, none⟩ = some (.int .i64 nd.wh) := cell_arr hob rfl; have n3 : w6.cell? ⟨ob, 3, none⟩ = some (.int .i64 nd.close) := cell_arr hob rfl; have n4 : w6.cell? ⟨ob, 4, none⟩ = some (.int .i64 nd.decl) := cell_arr hob rfl; have n5 : w6.cell? ⟨ob, 5, none⟩ = some (.int .i64 nd.typ) := cell_arr hob rfl; have n6 : w6.cell? ⟨ob, 6, none⟩ = some (.int .i64 nd.op) := cell_arr hob rfl; have n7 : w6.cell? ⟨ob, 7, none⟩ = some (.int .i64 nd.val) := cell_arr hob rfl; have n8 : w6.cell? ⟨ob, 8, none⟩ = some (.string s) := cell_arr hob rfl; have n9 : w6.cell? ⟨ob, 9, none⟩ = some (.slice (some ⟨kb, ko, none⟩) kl kc) := cell_arr hob rfl)
                    | (at_builtin; refine wpList_append_strP rfl _ _ rfl (w.heap.size + 1) _ (m + 1) (O ++ [41]) ?_ HKc.oo _ X ?_ rfl hA1 (hB1 _ hbB) ?_; (next => rfl); (next => rfl); intro v7 w7 HO7 hG7; have hg7 : ∀ b, b < w6.heap.size → (Value.slice oa (m + 1) oc).ownBlock ≠ some b → w7.heap[b]? = w6.heap[b]? := (fun b h1 h2 => grown_at hG7 h1 h2); have hbB := hbB.grown hG7 (hB1 _ hbB) (fun k hk => (own_block HKc.oo.out hk).1); have hbw : Below w.heap.size w w7 := hw2.trans (hbB.mono (by omega)); clear f0 f1 hob xq n0 n1 n2 n3 n4 n5 n6 n7 n8 n9; obtain ⟨oa, oc, rfl⟩ := own_slice HO7.out; have HPEc := HPEc.grow HKc.oo (by omega) (own_apart HKc.ox.out HKc.oo.out (by decide) xg rfl) hg7; have HKc := HKc.grow HO7 hg7; have f0 := HPEc.f0; have f1 := HPEc.f1; have hob := HPEc.ob; have xq := HPEc.xq; have n0 : w7.cell? ⟨ob, 0, none⟩ = some (.int .i64 nd.kind) := cell_arr hob rfl; have n1 : w7.cell? ⟨ob, 1, none⟩ = some (.int .i64 nd.at_) := cell_arr hob rfl; have n2 : w7.cell? ⟨ob, 2, none⟩ = some (.int .i64 nd.wh) := cell_arr hob rfl; have n3 : w7.cell? ⟨ob, 3, none⟩ = some (.int .i64 nd.close) := cell_arr hob rfl; have n4 : w7.cell? ⟨ob, 4, none⟩ = some (.int .i64 nd.decl) := cell_arr hob rfl; have n5 : w7.cell? ⟨ob, 5, none⟩ = some (.int .i64 nd.typ) := cell_arr hob rfl; have n6 : w7.cell? ⟨ob, 6, none⟩ = some (.int .i64 nd.op) := cell_arr hob rfl; have n7 : w7.cell? ⟨ob, 7, none⟩ = some (.int .i64 nd.val) := cell_arr hob rfl; have n8 : w7.cell? ⟨ob, 8, none⟩ = some (.string s) := cell_arr hob rfl; have n9 : w7.cell? ⟨ob, 9, none⟩ = some (.slice (some ⟨kb, ko, none⟩) kl kc) := cell_arr hob rfl; have hfz : w7.frozen? ⟨xg, r, none⟩ = false := row_fz HKc.ox.out r; obtain ⟨HT1, HT2, HT3⟩ := HKc.turn HE.out.2.2.2.2.2; have kq : w7.cell? ⟨kb, ko + j, none⟩ = some (.int .i64 x) := cell_below hbw hkbl kqw; have hne1 : ¬ ob = xg := (by omega); have hne2 : ¬ xg = ob := (by omega); have hne3 : ¬ kb = xg := (by omega); have hne4 : ¬ xg = kb := (by omega); have hAC : w.heap.size + 1 ≤ (w7.setCell ⟨xg, r, none⟩ (.int .i64 ((j : Int) + 1))).heap.size := (by simp [World.setCell]; have := hB1 _ hbB; omega); have hAD : r + 1 + 1 ≤ 17592186044416 := (by omega))
                    | (at_builtin; refine wpList_append_intG rfl _ _ rfl (w.heap.size + 1) _ (r + 1) _ 0 ?_ HX8 ?_ hAD hAE ?_; (next => rfl); (next => rfl); intro v9 w9 HO9 hG9)
                    | (at_builtin; refine wpList_append_intH rfl _ _ rfl (w.heap.size + 1) _ (r + 1) _ x w7.heap.size ?_ HT2 ?_ (by simp [World.setCell]) hAD hAC ?_; (next => rfl); (next => rfl); intro v8 w8 HO8 hG8; obtain ⟨na8, nc8, rfl⟩ := own_slice HO8.out; have HX8 := HT1.gi hG8 (fun b hb e => HKc.a3 b e hb); have hAE : w.heap.size + 1 ≤ w8.heap.size := (by have := hG8.size; omega)))
                  obtain ⟨hX1, hX2⟩ := HX.out
                  have HPN := HKc.push (by rw [HE.out.2.1]; exact hX1) (by rw [hX2]; exact (List.getElem_of_eq HE.out.2.1 _).symm) HE.out.2.2.2.2.2 HO8 hG8 HO9 hG9
                  have hbN : Below (w.heap.size + 1) w2 w9 := ((hbB.setCell (p := ⟨xg, r, none⟩) (by show w.heap.size + 1 ≤ xg; omega) _).trans hG8.bel).trans hG9.bel
                  go_roundg (2 * k3 + (r + 1 + 1))
                  case rel => exact ⟨k3, _, r + 1 + 1, _, _, HPN, HR3'.out, rfl, int_eq (by have h1 := HO3.out; have h2 := HOB.out; simp only [bks, nbk] at h1 ⊢; simp; omega), hbN⟩
                  case measure => have := HMM.out; omega
                · skip
                  have hkB : (nd.kind == 3) = true := by simpa using hk3
                  have hjB : ((j : Int) == 0) = false := by simp; omega
                  have hjP : decide (0 < (j : Int)) = true := by simp; omega
                  have hjP2 : decide (0 < j) = true := by simp; omega
                  have hjL : ¬ (j : Int) < (kl : Int) := by omega
                  have hcl : clx T.nodes nd j = [41] := by simp [clx, HAR.out]; omega
                  rw [hcl] at HR2
                  have HR2n : RunsOKx T.nodes k2 ⟨(O ++ [41]), segs T.nodes (ndOf T.nodes (i : Int)) j ++ RP T.nodes S2, o⟩ s1 := by rw [HE.out.1]; exact HR2
                  obtain ⟨k3, hk3l, HR3⟩ := r_pop (by rw [HE.out.1]; have := HE.out; omega) HO3.out HR2n
                  rw [HE.out.1] at HR3
                  obtain ⟨X, hX⟩ : ∃ X, X = etx o (tl nd) := ⟨_, rfl⟩
                  rw [← hX] at HR3
                  have hXl := r_len HR3
                  have BHD : ∀ wx, Calls Tryz.prog 25 #[.agg #[.int .i64 nd.kind, .int .i64 nd.at_, .int .i64 nd.wh, .int .i64 nd.close, .int .i64 nd.decl, .int .i64 nd.typ, .int .i64 nd.op, .int .i64 nd.val, .string s, .slice ka kl kc], .int .i64 (bv : Int)] wx fun e w' => e = .returned (.string (bs X)) ∧ Below wx.heap.size wx w' := fun wx => by
                    have := rBehind_all wx T.nodes nd ka kc kl s dd vv ⟨HE.out.2.2.2.1, HNF.out.name, HDD.out, hdd, HVV.out, hvv, HE.out.2.2.1⟩ HNF.out.vk o (by omega) (by intro h; have := HO4.out h; omega)
                    rw [← hX, HOB.out] at this
                    exact this
                  clear hX
                  simp only [List.length_append] at hXl
                  have hXl2 : O.length + X.length + 1 ≤ 1000000000 := by have := HS1L.out; simp at hXl; omega
                  have hmO : m = O.length := HKc.oo.len
                  have hA1 : (m + 1) + X.length ≤ 1000000000 := by omega
                  have hA0 : m + 1 ≤ 1000000000 := by omega
                  have HR3' : Hid _ := HR3
                  have HNB : Hid (nbk T.nodes S2 + 1 = bv) := by show _ = _; have h1 := HO3.out; have h2 := HOB.out; simp only [nbk, HE.out.1] at h1; simp [hk3] at h1; omega
                  have hbvl : bv ≤ 120001 := by have := HOB.out; omega
                  clear hXl hXl2 hmO HR3 HR2 HR2n hcl hk3
                  have hB1 : ∀ wx, Below (w.heap.size + 1) w2 wx → w.heap.size + 1 ≤ wx.heap.size := fun wx h => by have := h.size; omega
                  go_wp2_with (first
                    | (go_at_call 23; refine (ARD _ hbw).mono ?_; rintro e w4 ⟨rfl, hb4⟩; clear f0 f1 hob xq n0 n1 n2 n3 n4 n5 n6 n7 n8 n9; have HKc := HKc.keep hb4; have HPEc := HPEc.keep hb4; have hbB := hbB.trans (hb4.mono (by have := hbB.size; omega)); have hbw := hbw.trans (hb4.mono hbw.size); have f0 := HPEc.f0; have f1 := HPEc.f1; have hob := HPEc.ob; have xq := HPEc.xq; have n0 : w4.cell? ⟨ob, 0, none⟩ = some (.int .i64 nd.kind) := cell_arr hob rfl; have n1 : w4.cell? ⟨ob, 1, none⟩ = some (.int .i64 nd.at_) := cell_arr hob rfl; have n2 : w4.cell? ⟨ob, 2, none⟩ = some (.int .i64 nd.wh) := cell_arr hob rfl; have n3 : w4.cell? ⟨ob, 3, none⟩ = some (.int .i64 nd.close) := cell_arr hob rfl; have n4 : w4.cell? ⟨ob, 4, none⟩ = some (.int .i64 nd.decl) := cell_arr hob rfl; have n5 : w4.cell? ⟨ob, 5, none⟩ = some (.int .i64 nd.typ) := cell_arr hob rfl; have n6 : w4.cell? ⟨ob, 6, none⟩ = some (.int .i64 nd.op) := cell_arr hob rfl; have n7 : w4.cell? ⟨ob, 7, none⟩ = some (.int .i64 nd.val) := cell_arr hob rfl; have n8 : w4.cell? ⟨ob, 8, none⟩ = some (.string s) := cell_arr hob rfl; have n9 : w4.cell? ⟨ob, 9, none⟩ = some (.slice ka kl kc) := cell_arr hob rfl)
                    | (at_builtin; refine wpList_append_byte rfl _ _ rfl (w.heap.size + 1) _ m O 41 ?_ HKc.oo ?_ hA0 (hB1 _ hbB) ?_; (next => rfl); (next => rfl); intro v5 w5 HO5 hG5; have hg5 : ∀ b, b < w4.heap.size → (Value.slice oa m oc).ownBlock ≠ some b → w5.heap[b]? = w4.heap[b]? := (fun b h1 h2 => (grown_at hG5 (by simp; omega) h2).trans (heap_alloc_old _ _ h1)); have hbB := (hbB.alloc (hB1 _ hbB) _).grown hG5 (by simp; have := hB1 _ hbB; omega) (fun k hk => (own_block HKc.oo.out hk).1); have hbw : Below w.heap.size w w5 := hw2.trans (hbB.mono (by omega)); clear f0 f1 hob xq n0 n1 n2 n3 n4 n5 n6 n7 n8 n9; obtain ⟨oa, oc, rfl⟩ := own_slice HO5.out; have HPEc := HPEc.grow HKc.oo (by omega) (own_apart HKc.ox.out HKc.oo.out (by decide) xg rfl) hg5; have HKc := HKc.grow HO5 hg5; have f0 := HPEc.f0; have f1 := HPEc.f1; have hob := HPEc.ob; have xq := HPEc.xq; have n0 : w5.cell? ⟨ob, 0, none⟩ = some (.int .i64 nd.kind) := cell_arr hob rfl; have n1 : w5.cell? ⟨ob, 1, none⟩ = some (.int .i64 nd.at_) := cell_arr hob rfl; have n2 : w5.cell? ⟨ob, 2, none⟩ = some (.int .i64 nd.wh) := cell_arr hob rfl; have n3 : w5.cell? ⟨ob, 3, none⟩ = some (.int .i64 nd.close) := cell_arr hob rfl; have n4 : w5.cell? ⟨ob, 4, none⟩ = some (.int .i64 nd.decl) := cell_arr hob rfl; have n5 : w5.cell? ⟨ob, 5, none⟩ = some (.int .i64 nd.typ) := cell_arr hob rfl; have n6 : w5.cell? ⟨ob, 6, none⟩ = some (.int .i64 nd.op) := cell_arr hob rfl; have n7 : w5.cell? ⟨ob, 7, none⟩ = some (.int .i64 nd.val) := cell_arr hob rfl; have n8 : w5.cell? ⟨ob, 8, none⟩ = some (.string s) := cell_arr hob rfl; have n9 : w5.cell? ⟨ob, 9, none⟩ = some (.slice ka kl kc) := cell_arr hob rfl)
                    | (go_at_call 25; refine (BHD _).mono ?_; rintro e w6 ⟨rfl, hb6⟩; clear f0 f1 hob xq n0 n1 n2 n3 n4 n5 n6 n7 n8 n9; have HKc := HKc.keep hb6; have HPEc := HPEc.keep hb6; have hbB := hbB.trans (hb6.mono (by have := hbB.size; omega)); have hbw := hbw.trans (hb6.mono hbw.size); have f0 := HPEc.f0; have f1 := HPEc.f1; have hob := HPEc.ob; have xq := HPEc.xq; have n0 : w6.cell? ⟨ob, 0, none⟩ = some (.int .i64 nd.kind) := cell_arr hob rfl; have n1 : w6.cell? ⟨ob, 1, none⟩ = some (.int .i64 nd.at_) := cell_arr hob rfl; have n2 : w6.cell? ⟨ob, 2, none⟩ = some (.int .i64 nd.wh) := cell_arr hob rfl; have n3 : w6.cell? ⟨ob, 3, none⟩ = some (.int .i64 nd.close) := cell_arr hob rfl; have n4 : w6.cell? ⟨ob, 4, none⟩ = some (.int .i64 nd.decl) := cell_arr hob rfl; have n5 : w6.cell? ⟨ob, 5, none⟩ = some (.int .i64 nd.typ) := cell_arr hob rfl; have n6 : w6.cell? ⟨ob, 6, none⟩ = some (.int .i64 nd.op) := cell_arr hob rfl; have n7 : w6.cell? ⟨ob, 7, none⟩ = some (.int .i64 nd.val) := cell_arr hob rfl; have n8 : w6.cell? ⟨ob, 8, none⟩ = some (.string s) := cell_arr hob rfl; have n9 : w6.cell? ⟨ob, 9, none⟩ = some (.slice ka kl kc) := cell_arr hob rfl)
                    | (at_builtin; refine wpList_append_strP rfl _ _ rfl (w.heap.size + 1) _ (m + 1) (O ++ [41]) ?_ HKc.oo _ X ?_ rfl hA1 (hB1 _ hbB) ?_; (next => rfl); (next => rfl); intro v7 w7 HO7 hG7; have hg7 : ∀ b, b < w6.heap.size → (Value.slice oa (m + 1) oc).ownBlock ≠ some b → w7.heap[b]? = w6.heap[b]? := (fun b h1 h2 => grown_at hG7 h1 h2); have hbB := hbB.grown hG7 (hB1 _ hbB) (fun k hk => (own_block HKc.oo.out hk).1); have hbw : Below w.heap.size w w7 := hw2.trans (hbB.mono (by omega)); clear f0 f1 hob xq n0 n1 n2 n3 n4 n5 n6 n7 n8 n9; obtain ⟨oa, oc, rfl⟩ := own_slice HO7.out; have HPEc := HPEc.grow HKc.oo (by omega) (own_apart HKc.ox.out HKc.oo.out (by decide) xg rfl) hg7; have HKc := HKc.grow HO7 hg7; have f0 := HPEc.f0; have f1 := HPEc.f1; have hob := HPEc.ob; have xq := HPEc.xq; have n0 : w7.cell? ⟨ob, 0, none⟩ = some (.int .i64 nd.kind) := cell_arr hob rfl; have n1 : w7.cell? ⟨ob, 1, none⟩ = some (.int .i64 nd.at_) := cell_arr hob rfl; have n2 : w7.cell? ⟨ob, 2, none⟩ = some (.int .i64 nd.wh) := cell_arr hob rfl; have n3 : w7.cell? ⟨ob, 3, none⟩ = some (.int .i64 nd.close) := cell_arr hob rfl; have n4 : w7.cell? ⟨ob, 4, none⟩ = some (.int .i64 nd.decl) := cell_arr hob rfl; have n5 : w7.cell? ⟨ob, 5, none⟩ = some (.int .i64 nd.typ) := cell_arr hob rfl; have n6 : w7.cell? ⟨ob, 6, none⟩ = some (.int .i64 nd.op) := cell_arr hob rfl; have n7 : w7.cell? ⟨ob, 7, none⟩ = some (.int .i64 nd.val) := cell_arr hob rfl; have n8 : w7.cell? ⟨ob, 8, none⟩ = some (.string s) := cell_arr hob rfl; have n9 : w7.cell? ⟨ob, 9, none⟩ = some (.slice ka kl kc) := cell_arr hob rfl))
                  have HPN := HKc.pop HE.out.2.2.2.2.2
                  go_roundg (2 * k3 + r)
                  case rel => exact ⟨k3, _, r, _, _, HPN, HR3'.out, rfl, int_eq (by rw [bks_adv (fun p hp => HKc.adv p (by simpa using hp))]; have := HNB.out; omega), hbB⟩
                  case measure => have := HMM.out; omega
          · obtain ⟨bv, hbv⟩ : ∃ bv, bv = bks T.nodes ((((i : Nat) : Int), j) :: S2) := ⟨_, rfl⟩
            have HOB : Hid (o = bv) := by show _ = _; rw [HO3.out, hbv]; simp only [bks, nbk, HE.out.1]; simp [hk3]
            rw [← hbv]
            clear hbv
            by_cases hj0 : j = 0
            · by_cases hpu : j < kl
              · skip
                have hkB : (nd.kind == 3) = false := by simpa using hk3
                have hjP : decide (0 < (j : Int)) = false := by simp; omega
                have hjP2 : decide (0 < j) = false := by simp; omega
                have hjL : (j : Int) < (kl : Int) := by omega
                have hcl : clx T.nodes nd j = [] := by simp [clx]; omega
                rw [hcl, List.append_nil] at HR2
                have hjn : j < nd.kids.length := by have := HE.out; omega
                have hx0 : nd.kids.getD j 0 = nd.kids[j] := by simp [List.getD, hjn]
                obtain ⟨x, hx⟩ : ∃ x, x = nd.kids[j] := ⟨_, rfl⟩
                have hxm : x ∈ nd.kids := by rw [hx]; exact List.getElem_mem hjn
                have hxr := hrg x hxm
                obtain ⟨xm, hxm2⟩ : ∃ xm : Nat, x = (xm : Int) := ⟨x.toNat, by omega⟩
                have hxN : xm < T.nodes.length := by have := HH.out; omega
                have hkn := HND.out xm hxN
                have ekn : ndOf T.nodes (nd.kids.getD j 0) = T.nodes[xm] := by rw [hx0, ← hx, hxm2]; exact ndOf_at xm hxN
                have HR2n : RunsOKx T.nodes k2 ⟨O, segs T.nodes (ndOf T.nodes (i : Int)) j ++ RP T.nodes S2, o⟩ s1 := by rw [HE.out.1]; exact HR2
                obtain ⟨k3, hk3l, HR3⟩ := r_push (by rw [HE.out.1]; exact hjn) (by rw [HE.out.1, ekn]; exact hkn.vk) (by rw [HE.out.1, ekn]; exact hkn.kf) HO3.out HR2n
                rw [HE.out.1, hx0, ← hx] at HR3
                obtain ⟨X, hX⟩ : ∃ X, X = ptx o (pre nd j) ++ (if ard T.nodes nd j = true then [40] else []) := ⟨_, rfl⟩
                rw [← hX] at HR3
                have hXl := r_len HR3
                have AHD : ∀ wx, Below w.heap.size w wx → Calls Tryz.prog 24 #[.agg #[.slice (some ⟨b, o', none⟩) nn nc, .slice (some ⟨fb, fo', none⟩) fn fc], .agg #[.int .i64 nd.kind, .int .i64 nd.at_, .int .i64 nd.wh, .int .i64 nd.close, .int .i64 nd.decl, .int .i64 nd.typ, .int .i64 nd.op, .int .i64 nd.val, .string s, .slice ka kl kc], .int .i64 j, .int .i64 (bv : Int)] wx fun e w' => e = .returned (.string (bs X)) ∧ Below wx.heap.size wx w' := fun wx hwx => by
                  have := rAhead_all wx _ nc nn (some ⟨fb, fo', none⟩) fc fn T.nodes nd ka kc kl s j dd pp ⟨HH.out.1, hN.below hwx (Nat.le_refl _), hKI.below hwx (Nat.le_refl _), HE.out.2.2.1, by omega, hrg, by omega, by omega, HE.out.2.2.2.1, HNF.out.name, HDD.out, hdd, HPP.out, hpp⟩ HNF.out.vk HNF.out.kf o (by omega)
                  rw [← hX, HOB.out] at this
                  exact this
                have HX : Hid (∃ h : j < nd.kids.length, x = nd.kids[j]) := ⟨hjn, hx⟩
                obtain ⟨kb, ko, eka, hKA⟩ := hKI.out (by intro e; rw [e] at hjn; simp at hjn)
                subst eka
                have kqw := hKA.cell j hjn
                rw [← hx] at kqw
                have hkbl := hKA.lt
                clear hx hxm hxm2 hxr hkn ekn hx0 hjn hKA hX
                simp only [List.length_append] at hXl
                have hXl2 : O.length + X.length + 1 ≤ 1000000000 := by have := HS1L.out; omega
                have hmO : m = O.length := HKc.oo.len
                have hA1 : m + X.length ≤ 1000000000 := by omega
                have hA0 : m + 1 ≤ 1000000000 := by omega
                have HR3' : Hid _ := HR3
                have hbvl : bv ≤ 120001 := by have := HOB.out; omega
                clear hXl hXl2 hmO HR3 HR2 HR2n hcl hk3 hj0
                have hB1 : ∀ wx, Below (w.heap.size + 1) w2 wx → w.heap.size + 1 ≤ wx.heap.size := fun wx h => by have := h.size; omega
                go_wp2_with (first
                  | (go_at_call 24; refine (AHD _ hbw).mono ?_; rintro e w6 ⟨rfl, hb6⟩; clear f0 f1 hob xq n0 n1 n2 n3 n4 n5 n6 n7 n8 n9; have HKc := HKc.keep hb6; have HPEc := HPEc.keep hb6; have hbB := hbB.trans (hb6.mono (by have := hbB.size; omega)); have hbw := hbw.trans (hb6.mono hbw.size); have f0 := HPEc.f0; have f1 := HPEc.f1; have hob := HPEc.ob; have xq := HPEc.xq; have n0 : w6.cell? ⟨ob, 0, none⟩ = some (.int .i64 nd.kind) := cell_arr hob rfl; have n1 : w6.cell? ⟨ob, 1, none⟩ = some (.int .i64 nd.at_) := cell_arr hob rfl; have n2 : w6.cell? ⟨ob, 2, none⟩ = some (.int .i64 nd.wh) := cell_arr hob rfl; have n3 : w6.cell? ⟨ob, 3, none⟩ = some (.int .i64 nd.close) := cell_arr hob rfl; have n4 : w6.cell? ⟨ob, 4, none⟩ = some (.int .i64 nd.decl) := cell_arr hob rfl; have n5 : w6.cell? ⟨ob, 5, none⟩ = some (.int .i64 nd.typ) := cell_arr hob rfl; have n6 : w6.cell? ⟨ob, 6, none⟩ = some (.int .i64 nd.op) := cell_arr hob rfl; have n7 : w6.cell? ⟨ob, 7, none⟩ = some (.int .i64 nd.val) := cell_arr hob rfl; have n8 : w6.cell? ⟨ob, 8, none⟩ = some (.string s) := cell_arr hob rfl; have n9 : w6.cell? ⟨ob, 9, none⟩ = some (.slice (some ⟨kb, ko, none⟩) kl kc) := cell_arr hob rfl)
                  | (at_builtin; refine wpList_append_strP rfl _ _ rfl (w.heap.size + 1) _ m O ?_ HKc.oo _ X ?_ rfl hA1 (hB1 _ hbB) ?_; (next => rfl); (next => rfl); intro v7 w7 HO7 hG7; have hg7 : ∀ b, b < w6.heap.size → (Value.slice oa m oc).ownBlock ≠ some b → w7.heap[b]? = w6.heap[b]? := (fun b h1 h2 => grown_at hG7 h1 h2); have hbB := hbB.grown hG7 (hB1 _ hbB) (fun k hk => (own_block HKc.oo.out hk).1); have hbw : Below w.heap.size w w7 := hw2.trans (hbB.mono (by omega)); clear f0 f1 hob xq n0 n1 n2 n3 n4 n5 n6 n7 n8 n9; obtain ⟨oa, oc, rfl⟩ := own_slice HO7.out; have HPEc := HPEc.grow HKc.oo (by omega) (own_apart HKc.ox.out HKc.oo.out (by decide) xg rfl) hg7; have HKc := HKc.grow HO7 hg7; have f0 := HPEc.f0; have f1 := HPEc.f1; have hob := HPEc.ob; have xq := HPEc.xq; have n0 : w7.cell? ⟨ob, 0, none⟩ = some (.int .i64 nd.kind) := cell_arr hob rfl; have n1 : w7.cell? ⟨ob, 1, none⟩ = some (.int .i64 nd.at_) := cell_arr hob rfl; have n2 : w7.cell? ⟨ob, 2, none⟩ = some (.int .i64 nd.wh) := cell_arr hob rfl; have n3 : w7.cell? ⟨ob, 3, none⟩ = some (.int .i64 nd.close) := cell_arr hob rfl; have n4 : w7.cell? ⟨ob, 4, none⟩ = some (.int .i64 nd.decl) := cell_arr hob rfl; have n5 : w7.cell? ⟨ob, 5, none⟩ = some (.int .i64 nd.typ) := cell_arr hob rfl; have n6 : w7.cell? ⟨ob, 6, none⟩ = some (.int .i64 nd.op) := cell_arr hob rfl; have n7 : w7.cell? ⟨ob, 7, none⟩ = some (.int .i64 nd.val) := cell_arr hob rfl; have n8 : w7.cell? ⟨ob, 8, none⟩ = some (.string s) := cell_arr hob rfl; have n9 : w7.cell? ⟨ob, 9, none⟩ = some (.slice (some ⟨kb, ko, none⟩) kl kc) := cell_arr hob rfl; have hfz : w7.frozen? ⟨xg, r, none⟩ = false := row_fz HKc.ox.out r; obtain ⟨HT1, HT2, HT3⟩ := HKc.turn HE.out.2.2.2.2.2; have kq : w7.cell? ⟨kb, ko + j, none⟩ = some (.int .i64 x) := cell_below hbw hkbl kqw; have hne1 : ¬ ob = xg := (by omega); have hne2 : ¬ xg = ob := (by omega); have hne3 : ¬ kb = xg := (by omega); have hne4 : ¬ xg = kb := (by omega); have hAC : w.heap.size + 1 ≤ (w7.setCell ⟨xg, r, none⟩ (.int .i64 ((j : Int) + 1))).heap.size := (by simp [World.setCell]; have := hB1 _ hbB; omega); have hAD : r + 1 + 1 ≤ 17592186044416 := (by omega))
                  | (at_builtin; refine wpList_append_intG rfl _ _ rfl (w.heap.size + 1) _ (r + 1) _ 0 ?_ HX8 ?_ hAD hAE ?_; (next => rfl); (next => rfl); intro v9 w9 HO9 hG9)
                  | (at_builtin; refine wpList_append_intH rfl _ _ rfl (w.heap.size + 1) _ (r + 1) _ x w7.heap.size ?_ HT2 ?_ (by simp [World.setCell]) hAD hAC ?_; (next => rfl); (next => rfl); intro v8 w8 HO8 hG8; obtain ⟨na8, nc8, rfl⟩ := own_slice HO8.out; have HX8 := HT1.gi hG8 (fun b hb e => HKc.a3 b e hb); have hAE : w.heap.size + 1 ≤ w8.heap.size := (by have := hG8.size; omega)))
                obtain ⟨hX1, hX2⟩ := HX.out
                have HPN := HKc.push (by rw [HE.out.2.1]; exact hX1) (by rw [hX2]; exact (List.getElem_of_eq HE.out.2.1 _).symm) HE.out.2.2.2.2.2 HO8 hG8 HO9 hG9
                have hbN : Below (w.heap.size + 1) w2 w9 := ((hbB.setCell (p := ⟨xg, r, none⟩) (by show w.heap.size + 1 ≤ xg; omega) _).trans hG8.bel).trans hG9.bel
                go_roundg (2 * k3 + (r + 1 + 1))
                case rel => exact ⟨k3, _, r + 1 + 1, _, _, HPN, HR3'.out, rfl, int_eq (by have h1 := HO3.out; have h2 := HOB.out; simp only [bks, nbk] at h1 ⊢; simp; omega), hbN⟩
                case measure => have := HMM.out; omega
              · skip
                have hkB : (nd.kind == 3) = false := by simpa using hk3
                have hjP : decide (0 < (j : Int)) = false := by simp; omega
                have hjP2 : decide (0 < j) = false := by simp; omega
                have hjL : ¬ (j : Int) < (kl : Int) := by omega
                have hcl : clx T.nodes nd j = [] := by simp [clx]; omega
                rw [hcl, List.append_nil] at HR2
                have HR2n : RunsOKx T.nodes k2 ⟨O, segs T.nodes (ndOf T.nodes (i : Int)) j ++ RP T.nodes S2, o⟩ s1 := by rw [HE.out.1]; exact HR2
                obtain ⟨k3, hk3l, HR3⟩ := r_pop (by rw [HE.out.1]; have := HE.out; omega) HO3.out HR2n
                rw [HE.out.1] at HR3
                obtain ⟨X, hX⟩ : ∃ X, X = etx o (tl nd) := ⟨_, rfl⟩
                rw [← hX] at HR3
                have hXl := r_len HR3
                have BHD : ∀ wx, Calls Tryz.prog 25 #[.agg #[.int .i64 nd.kind, .int .i64 nd.at_, .int .i64 nd.wh, .int .i64 nd.close, .int .i64 nd.decl, .int .i64 nd.typ, .int .i64 nd.op, .int .i64 nd.val, .string s, .slice ka kl kc], .int .i64 (bv : Int)] wx fun e w' => e = .returned (.string (bs X)) ∧ Below wx.heap.size wx w' := fun wx => by
                  have := rBehind_all wx T.nodes nd ka kc kl s dd vv ⟨HE.out.2.2.2.1, HNF.out.name, HDD.out, hdd, HVV.out, hvv, HE.out.2.2.1⟩ HNF.out.vk o (by omega) (by intro h; exact absurd h hk3)
                  rw [← hX, HOB.out] at this
                  exact this
                clear hX
                simp only [List.length_append] at hXl
                have hXl2 : O.length + X.length + 1 ≤ 1000000000 := by have := HS1L.out; omega
                have hmO : m = O.length := HKc.oo.len
                have hA1 : m + X.length ≤ 1000000000 := by omega
                have hA0 : m + 1 ≤ 1000000000 := by omega
                have HR3' : Hid _ := HR3
                have HNB : Hid (nbk T.nodes S2 = bv) := by show _ = _; have h1 := HO3.out; have h2 := HOB.out; simp only [nbk, HE.out.1] at h1; simp [hk3] at h1; omega
                have hbvl : bv ≤ 120001 := by have := HOB.out; omega
                clear hXl hXl2 hmO HR3 HR2 HR2n hcl hk3 hj0
                have hB1 : ∀ wx, Below (w.heap.size + 1) w2 wx → w.heap.size + 1 ≤ wx.heap.size := fun wx h => by have := h.size; omega
                go_wp2_with (first
                  | (go_at_call 25; refine (BHD _).mono ?_; rintro e w6 ⟨rfl, hb6⟩; clear f0 f1 hob xq n0 n1 n2 n3 n4 n5 n6 n7 n8 n9; have HKc := HKc.keep hb6; have HPEc := HPEc.keep hb6; have hbB := hbB.trans (hb6.mono (by have := hbB.size; omega)); have hbw := hbw.trans (hb6.mono hbw.size); have f0 := HPEc.f0; have f1 := HPEc.f1; have hob := HPEc.ob; have xq := HPEc.xq; have n0 : w6.cell? ⟨ob, 0, none⟩ = some (.int .i64 nd.kind) := cell_arr hob rfl; have n1 : w6.cell? ⟨ob, 1, none⟩ = some (.int .i64 nd.at_) := cell_arr hob rfl; have n2 : w6.cell? ⟨ob, 2, none⟩ = some (.int .i64 nd.wh) := cell_arr hob rfl; have n3 : w6.cell? ⟨ob, 3, none⟩ = some (.int .i64 nd.close) := cell_arr hob rfl; have n4 : w6.cell? ⟨ob, 4, none⟩ = some (.int .i64 nd.decl) := cell_arr hob rfl; have n5 : w6.cell? ⟨ob, 5, none⟩ = some (.int .i64 nd.typ) := cell_arr hob rfl; have n6 : w6.cell? ⟨ob, 6, none⟩ = some (.int .i64 nd.op) := cell_arr hob rfl; have n7 : w6.cell? ⟨ob, 7, none⟩ = some (.int .i64 nd.val) := cell_arr hob rfl; have n8 : w6.cell? ⟨ob, 8, none⟩ = some (.string s) := cell_arr hob rfl; have n9 : w6.cell? ⟨ob, 9, none⟩ = some (.slice ka kl kc) := cell_arr hob rfl)
                  | (at_builtin; refine wpList_append_strP rfl _ _ rfl (w.heap.size + 1) _ m O ?_ HKc.oo _ X ?_ rfl hA1 (hB1 _ hbB) ?_; (next => rfl); (next => rfl); intro v7 w7 HO7 hG7; have hg7 : ∀ b, b < w6.heap.size → (Value.slice oa m oc).ownBlock ≠ some b → w7.heap[b]? = w6.heap[b]? := (fun b h1 h2 => grown_at hG7 h1 h2); have hbB := hbB.grown hG7 (hB1 _ hbB) (fun k hk => (own_block HKc.oo.out hk).1); have hbw : Below w.heap.size w w7 := hw2.trans (hbB.mono (by omega)); clear f0 f1 hob xq n0 n1 n2 n3 n4 n5 n6 n7 n8 n9; obtain ⟨oa, oc, rfl⟩ := own_slice HO7.out; have HPEc := HPEc.grow HKc.oo (by omega) (own_apart HKc.ox.out HKc.oo.out (by decide) xg rfl) hg7; have HKc := HKc.grow HO7 hg7; have f0 := HPEc.f0; have f1 := HPEc.f1; have hob := HPEc.ob; have xq := HPEc.xq; have n0 : w7.cell? ⟨ob, 0, none⟩ = some (.int .i64 nd.kind) := cell_arr hob rfl; have n1 : w7.cell? ⟨ob, 1, none⟩ = some (.int .i64 nd.at_) := cell_arr hob rfl; have n2 : w7.cell? ⟨ob, 2, none⟩ = some (.int .i64 nd.wh) := cell_arr hob rfl; have n3 : w7.cell? ⟨ob, 3, none⟩ = some (.int .i64 nd.close) := cell_arr hob rfl; have n4 : w7.cell? ⟨ob, 4, none⟩ = some (.int .i64 nd.decl) := cell_arr hob rfl; have n5 : w7.cell? ⟨ob, 5, none⟩ = some (.int .i64 nd.typ) := cell_arr hob rfl; have n6 : w7.cell? ⟨ob, 6, none⟩ = some (.int .i64 nd.op) := cell_arr hob rfl; have n7 : w7.cell? ⟨ob, 7, none⟩ = some (.int .i64 nd.val) := cell_arr hob rfl; have n8 : w7.cell? ⟨ob, 8, none⟩ = some (.string s) := cell_arr hob rfl; have n9 : w7.cell? ⟨ob, 9, none⟩ = some (.slice ka kl kc) := cell_arr hob rfl))
                have HPN := HKc.pop HE.out.2.2.2.2.2
                go_roundg (2 * k3 + r)
                case rel => exact ⟨k3, _, r, _, _, HPN, HR3'.out, rfl, int_eq (by rw [bks_adv (fun p hp => HKc.adv p (by simpa using hp))]; have := HNB.out; omega), hbB⟩
                case measure => have := HMM.out; omega
            · skip
              have hjp : 0 < j := by omega
              obtain ⟨RR, hRR⟩ : ∃ R, R = ard T.nodes nd (j - 1) := ⟨_, rfl⟩
              have HAR : Hid (ard T.nodes nd (j - 1) = RR) := hRR.symm
              have ARD : ∀ wx, Below w.heap.size w wx → Calls Tryz.prog 23 #[.agg #[.slice (some ⟨b, o', none⟩) nn nc, .slice (some ⟨fb, fo', none⟩) fn fc], .agg #[.int .i64 nd.kind, .int .i64 nd.at_, .int .i64 nd.wh, .int .i64 nd.close, .int .i64 nd.decl, .int .i64 nd.typ, .int .i64 nd.op, .int .i64 nd.val, .string s, .slice ka kl kc], .int .i64 ((j : Int) - 1)] wx fun e w' => e = .returned (.bool RR) ∧ Below wx.heap.size wx w' := fun wx hwx => by
                have := rAround_any wx _ nc nn (some ⟨fb, fo', none⟩) fc fn T.nodes HH.out.1 (hN.below hwx (Nat.le_refl _)) nd ka kc kl s (hKI.below hwx (Nat.le_refl _)) HE.out.2.2.1 (j - 1) (by omega) hrg (by omega) (by omega) RR hRR
                rw [show (((j - 1 : Nat)) : Int) = (j : Int) - 1 by omega] at this
                exact this
              clear hRR
              cases RR
              · by_cases hpu : j < kl
                · skip
                  have hkB : (nd.kind == 3) = false := by simpa using hk3
                  have hjP : decide (0 < (j : Int)) = true := by simp; omega
                  have hjP2 : decide (0 < j) = true := by simp; omega
                  have hjL : (j : Int) < (kl : Int) := by omega
                  have hcl : clx T.nodes nd j = [] := by simp [clx, HAR.out]
                  rw [hcl, List.append_nil] at HR2
                  have hjn : j < nd.kids.length := by have := HE.out; omega
                  have hx0 : nd.kids.getD j 0 = nd.kids[j] := by simp [List.getD, hjn]
                  obtain ⟨x, hx⟩ : ∃ x, x = nd.kids[j] := ⟨_, rfl⟩
                  have hxm : x ∈ nd.kids := by rw [hx]; exact List.getElem_mem hjn
                  have hxr := hrg x hxm
                  obtain ⟨xm, hxm2⟩ : ∃ xm : Nat, x = (xm : Int) := ⟨x.toNat, by omega⟩
                  have hxN : xm < T.nodes.length := by have := HH.out; omega
                  have hkn := HND.out xm hxN
                  have ekn : ndOf T.nodes (nd.kids.getD j 0) = T.nodes[xm] := by rw [hx0, ← hx, hxm2]; exact ndOf_at xm hxN
                  have HR2n : RunsOKx T.nodes k2 ⟨O, segs T.nodes (ndOf T.nodes (i : Int)) j ++ RP T.nodes S2, o⟩ s1 := by rw [HE.out.1]; exact HR2
                  obtain ⟨k3, hk3l, HR3⟩ := r_push (by rw [HE.out.1]; exact hjn) (by rw [HE.out.1, ekn]; exact hkn.vk) (by rw [HE.out.1, ekn]; exact hkn.kf) HO3.out HR2n
                  rw [HE.out.1, hx0, ← hx] at HR3
                  obtain ⟨X, hX⟩ : ∃ X, X = ptx o (pre nd j) ++ (if ard T.nodes nd j = true then [40] else []) := ⟨_, rfl⟩
                  rw [← hX] at HR3
                  have hXl := r_len HR3
                  have AHD : ∀ wx, Below w.heap.size w wx → Calls Tryz.prog 24 #[.agg #[.slice (some ⟨b, o', none⟩) nn nc, .slice (some ⟨fb, fo', none⟩) fn fc], .agg #[.int .i64 nd.kind, .int .i64 nd.at_, .int .i64 nd.wh, .int .i64 nd.close, .int .i64 nd.decl, .int .i64 nd.typ, .int .i64 nd.op, .int .i64 nd.val, .string s, .slice ka kl kc], .int .i64 j, .int .i64 (bv : Int)] wx fun e w' => e = .returned (.string (bs X)) ∧ Below wx.heap.size wx w' := fun wx hwx => by
                    have := rAhead_all wx _ nc nn (some ⟨fb, fo', none⟩) fc fn T.nodes nd ka kc kl s j dd pp ⟨HH.out.1, hN.below hwx (Nat.le_refl _), hKI.below hwx (Nat.le_refl _), HE.out.2.2.1, by omega, hrg, by omega, by omega, HE.out.2.2.2.1, HNF.out.name, HDD.out, hdd, HPP.out, hpp⟩ HNF.out.vk HNF.out.kf o (by omega)
                    rw [← hX, HOB.out] at this
                    exact this
                  have HX : Hid (∃ h : j < nd.kids.length, x = nd.kids[j]) := ⟨hjn, hx⟩
                  obtain ⟨kb, ko, eka, hKA⟩ := hKI.out (by intro e; rw [e] at hjn; simp at hjn)
                  subst eka
                  have kqw := hKA.cell j hjn
                  rw [← hx] at kqw
                  have hkbl := hKA.lt
                  clear hx hxm hxm2 hxr hkn ekn hx0 hjn hKA hX
                  simp only [List.length_append] at hXl
                  have hXl2 : O.length + X.length + 1 ≤ 1000000000 := by have := HS1L.out; omega
                  have hmO : m = O.length := HKc.oo.len
                  have hA1 : m + X.length ≤ 1000000000 := by omega
                  have hA0 : m + 1 ≤ 1000000000 := by omega
                  have HR3' : Hid _ := HR3
                  have hbvl : bv ≤ 120001 := by have := HOB.out; omega
                  clear hXl hXl2 hmO HR3 HR2 HR2n hcl hk3
                  have hB1 : ∀ wx, Below (w.heap.size + 1) w2 wx → w.heap.size + 1 ≤ wx.heap.size := fun wx h => by have := h.size; omega
                  go_wp2_with (first
                    | (go_at_call 23; refine (ARD _ hbw).mono ?_; rintro e w4 ⟨rfl, hb4⟩; clear f0 f1 hob xq n0 n1 n2 n3 n4 n5 n6 n7 n8 n9; have HKc := HKc.keep hb4; have HPEc := HPEc.keep hb4; have hbB := hbB.trans (hb4.mono (by have := hbB.size; omega)); have hbw := hbw.trans (hb4.mono hbw.size); have f0 := HPEc.f0; have f1 := HPEc.f1; have hob := HPEc.ob; have xq := HPEc.xq; have n0 : w4.cell? ⟨ob, 0, none⟩ = some (.int .i64 nd.kind) := cell_arr hob rfl; have n1 : w4.cell? ⟨ob, 1, none⟩ = some (.int .i64 nd.at_) := cell_arr hob rfl; have n2 : w4.cell? ⟨ob, 2, none⟩ = some (.int .i64 nd.wh) := cell_arr hob rfl; have n3 : w4.cell? ⟨ob, 3, none⟩ = some (.int .i64 nd.close) := cell_arr hob rfl; have n4 : w4.cell? ⟨ob, 4, none⟩ = some (.int .i64 nd.decl) := cell_arr hob rfl; have n5 : w4.cell? ⟨ob, 5, none⟩ = some (.int .i64 nd.typ) := cell_arr hob rfl; have n6 : w4.cell? ⟨ob, 6, none⟩ = some (.int .i64 nd.op) := cell_arr hob rfl; have n7 : w4.cell? ⟨ob, 7, none⟩ = some (.int .i64 nd.val) := cell_arr hob rfl; have n8 : w4.cell? ⟨ob, 8, none⟩ = some (.string s) := cell_arr hob rfl; have n9 : w4.cell? ⟨ob, 9, none⟩ = some (.slice (some ⟨kb, ko, none⟩) kl kc) := cell_arr hob rfl)
                    | (go_at_call 24; refine (AHD _ hbw).mono ?_; rintro e w6 ⟨rfl, hb6⟩; clear f0 f1 hob xq n0 n1 n2 n3 n4 n5 n6 n7 n8 n9; have HKc := HKc.keep hb6; have HPEc := HPEc.keep hb6; have hbB := hbB.trans (hb6.mono (by have := hbB.size; omega)); have hbw := hbw.trans (hb6.mono hbw.size); have f0 := HPEc.f0; have f1 := HPEc.f1; have hob := HPEc.ob; have xq := HPEc.xq; have n0 : w6.cell? ⟨ob, 0, none⟩ = some (.int .i64 nd.kind) := cell_arr hob rfl; have n1 : w6.cell? ⟨ob, 1, none⟩ = some (.int .i64 nd.at_) := cell_arr hob rfl; have n2 : w6.cell? ⟨ob, 2, none⟩ = some (.int .i64 nd.wh) := cell_arr hob rfl; have n3 : w6.cell? ⟨ob, 3, none⟩ = some (.int .i64 nd.close) := cell_arr hob rfl; have n4 : w6.cell? ⟨ob, 4, none⟩ = some (.int .i64 nd.decl) := cell_arr hob rfl; have n5 : w6.cell? ⟨ob, 5, none⟩ = some (.int .i64 nd.typ) := cell_arr hob rfl; have n6 : w6.cell? ⟨ob, 6, none⟩ = some (.int .i64 nd.op) := cell_arr hob rfl; have n7 : w6.cell? ⟨ob, 7, none⟩ = some (.int .i64 nd.val) := cell_arr hob rfl; have n8 : w6.cell? ⟨ob, 8, none⟩ = some (.string s) := cell_arr hob rfl; have n9 : w6.cell? ⟨ob, 9, none⟩ = some (.slice (some ⟨kb, ko, none⟩) kl kc) := cell_arr hob rfl)
                    | (at_builtin; refine wpList_append_strP rfl _ _ rfl (w.heap.size + 1) _ m O ?_ HKc.oo _ X ?_ rfl hA1 (hB1 _ hbB) ?_; (next => rfl); (next => rfl); intro v7 w7 HO7 hG7; have hg7 : ∀ b, b < w6.heap.size → (Value.slice oa m oc).ownBlock ≠ some b → w7.heap[b]? = w6.heap[b]? := (fun b h1 h2 => grown_at hG7 h1 h2); have hbB := hbB.grown hG7 (hB1 _ hbB) (fun k hk => (own_block HKc.oo.out hk).1); have hbw : Below w.heap.size w w7 := hw2.trans (hbB.mono (by omega)); clear f0 f1 hob xq n0 n1 n2 n3 n4 n5 n6 n7 n8 n9; obtain ⟨oa, oc, rfl⟩ := own_slice HO7.out; have HPEc := HPEc.grow HKc.oo (by omega) (own_apart HKc.ox.out HKc.oo.out (by decide) xg rfl) hg7; have HKc := HKc.grow HO7 hg7; have f0 := HPEc.f0; have f1 := HPEc.f1; have hob := HPEc.ob; have xq := HPEc.xq; have n0 : w7.cell? ⟨ob, 0, none⟩ = some (.int .i64 nd.kind) := cell_arr hob rfl; have n1 : w7.cell? ⟨ob, 1, none⟩ = some (.int .i64 nd.at_) := cell_arr hob rfl; have n2 : w7.cell? ⟨ob, 2, none⟩ = some (.int .i64 nd.wh) := cell_arr hob rfl; have n3 : w7.cell? ⟨ob, 3, none⟩ = some (.int .i64 nd.close) := cell_arr hob rfl; have n4 : w7.cell? ⟨ob, 4, none⟩ = some (.int .i64 nd.decl) := cell_arr hob rfl; have n5 : w7.cell? ⟨ob, 5, none⟩ = some (.int .i64 nd.typ) := cell_arr hob rfl; have n6 : w7.cell? ⟨ob, 6, none⟩ = some (.int .i64 nd.op) := cell_arr hob rfl; have n7 : w7.cell? ⟨ob, 7, none⟩ = some (.int .i64 nd.val) := cell_arr hob rfl; have n8 : w7.cell? ⟨ob, 8, none⟩ = some (.string s) := cell_arr hob rfl; have n9 : w7.cell? ⟨ob, 9, none⟩ = some (.slice (some ⟨kb, ko, none⟩) kl kc) := cell_arr hob rfl; have hfz : w7.frozen? ⟨xg, r, none⟩ = false := row_fz HKc.ox.out r; obtain ⟨HT1, HT2, HT3⟩ := HKc.turn HE.out.2.2.2.2.2; have kq : w7.cell? ⟨kb, ko + j, none⟩ = some (.int .i64 x) := cell_below hbw hkbl kqw; have hne1 : ¬ ob = xg := (by omega); have hne2 : ¬ xg = ob := (by omega); have hne3 : ¬ kb = xg := (by omega); have hne4 : ¬ xg = kb := (by omega); have hAC : w.heap.size + 1 ≤ (w7.setCell ⟨xg, r, none⟩ (.int .i64 ((j : Int) + 1))).heap.size := (by simp [World.setCell]; have := hB1 _ hbB; omega); have hAD : r + 1 + 1 ≤ 17592186044416 := (by omega))
                    | (at_builtin; refine wpList_append_intG rfl _ _ rfl (w.heap.size + 1) _ (r + 1) _ 0 ?_ HX8 ?_ hAD hAE ?_; (next => rfl); (next => rfl); intro v9 w9 HO9 hG9)
                    | (at_builtin; refine wpList_append_intH rfl _ _ rfl (w.heap.size + 1) _ (r + 1) _ x w7.heap.size ?_ HT2 ?_ (by simp [World.setCell]) hAD hAC ?_; (next => rfl); (next => rfl); intro v8 w8 HO8 hG8; obtain ⟨na8, nc8, rfl⟩ := own_slice HO8.out; have HX8 := HT1.gi hG8 (fun b hb e => HKc.a3 b e hb); have hAE : w.heap.size + 1 ≤ w8.heap.size := (by have := hG8.size; omega)))
                  obtain ⟨hX1, hX2⟩ := HX.out
                  have HPN := HKc.push (by rw [HE.out.2.1]; exact hX1) (by rw [hX2]; exact (List.getElem_of_eq HE.out.2.1 _).symm) HE.out.2.2.2.2.2 HO8 hG8 HO9 hG9
                  have hbN : Below (w.heap.size + 1) w2 w9 := ((hbB.setCell (p := ⟨xg, r, none⟩) (by show w.heap.size + 1 ≤ xg; omega) _).trans hG8.bel).trans hG9.bel
                  go_roundg (2 * k3 + (r + 1 + 1))
                  case rel => exact ⟨k3, _, r + 1 + 1, _, _, HPN, HR3'.out, rfl, int_eq (by have h1 := HO3.out; have h2 := HOB.out; simp only [bks, nbk] at h1 ⊢; simp; omega), hbN⟩
                  case measure => have := HMM.out; omega
                · skip
                  have hkB : (nd.kind == 3) = false := by simpa using hk3
                  have hjP : decide (0 < (j : Int)) = true := by simp; omega
                  have hjP2 : decide (0 < j) = true := by simp; omega
                  have hjL : ¬ (j : Int) < (kl : Int) := by omega
                  have hcl : clx T.nodes nd j = [] := by simp [clx, HAR.out]
                  rw [hcl, List.append_nil] at HR2
                  have HR2n : RunsOKx T.nodes k2 ⟨O, segs T.nodes (ndOf T.nodes (i : Int)) j ++ RP T.nodes S2, o⟩ s1 := by rw [HE.out.1]; exact HR2
                  obtain ⟨k3, hk3l, HR3⟩ := r_pop (by rw [HE.out.1]; have := HE.out; omega) HO3.out HR2n
                  rw [HE.out.1] at HR3
                  obtain ⟨X, hX⟩ : ∃ X, X = etx o (tl nd) := ⟨_, rfl⟩
                  rw [← hX] at HR3
                  have hXl := r_len HR3
                  have BHD : ∀ wx, Calls Tryz.prog 25 #[.agg #[.int .i64 nd.kind, .int .i64 nd.at_, .int .i64 nd.wh, .int .i64 nd.close, .int .i64 nd.decl, .int .i64 nd.typ, .int .i64 nd.op, .int .i64 nd.val, .string s, .slice ka kl kc], .int .i64 (bv : Int)] wx fun e w' => e = .returned (.string (bs X)) ∧ Below wx.heap.size wx w' := fun wx => by
                    have := rBehind_all wx T.nodes nd ka kc kl s dd vv ⟨HE.out.2.2.2.1, HNF.out.name, HDD.out, hdd, HVV.out, hvv, HE.out.2.2.1⟩ HNF.out.vk o (by omega) (by intro h; exact absurd h hk3)
                    rw [← hX, HOB.out] at this
                    exact this
                  clear hX
                  simp only [List.length_append] at hXl
                  have hXl2 : O.length + X.length + 1 ≤ 1000000000 := by have := HS1L.out; omega
                  have hmO : m = O.length := HKc.oo.len
                  have hA1 : m + X.length ≤ 1000000000 := by omega
                  have hA0 : m + 1 ≤ 1000000000 := by omega
                  have HR3' : Hid _ := HR3
                  have HNB : Hid (nbk T.nodes S2 = bv) := by show _ = _; have h1 := HO3.out; have h2 := HOB.out; simp only [nbk, HE.out.1] at h1; simp [hk3] at h1; omega
                  have hbvl : bv ≤ 120001 := by have := HOB.out; omega
                  clear hXl hXl2 hmO HR3 HR2 HR2n hcl hk3
                  have hB1 : ∀ wx, Below (w.heap.size + 1) w2 wx → w.heap.size + 1 ≤ wx.heap.size := fun wx h => by have := h.size; omega
                  go_wp2_with (first
                    | (go_at_call 23; refine (ARD _ hbw).mono ?_; rintro e w4 ⟨rfl, hb4⟩; clear f0 f1 hob xq n0 n1 n2 n3 n4 n5 n6 n7 n8 n9; have HKc := HKc.keep hb4; have HPEc := HPEc.keep hb4; have hbB := hbB.trans (hb4.mono (by have := hbB.size; omega)); have hbw := hbw.trans (hb4.mono hbw.size); have f0 := HPEc.f0; have f1 := HPEc.f1; have hob := HPEc.ob; have xq := HPEc.xq; have n0 : w4.cell? ⟨ob, 0, none⟩ = some (.int .i64 nd.kind) := cell_arr hob rfl; have n1 : w4.cell? ⟨ob, 1, none⟩ = some (.int .i64 nd.at_) := cell_arr hob rfl; have n2 : w4.cell? ⟨ob, 2, none⟩ = some (.int .i64 nd.wh) := cell_arr hob rfl; have n3 : w4.cell? ⟨ob, 3, none⟩ = some (.int .i64 nd.close) := cell_arr hob rfl; have n4 : w4.cell? ⟨ob, 4, none⟩ = some (.int .i64 nd.decl) := cell_arr hob rfl; have n5 : w4.cell? ⟨ob, 5, none⟩ = some (.int .i64 nd.typ) := cell_arr hob rfl; have n6 : w4.cell? ⟨ob, 6, none⟩ = some (.int .i64 nd.op) := cell_arr hob rfl; have n7 : w4.cell? ⟨ob, 7, none⟩ = some (.int .i64 nd.val) := cell_arr hob rfl; have n8 : w4.cell? ⟨ob, 8, none⟩ = some (.string s) := cell_arr hob rfl; have n9 : w4.cell? ⟨ob, 9, none⟩ = some (.slice ka kl kc) := cell_arr hob rfl)
                    | (go_at_call 25; refine (BHD _).mono ?_; rintro e w6 ⟨rfl, hb6⟩; clear f0 f1 hob xq n0 n1 n2 n3 n4 n5 n6 n7 n8 n9; have HKc := HKc.keep hb6; have HPEc := HPEc.keep hb6; have hbB := hbB.trans (hb6.mono (by have := hbB.size; omega)); have hbw := hbw.trans (hb6.mono hbw.size); have f0 := HPEc.f0; have f1 := HPEc.f1; have hob := HPEc.ob; have xq := HPEc.xq; have n0 : w6.cell? ⟨ob, 0, none⟩ = some (.int .i64 nd.kind) := cell_arr hob rfl; have n1 : w6.cell? ⟨ob, 1, none⟩ = some (.int .i64 nd.at_) := cell_arr hob rfl; have n2 : w6.cell? ⟨ob, 2, none⟩ = some (.int .i64 nd.wh) := cell_arr hob rfl; have n3 : w6.cell? ⟨ob, 3, none⟩ = some (.int .i64 nd.close) := cell_arr hob rfl; have n4 : w6.cell? ⟨ob, 4, none⟩ = some (.int .i64 nd.decl) := cell_arr hob rfl; have n5 : w6.cell? ⟨ob, 5, none⟩ = some (.int .i64 nd.typ) := cell_arr hob rfl; have n6 : w6.cell? ⟨ob, 6, none⟩ = some (.int .i64 nd.op) := cell_arr hob rfl; have n7 : w6.cell? ⟨ob, 7, none⟩ = some (.int .i64 nd.val) := cell_arr hob rfl; have n8 : w6.cell? ⟨ob, 8, none⟩ = some (.string s) := cell_arr hob rfl; have n9 : w6.cell? ⟨ob, 9, none⟩ = some (.slice ka kl kc) := cell_arr hob rfl)
                    | (at_builtin; refine wpList_append_strP rfl _ _ rfl (w.heap.size + 1) _ m O ?_ HKc.oo _ X ?_ rfl hA1 (hB1 _ hbB) ?_; (next => rfl); (next => rfl); intro v7 w7 HO7 hG7; have hg7 : ∀ b, b < w6.heap.size → (Value.slice oa m oc).ownBlock ≠ some b → w7.heap[b]? = w6.heap[b]? := (fun b h1 h2 => grown_at hG7 h1 h2); have hbB := hbB.grown hG7 (hB1 _ hbB) (fun k hk => (own_block HKc.oo.out hk).1); have hbw : Below w.heap.size w w7 := hw2.trans (hbB.mono (by omega)); clear f0 f1 hob xq n0 n1 n2 n3 n4 n5 n6 n7 n8 n9; obtain ⟨oa, oc, rfl⟩ := own_slice HO7.out; have HPEc := HPEc.grow HKc.oo (by omega) (own_apart HKc.ox.out HKc.oo.out (by decide) xg rfl) hg7; have HKc := HKc.grow HO7 hg7; have f0 := HPEc.f0; have f1 := HPEc.f1; have hob := HPEc.ob; have xq := HPEc.xq; have n0 : w7.cell? ⟨ob, 0, none⟩ = some (.int .i64 nd.kind) := cell_arr hob rfl; have n1 : w7.cell? ⟨ob, 1, none⟩ = some (.int .i64 nd.at_) := cell_arr hob rfl; have n2 : w7.cell? ⟨ob, 2, none⟩ = some (.int .i64 nd.wh) := cell_arr hob rfl; have n3 : w7.cell? ⟨ob, 3, none⟩ = some (.int .i64 nd.close) := cell_arr hob rfl; have n4 : w7.cell? ⟨ob, 4, none⟩ = some (.int .i64 nd.decl) := cell_arr hob rfl; have n5 : w7.cell? ⟨ob, 5, none⟩ = some (.int .i64 nd.typ) := cell_arr hob rfl; have n6 : w7.cell? ⟨ob, 6, none⟩ = some (.int .i64 nd.op) := cell_arr hob rfl; have n7 : w7.cell? ⟨ob, 7, none⟩ = some (.int .i64 nd.val) := cell_arr hob rfl; have n8 : w7.cell? ⟨ob, 8, none⟩ = some (.string s) := cell_arr hob rfl; have n9 : w7.cell? ⟨ob, 9, none⟩ = some (.slice ka kl kc) := cell_arr hob rfl))
                  have HPN := HKc.pop HE.out.2.2.2.2.2
                  go_roundg (2 * k3 + r)
                  case rel => exact ⟨k3, _, r, _, _, HPN, HR3'.out, rfl, int_eq (by rw [bks_adv (fun p hp => HKc.adv p (by simpa using hp))]; have := HNB.out; omega), hbB⟩
                  case measure => have := HMM.out; omega
              · by_cases hpu : j < kl
                · skip
                  have hkB : (nd.kind == 3) = false := by simpa using hk3
                  have hjP : decide (0 < (j : Int)) = true := by simp; omega
                  have hjP2 : decide (0 < j) = true := by simp; omega
                  have hjL : (j : Int) < (kl : Int) := by omega
                  have hcl : clx T.nodes nd j = [41] := by simp [clx, HAR.out]; omega
                  rw [hcl] at HR2
                  have hjn : j < nd.kids.length := by have := HE.out; omega
                  have hx0 : nd.kids.getD j 0 = nd.kids[j] := by simp [List.getD, hjn]
                  obtain ⟨x, hx⟩ : ∃ x, x = nd.kids[j] := ⟨_, rfl⟩
                  have hxm : x ∈ nd.kids := by rw [hx]; exact List.getElem_mem hjn
                  have hxr := hrg x hxm
                  obtain ⟨xm, hxm2⟩ : ∃ xm : Nat, x = (xm : Int) := ⟨x.toNat, by omega⟩
                  have hxN : xm < T.nodes.length := by have := HH.out; omega
                  have hkn := HND.out xm hxN
                  have ekn : ndOf T.nodes (nd.kids.getD j 0) = T.nodes[xm] := by rw [hx0, ← hx, hxm2]; exact ndOf_at xm hxN
                  have HR2n : RunsOKx T.nodes k2 ⟨(O ++ [41]), segs T.nodes (ndOf T.nodes (i : Int)) j ++ RP T.nodes S2, o⟩ s1 := by rw [HE.out.1]; exact HR2
                  obtain ⟨k3, hk3l, HR3⟩ := r_push (by rw [HE.out.1]; exact hjn) (by rw [HE.out.1, ekn]; exact hkn.vk) (by rw [HE.out.1, ekn]; exact hkn.kf) HO3.out HR2n
                  rw [HE.out.1, hx0, ← hx] at HR3
                  obtain ⟨X, hX⟩ : ∃ X, X = ptx o (pre nd j) ++ (if ard T.nodes nd j = true then [40] else []) := ⟨_, rfl⟩
                  rw [← hX] at HR3
                  have hXl := r_len HR3
                  have AHD : ∀ wx, Below w.heap.size w wx → Calls Tryz.prog 24 #[.agg #[.slice (some ⟨b, o', none⟩) nn nc, .slice (some ⟨fb, fo', none⟩) fn fc], .agg #[.int .i64 nd.kind, .int .i64 nd.at_, .int .i64 nd.wh, .int .i64 nd.close, .int .i64 nd.decl, .int .i64 nd.typ, .int .i64 nd.op, .int .i64 nd.val, .string s, .slice ka kl kc], .int .i64 j, .int .i64 (bv : Int)] wx fun e w' => e = .returned (.string (bs X)) ∧ Below wx.heap.size wx w' := fun wx hwx => by
                    have := rAhead_all wx _ nc nn (some ⟨fb, fo', none⟩) fc fn T.nodes nd ka kc kl s j dd pp ⟨HH.out.1, hN.below hwx (Nat.le_refl _), hKI.below hwx (Nat.le_refl _), HE.out.2.2.1, by omega, hrg, by omega, by omega, HE.out.2.2.2.1, HNF.out.name, HDD.out, hdd, HPP.out, hpp⟩ HNF.out.vk HNF.out.kf o (by omega)
                    rw [← hX, HOB.out] at this
                    exact this
                  have HX : Hid (∃ h : j < nd.kids.length, x = nd.kids[j]) := ⟨hjn, hx⟩
                  obtain ⟨kb, ko, eka, hKA⟩ := hKI.out (by intro e; rw [e] at hjn; simp at hjn)
                  subst eka
                  have kqw := hKA.cell j hjn
                  rw [← hx] at kqw
                  have hkbl := hKA.lt
                  clear hx hxm hxm2 hxr hkn ekn hx0 hjn hKA hX
                  simp only [List.length_append] at hXl
                  have hXl2 : O.length + X.length + 1 ≤ 1000000000 := by have := HS1L.out; simp at hXl; omega
                  have hmO : m = O.length := HKc.oo.len
                  have hA1 : (m + 1) + X.length ≤ 1000000000 := by omega
                  have hA0 : m + 1 ≤ 1000000000 := by omega
                  have HR3' : Hid _ := HR3
                  have hbvl : bv ≤ 120001 := by have := HOB.out; omega
                  clear hXl hXl2 hmO HR3 HR2 HR2n hcl hk3
                  have hB1 : ∀ wx, Below (w.heap.size + 1) w2 wx → w.heap.size + 1 ≤ wx.heap.size := fun wx h => by have := h.size; omega
                  go_wp2_with (first
                    | (go_at_call 23; refine (ARD _ hbw).mono ?_; rintro e w4 ⟨rfl, hb4⟩; clear f0 f1 hob xq n0 n1 n2 n3 n4 n5 n6 n7 n8 n9; have HKc := HKc.keep hb4; have HPEc := HPEc.keep hb4; have hbB := hbB.trans (hb4.mono (by have := hbB.size; omega)); have hbw := hbw.trans (hb4.mono hbw.size); have f0 := HPEc.f0; have f1 := HPEc.f1; have hob := HPEc.ob; have xq := HPEc.xq; have n0 : w4.cell? ⟨ob, 0, none⟩ = some (.int .i64 nd.kind) := cell_arr hob rfl; have n1 : w4.cell? ⟨ob, 1, none⟩ = some (.int .i64 nd.at_) := cell_arr hob rfl; have n2 : w4.cell? ⟨ob, 2, none⟩ = some (.int .i64 nd.wh) := cell_arr hob rfl; have n3 : w4.cell? ⟨ob, 3, none⟩ = some (.int .i64 nd.close) := cell_arr hob rfl; have n4 : w4.cell? ⟨ob, 4, none⟩ = some (.int .i64 nd.decl) := cell_arr hob rfl; have n5 : w4.cell? ⟨ob, 5, none⟩ = some (.int .i64 nd.typ) := cell_arr hob rfl; have n6 : w4.cell? ⟨ob, 6, none⟩ = some (.int .i64 nd.op) := cell_arr hob rfl; have n7 : w4.cell? ⟨ob, 7, none⟩ = some (.int .i64 nd.val) := cell_arr hob rfl; have n8 : w4.cell? ⟨ob, 8, none⟩ = some (.string s) := cell_arr hob rfl; have n9 : w4.cell? ⟨ob, 9, none⟩ = some (.slice (some ⟨kb, ko, none⟩) kl kc) := cell_arr hob rfl)
                    | (at_builtin; refine wpList_append_byte rfl _ _ rfl (w.heap.size + 1) _ m O 41 ?_ HKc.oo ?_ hA0 (hB1 _ hbB) ?_; (next => rfl); (next => rfl); intro v5 w5 HO5 hG5; have hg5 : ∀ b, b < w4.heap.size → (Value.slice oa m oc).ownBlock ≠ some b → w5.heap[b]? = w4.heap[b]? := (fun b h1 h2 => (grown_at hG5 (by simp; omega) h2).trans (heap_alloc_old _ _ h1)); have hbB := (hbB.alloc (hB1 _ hbB) _).grown hG5 (by simp; have := hB1 _ hbB; omega) (fun k hk => (own_block HKc.oo.out hk).1); have hbw : Below w.heap.size w w5 := hw2.trans (hbB.mono (by omega)); clear f0 f1 hob xq n0 n1 n2 n3 n4 n5 n6 n7 n8 n9; obtain ⟨oa, oc, rfl⟩ := own_slice HO5.out; have HPEc := HPEc.grow HKc.oo (by omega) (own_apart HKc.ox.out HKc.oo.out (by decide) xg rfl) hg5; have HKc := HKc.grow HO5 hg5; have f0 := HPEc.f0; have f1 := HPEc.f1; have hob := HPEc.ob; have xq := HPEc.xq; have n0 : w5.cell? ⟨ob, 0, none⟩ = some (.int .i64 nd.kind) := cell_arr hob rfl; have n1 : w5.cell? ⟨ob, 1, none⟩ = some (.int .i64 nd.at_) := cell_arr hob rfl; have n2 : w5.cell? ⟨ob, 2, none⟩ = some (.int .i64 nd.wh) := cell_arr hob rfl; have n3 : w5.cell? ⟨ob, 3, none⟩ = some (.int .i64 nd.close) := cell_arr hob rfl; have n4 : w5.cell? ⟨ob, 4, none⟩ = some (.int .i64 nd.decl) := cell_arr hob rfl; have n5 : w5.cell? ⟨ob, 5, none⟩ = some (.int .i64 nd.typ) := cell_arr hob rfl; have n6 : w5.cell? ⟨ob, 6, none⟩ = some (.int .i64 nd.op) := cell_arr hob rfl; have n7 : w5.cell? ⟨ob, 7, none⟩ = some (.int .i64 nd.val) := cell_arr hob rfl; have n8 : w5.cell? ⟨ob, 8, none⟩ = some (.string s) := cell_arr hob rfl; have n9 : w5.cell? ⟨ob, 9, none⟩ = some (.slice (some ⟨kb, ko, none⟩) kl kc) := cell_arr hob rfl)
                    | (go_at_call 24; refine (AHD _ hbw).mono ?_; rintro e w6 ⟨rfl, hb6⟩; clear f0 f1 hob xq n0 n1 n2 n3 n4 n5 n6 n7 n8 n9; have HKc := HKc.keep hb6; have HPEc := HPEc.keep hb6; have hbB := hbB.trans (hb6.mono (by have := hbB.size; omega)); have hbw := hbw.trans (hb6.mono hbw.size); have f0 := HPEc.f0; have f1 := HPEc.f1; have hob := HPEc.ob; have xq := HPEc.xq; have n0 : w6.cell? ⟨ob, 0, none⟩ = some (.int .i64 nd.kind) := cell_arr hob rfl; have n1 : w6.cell? ⟨ob, 1, none⟩ = some (.int .i64 nd.at_) := cell_arr hob rfl; have n2 : w6.cell? ⟨ob, 2, none⟩ = some (.int .i64 nd.wh) := cell_arr hob rfl; have n3 : w6.cell? ⟨ob, 3, none⟩ = some (.int .i64 nd.close) := cell_arr hob rfl; have n4 : w6.cell? ⟨ob, 4, none⟩ = some (.int .i64 nd.decl) := cell_arr hob rfl; have n5 : w6.cell? ⟨ob, 5, none⟩ = some (.int .i64 nd.typ) := cell_arr hob rfl; have n6 : w6.cell? ⟨ob, 6, none⟩ = some (.int .i64 nd.op) := cell_arr hob rfl; have n7 : w6.cell? ⟨ob, 7, none⟩ = some (.int .i64 nd.val) := cell_arr hob rfl; have n8 : w6.cell? ⟨ob, 8, none⟩ = some (.string s) := cell_arr hob rfl; have n9 : w6.cell? ⟨ob, 9, none⟩ = some (.slice (some ⟨kb, ko, none⟩) kl kc) := cell_arr hob rfl)
                    | (at_builtin; refine wpList_append_strP rfl _ _ rfl (w.heap.size + 1) _ (m + 1) (O ++ [41]) ?_ HKc.oo _ X ?_ rfl hA1 (hB1 _ hbB) ?_; (next => rfl); (next => rfl); intro v7 w7 HO7 hG7; have hg7 : ∀ b, b < w6.heap.size → (Value.slice oa (m + 1) oc).ownBlock ≠ some b → w7.heap[b]? = w6.heap[b]? := (fun b h1 h2 => grown_at hG7 h1 h2); have hbB := hbB.grown hG7 (hB1 _ hbB) (fun k hk => (own_block HKc.oo.out hk).1); have hbw : Below w.heap.size w w7 := hw2.trans (hbB.mono (by omega)); clear f0 f1 hob xq n0 n1 n2 n3 n4 n5 n6 n7 n8 n9; obtain ⟨oa, oc, rfl⟩ := own_slice HO7.out; have HPEc := HPEc.grow HKc.oo (by omega) (own_apart HKc.ox.out HKc.oo.out (by decide) xg rfl) hg7; have HKc := HKc.grow HO7 hg7; have f0 := HPEc.f0; have f1 := HPEc.f1; have hob := HPEc.ob; have xq := HPEc.xq; have n0 : w7.cell? ⟨ob, 0, none⟩ = some (.int .i64 nd.kind) := cell_arr hob rfl; have n1 : w7.cell? ⟨ob, 1, none⟩ = some (.int .i64 nd.at_) := cell_arr hob rfl; have n2 : w7.cell? ⟨ob, 2, none⟩ = some (.int .i64 nd.wh) := cell_arr hob rfl; have n3 : w7.cell? ⟨ob, 3, none⟩ = some (.int .i64 nd.close) := cell_arr hob rfl; have n4 : w7.cell? ⟨ob, 4, none⟩ = some (.int .i64 nd.decl) := cell_arr hob rfl; have n5 : w7.cell? ⟨ob, 5, none⟩ = some (.int .i64 nd.typ) := cell_arr hob rfl; have n6 : w7.cell? ⟨ob, 6, none⟩ = some (.int .i64 nd.op) := cell_arr hob rfl; have n7 : w7.cell? ⟨ob, 7, none⟩ = some (.int .i64 nd.val) := cell_arr hob rfl; have n8 : w7.cell? ⟨ob, 8, none⟩ = some (.string s) := cell_arr hob rfl; have n9 : w7.cell? ⟨ob, 9, none⟩ = some (.slice (some ⟨kb, ko, none⟩) kl kc) := cell_arr hob rfl; have hfz : w7.frozen? ⟨xg, r, none⟩ = false := row_fz HKc.ox.out r; obtain ⟨HT1, HT2, HT3⟩ := HKc.turn HE.out.2.2.2.2.2; have kq : w7.cell? ⟨kb, ko + j, none⟩ = some (.int .i64 x) := cell_below hbw hkbl kqw; have hne1 : ¬ ob = xg := (by omega); have hne2 : ¬ xg = ob := (by omega); have hne3 : ¬ kb = xg := (by omega); have hne4 : ¬ xg = kb := (by omega); have hAC : w.heap.size + 1 ≤ (w7.setCell ⟨xg, r, none⟩ (.int .i64 ((j : Int) + 1))).heap.size := (by simp [World.setCell]; have := hB1 _ hbB; omega); have hAD : r + 1 + 1 ≤ 17592186044416 := (by omega))
                    | (at_builtin; refine wpList_append_intG rfl _ _ rfl (w.heap.size + 1) _ (r + 1) _ 0 ?_ HX8 ?_ hAD hAE ?_; (next => rfl); (next => rfl); intro v9 w9 HO9 hG9)
                    | (at_builtin; refine wpList_append_intH rfl _ _ rfl (w.heap.size + 1) _ (r + 1) _ x w7.heap.size ?_ HT2 ?_ (by simp [World.setCell]) hAD hAC ?_; (next => rfl); (next => rfl); intro v8 w8 HO8 hG8; obtain ⟨na8, nc8, rfl⟩ := own_slice HO8.out; have HX8 := HT1.gi hG8 (fun b hb e => HKc.a3 b e hb); have hAE : w.heap.size + 1 ≤ w8.heap.size := (by have := hG8.size; omega)))
                  obtain ⟨hX1, hX2⟩ := HX.out
                  have HPN := HKc.push (by rw [HE.out.2.1]; exact hX1) (by rw [hX2]; exact (List.getElem_of_eq HE.out.2.1 _).symm) HE.out.2.2.2.2.2 HO8 hG8 HO9 hG9
                  have hbN : Below (w.heap.size + 1) w2 w9 := ((hbB.setCell (p := ⟨xg, r, none⟩) (by show w.heap.size + 1 ≤ xg; omega) _).trans hG8.bel).trans hG9.bel
                  go_roundg (2 * k3 + (r + 1 + 1))
                  case rel => exact ⟨k3, _, r + 1 + 1, _, _, HPN, HR3'.out, rfl, int_eq (by have h1 := HO3.out; have h2 := HOB.out; simp only [bks, nbk] at h1 ⊢; simp; omega), hbN⟩
                  case measure => have := HMM.out; omega
                · skip
                  have hkB : (nd.kind == 3) = false := by simpa using hk3
                  have hjP : decide (0 < (j : Int)) = true := by simp; omega
                  have hjP2 : decide (0 < j) = true := by simp; omega
                  have hjL : ¬ (j : Int) < (kl : Int) := by omega
                  have hcl : clx T.nodes nd j = [41] := by simp [clx, HAR.out]; omega
                  rw [hcl] at HR2
                  have HR2n : RunsOKx T.nodes k2 ⟨(O ++ [41]), segs T.nodes (ndOf T.nodes (i : Int)) j ++ RP T.nodes S2, o⟩ s1 := by rw [HE.out.1]; exact HR2
                  obtain ⟨k3, hk3l, HR3⟩ := r_pop (by rw [HE.out.1]; have := HE.out; omega) HO3.out HR2n
                  rw [HE.out.1] at HR3
                  obtain ⟨X, hX⟩ : ∃ X, X = etx o (tl nd) := ⟨_, rfl⟩
                  rw [← hX] at HR3
                  have hXl := r_len HR3
                  have BHD : ∀ wx, Calls Tryz.prog 25 #[.agg #[.int .i64 nd.kind, .int .i64 nd.at_, .int .i64 nd.wh, .int .i64 nd.close, .int .i64 nd.decl, .int .i64 nd.typ, .int .i64 nd.op, .int .i64 nd.val, .string s, .slice ka kl kc], .int .i64 (bv : Int)] wx fun e w' => e = .returned (.string (bs X)) ∧ Below wx.heap.size wx w' := fun wx => by
                    have := rBehind_all wx T.nodes nd ka kc kl s dd vv ⟨HE.out.2.2.2.1, HNF.out.name, HDD.out, hdd, HVV.out, hvv, HE.out.2.2.1⟩ HNF.out.vk o (by omega) (by intro h; exact absurd h hk3)
                    rw [← hX, HOB.out] at this
                    exact this
                  clear hX
                  simp only [List.length_append] at hXl
                  have hXl2 : O.length + X.length + 1 ≤ 1000000000 := by have := HS1L.out; simp at hXl; omega
                  have hmO : m = O.length := HKc.oo.len
                  have hA1 : (m + 1) + X.length ≤ 1000000000 := by omega
                  have hA0 : m + 1 ≤ 1000000000 := by omega
                  have HR3' : Hid _ := HR3
                  have HNB : Hid (nbk T.nodes S2 = bv) := by show _ = _; have h1 := HO3.out; have h2 := HOB.out; simp only [nbk, HE.out.1] at h1; simp [hk3] at h1; omega
                  have hbvl : bv ≤ 120001 := by have := HOB.out; omega
                  clear hXl hXl2 hmO HR3 HR2 HR2n hcl hk3
                  have hB1 : ∀ wx, Below (w.heap.size + 1) w2 wx → w.heap.size + 1 ≤ wx.heap.size := fun wx h => by have := h.size; omega
                  go_wp2_with (first
                    | (go_at_call 23; refine (ARD _ hbw).mono ?_; rintro e w4 ⟨rfl, hb4⟩; clear f0 f1 hob xq n0 n1 n2 n3 n4 n5 n6 n7 n8 n9; have HKc := HKc.keep hb4; have HPEc := HPEc.keep hb4; have hbB := hbB.trans (hb4.mono (by have := hbB.size; omega)); have hbw := hbw.trans (hb4.mono hbw.size); have f0 := HPEc.f0; have f1 := HPEc.f1; have hob := HPEc.ob; have xq := HPEc.xq; have n0 : w4.cell? ⟨ob, 0, none⟩ = some (.int .i64 nd.kind) := cell_arr hob rfl; have n1 : w4.cell? ⟨ob, 1, none⟩ = some (.int .i64 nd.at_) := cell_arr hob rfl; have n2 : w4.cell? ⟨ob, 2, none⟩ = some (.int .i64 nd.wh) := cell_arr hob rfl; have n3 : w4.cell? ⟨ob, 3, none⟩ = some (.int .i64 nd.close) := cell_arr hob rfl; have n4 : w4.cell? ⟨ob, 4, none⟩ = some (.int .i64 nd.decl) := cell_arr hob rfl; have n5 : w4.cell? ⟨ob, 5, none⟩ = some (.int .i64 nd.typ) := cell_arr hob rfl; have n6 : w4.cell? ⟨ob, 6, none⟩ = some (.int .i64 nd.op) := cell_arr hob rfl; have n7 : w4.cell? ⟨ob, 7, none⟩ = some (.int .i64 nd.val) := cell_arr hob rfl; have n8 : w4.cell? ⟨ob, 8, none⟩ = some (.string s) := cell_arr hob rfl; have n9 : w4.cell? ⟨ob, 9, none⟩ = some (.slice ka kl kc) := cell_arr hob rfl)
                    | (at_builtin; refine wpList_append_byte rfl _ _ rfl (w.heap.size + 1) _ m O 41 ?_ HKc.oo ?_ hA0 (hB1 _ hbB) ?_; (next => rfl); (next => rfl); intro v5 w5 HO5 hG5; have hg5 : ∀ b, b < w4.heap.size → (Value.slice oa m oc).ownBlock ≠ some b → w5.heap[b]? = w4.heap[b]? := (fun b h1 h2 => (grown_at hG5 (by simp; omega) h2).trans (heap_alloc_old _ _ h1)); have hbB := (hbB.alloc (hB1 _ hbB) _).grown hG5 (by simp; have := hB1 _ hbB; omega) (fun k hk => (own_block HKc.oo.out hk).1); have hbw : Below w.heap.size w w5 := hw2.trans (hbB.mono (by omega)); clear f0 f1 hob xq n0 n1 n2 n3 n4 n5 n6 n7 n8 n9; obtain ⟨oa, oc, rfl⟩ := own_slice HO5.out; have HPEc := HPEc.grow HKc.oo (by omega) (own_apart HKc.ox.out HKc.oo.out (by decide) xg rfl) hg5; have HKc := HKc.grow HO5 hg5; have f0 := HPEc.f0; have f1 := HPEc.f1; have hob := HPEc.ob; have xq := HPEc.xq; have n0 : w5.cell? ⟨ob, 0, none⟩ = some (.int .i64 nd.kind) := cell_arr hob rfl; have n1 : w5.cell? ⟨ob, 1, none⟩ = some (.int .i64 nd.at_) := cell_arr hob rfl; have n2 : w5.cell? ⟨ob, 2, none⟩ = some (.int .i64 nd.wh) := cell_arr hob rfl; have n3 : w5.cell? ⟨ob, 3, none⟩ = some (.int .i64 nd.close) := cell_arr hob rfl; have n4 : w5.cell? ⟨ob, 4, none⟩ = some (.int .i64 nd.decl) := cell_arr hob rfl; have n5 : w5.cell? ⟨ob, 5, none⟩ = some (.int .i64 nd.typ) := cell_arr hob rfl; have n6 : w5.cell? ⟨ob, 6, none⟩ = some (.int .i64 nd.op) := cell_arr hob rfl; have n7 : w5.cell? ⟨ob, 7, none⟩ = some (.int .i64 nd.val) := cell_arr hob rfl; have n8 : w5.cell? ⟨ob, 8, none⟩ = some (.string s) := cell_arr hob rfl; have n9 : w5.cell? ⟨ob, 9, none⟩ = some (.slice ka kl kc) := cell_arr hob rfl)
                    | (go_at_call 25; refine (BHD _).mono ?_; rintro e w6 ⟨rfl, hb6⟩; clear f0 f1 hob xq n0 n1 n2 n3 n4 n5 n6 n7 n8 n9; have HKc := HKc.keep hb6; have HPEc := HPEc.keep hb6; have hbB := hbB.trans (hb6.mono (by have := hbB.size; omega)); have hbw := hbw.trans (hb6.mono hbw.size); have f0 := HPEc.f0; have f1 := HPEc.f1; have hob := HPEc.ob; have xq := HPEc.xq; have n0 : w6.cell? ⟨ob, 0, none⟩ = some (.int .i64 nd.kind) := cell_arr hob rfl; have n1 : w6.cell? ⟨ob, 1, none⟩ = some (.int .i64 nd.at_) := cell_arr hob rfl; have n2 : w6.cell? ⟨ob, 2, none⟩ = some (.int .i64 nd.wh) := cell_arr hob rfl; have n3 : w6.cell? ⟨ob, 3, none⟩ = some (.int .i64 nd.close) := cell_arr hob rfl; have n4 : w6.cell? ⟨ob, 4, none⟩ = some (.int .i64 nd.decl) := cell_arr hob rfl; have n5 : w6.cell? ⟨ob, 5, none⟩ = some (.int .i64 nd.typ) := cell_arr hob rfl; have n6 : w6.cell? ⟨ob, 6, none⟩ = some (.int .i64 nd.op) := cell_arr hob rfl; have n7 : w6.cell? ⟨ob, 7, none⟩ = some (.int .i64 nd.val) := cell_arr hob rfl; have n8 : w6.cell? ⟨ob, 8, none⟩ = some (.string s) := cell_arr hob rfl; have n9 : w6.cell? ⟨ob, 9, none⟩ = some (.slice ka kl kc) := cell_arr hob rfl)
                    | (at_builtin; refine wpList_append_strP rfl _ _ rfl (w.heap.size + 1) _ (m + 1) (O ++ [41]) ?_ HKc.oo _ X ?_ rfl hA1 (hB1 _ hbB) ?_; (next => rfl); (next => rfl); intro v7 w7 HO7 hG7; have hg7 : ∀ b, b < w6.heap.size → (Value.slice oa (m + 1) oc).ownBlock ≠ some b → w7.heap[b]? = w6.heap[b]? := (fun b h1 h2 => grown_at hG7 h1 h2); have hbB := hbB.grown hG7 (hB1 _ hbB) (fun k hk => (own_block HKc.oo.out hk).1); have hbw : Below w.heap.size w w7 := hw2.trans (hbB.mono (by omega)); clear f0 f1 hob xq n0 n1 n2 n3 n4 n5 n6 n7 n8 n9; obtain ⟨oa, oc, rfl⟩ := own_slice HO7.out; have HPEc := HPEc.grow HKc.oo (by omega) (own_apart HKc.ox.out HKc.oo.out (by decide) xg rfl) hg7; have HKc := HKc.grow HO7 hg7; have f0 := HPEc.f0; have f1 := HPEc.f1; have hob := HPEc.ob; have xq := HPEc.xq; have n0 : w7.cell? ⟨ob, 0, none⟩ = some (.int .i64 nd.kind) := cell_arr hob rfl; have n1 : w7.cell? ⟨ob, 1, none⟩ = some (.int .i64 nd.at_) := cell_arr hob rfl; have n2 : w7.cell? ⟨ob, 2, none⟩ = some (.int .i64 nd.wh) := cell_arr hob rfl; have n3 : w7.cell? ⟨ob, 3, none⟩ = some (.int .i64 nd.close) := cell_arr hob rfl; have n4 : w7.cell? ⟨ob, 4, none⟩ = some (.int .i64 nd.decl) := cell_arr hob rfl; have n5 : w7.cell? ⟨ob, 5, none⟩ = some (.int .i64 nd.typ) := cell_arr hob rfl; have n6 : w7.cell? ⟨ob, 6, none⟩ = some (.int .i64 nd.op) := cell_arr hob rfl; have n7 : w7.cell? ⟨ob, 7, none⟩ = some (.int .i64 nd.val) := cell_arr hob rfl; have n8 : w7.cell? ⟨ob, 8, none⟩ = some (.string s) := cell_arr hob rfl; have n9 : w7.cell? ⟨ob, 9, none⟩ = some (.slice ka kl kc) := cell_arr hob rfl))
                  have HPN := HKc.pop HE.out.2.2.2.2.2
                  go_roundg (2 * k3 + r)
                  case rel => exact ⟨k3, _, r, _, _, HPN, HR3'.out, rfl, int_eq (by rw [bks_adv (fun p hp => HKc.adv p (by simpa using hp))]; have := HNB.out; omega), hbB⟩
                  case measure => have := HMM.out; omega
          -- ENDROUND
        · obtain rfl : d = 0 := by omega
          have hS : S = [] := by have := HK.on.len; simp at this; exact List.length_eq_zero_iff.1 this.symm
          subst hS
          have hs1 : s1 = ⟨O, [], 0⟩ := by
            have := HR
            simp only [RP, nbk] at this
            rcases this.inv with ⟨_, e, _⟩ | ⟨_, _, _, _, e, _⟩
            · exact e
            · cases e
          have HP2 : PrintsOKx T.nodes (T.funcs.drop (q + 1)) ⟨O, [], 0⟩ S' := by rw [← hs1]; exact HP1'.out
          obtain ⟨na, nc2, rfl⟩ := own_slice HK.on.out
          clear hs1 HR HP1' HS1L
          go_wp2_with fail
          go_roundw
          case rel => exact ⟨q + 1, m, O, by omega, by go_num, HK.oo, HP2, hbr⟩
          case measure => simp [intOf]; omega
    · have hql : fn = q := by omega
      subst hql
      have hdr : T.funcs.drop fn = [] := by rw [HH.out.2]; simp
      rw [hdr] at HP
      have hE := HP.done
      have HE : Hid (S'.text = O) := by show _ = _; rw [hE]
      clear hE HP hP hdr
      go_wp2_with fail
      go_ret2
      exact ⟨⟨_, _, rfl, by rw [HE.out]; exact HO⟩, hbW⟩
end Go.Proofs.YtchobeakieljpaaGreatDoor
