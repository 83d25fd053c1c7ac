import Derived.Test.YtddcpbidlbiamaaHkB
set_option linter.unusedVariables false
set_option linter.unusedSimpArgs false
namespace Go.Proofs.Ytddcpbidlbiamaa
open Go.ChangeShapes Go.WideShapes Go.ChangeAt Go.RowKit

set_option maxRecDepth 100000 in
theorem keeps_long (ao po : Option Addr) (len cap plen pcap : Nat) (h : 200 < len ∨ 2000 < plen) (hl : len ≤ 9223372036854775807) (hp : plen ≤ 9223372036854775807) (w : World) : Calls Try.prog 6 #[.slice ao len cap, .slice po plen pcap] w fun e w' => e = .returned (.bool true) ∧ Below w.heap.size w w' := by
  by_cases h1 : 200 < len
  · clear h
    go_enter Try.func6, Try.ntmps6
    go_wp2
    go_ret
    exact ⟨rfl, Below.refl _ _⟩
  · have h2 : 2000 < plen := by omega
    clear h
    go_enter Try.func6, Try.ntmps6
    go_wp2
    go_ret
    exact ⟨rfl, Below.refl _ _⟩

set_option maxHeartbeats 8000000 in
set_option maxRecDepth 100000 in
theorem keeps_any (w : World) (ao po : Option Addr) (len cap plen pcap : Nat) (hl : len ≤ 200) (hpl : plen ≤ 2000) (hcap : cap ≤ 9223372036854775807) (hlc : len ≤ cap) (hpcap : pcap ≤ 9223372036854775807) (hplc : plen ≤ pcap) (z zb zi zv : Nat → Int)
    (hz : 0 < len → ∃ b off, ao = some ⟨b, off, none⟩ ∧ Szs w b off len z) (hzp : 0 < plen → ∃ b off, po = some ⟨b, off, none⟩ ∧ Pts w b off plen zb zi zv) :
    Calls Try.prog 6 #[.slice ao len cap, .slice po plen pcap] w fun e w' => e = .returned (.bool true) ∧ Below w.heap.size w w' := by
  have HZ := show Hid (0 < len → ∃ b off, ao = some ⟨b, off, none⟩ ∧ Szs w b off len z) from hz
  have HZP := show Hid (0 < plen → ∃ b off, po = some ⟨b, off, none⟩ ∧ Pts w b off plen zb zi zv) from hzp
  clear hz hzp
  obtain ⟨i0, hi0, hz0, hz1, hz2⟩ := info_parts info3i
  have HI0 := show Hid (Try.prog.info? 3 = some i0 ∧ i0.zero = some (.int .i64 0) ∧ i0.size = 1 ∧ i0.bytes = 8) from ⟨hi0, hz0, hz1, hz2⟩
  clear hi0 hz0 hz1 hz2
  go_enter Try.func6, Try.ntmps6
  go_wp2_with fail
  refine (alive_any _).mono ?_
  rintro e w1 ⟨rfl, hb1⟩
  go_wp2_with fail
  refine (new_any _).mono ?_
  rintro e w2 ⟨rfl, hC2, hb2, hs2⟩
  have HF := show Hid _ from KS.start (fs_new hb1 hC2 hb2)
  clear hC2 hb2 hs2 hb1
  generalize w1.heap.size + 1 + 1 = h at *
  generalize w1.heap.size + 1 = n at *
  generalize w1.heap.size = m at *
  go_wp2_with fail
  go_loopw [7, 8, 9, 10] (fun nx av wv iv wr => ∃ (i : Nat) (tk : Int) (f : Int → Int) (L : List RB), i ≤ len ∧ iv = .int .i64 i ∧ nx = .int .i64 (tk + 1) ∧ KS w wr h m n tk f i av wv L ∧ L.length = i) (fun _ _ _ iv _ => len - (intOf iv).toNat)
  case atStart => exact ⟨0, 0, _, [], by omega, rfl, rfl, HF.out, rfl⟩
  case round =>
    obtain ⟨i, tk, f, L, hi, rfl, rfl, hK, hL⟩ := hrel
    have HK := show Hid (KS w wr h m n tk f i _ _ L) from hK
    have HL := show Hid (L.length = i) from hL
    have hB := hK.fs.bel.size
    obtain ⟨ga, ca, rfl, a1, a2⟩ := own_slice hK.at_.out
    obtain ⟨gw, cw, rfl, b1, b2⟩ := own_slice hK.wt
    have htk : 0 ≤ tk ∧ tk ≤ 51 * i := ⟨hK.fs.ch.lim.1, by have := hK.bd; rw [hL] at this; exact this⟩
    obtain ⟨htk0, htk1⟩ := htk
    rw [hL] at a1 b1 ⊢
    clear hK hL
    by_cases hlt : i < len
    · obtain ⟨b, off, rfl, hsz⟩ := HZ.out (by omega)
      have hS := hsz.below HK.out.fs.bel
      have q0 := hS.c i hlt
      have hfz := hS.ok i hlt
      have hsl := slot_any (z i) 50 (by omega) (by omega) hfz wr
      clear hS hsz hfz
      generalize z i = zi0 at *
      go_wp2_with fail
      refine hsl.mono ?_
      rintro e wr' ⟨rfl, q, rfl, hq⟩
      clear hsl
      have hq9 : q ≤ 49 := by omega
      go_wp2_with fail
      refine (make_yes _ HK.out.fs.ch (by omega) (q : Int) (by omega) (by omega)).mono ?_
      rintro e w3 ⟨rfl, hC3, hO3⟩
      have HC3 := show Hid _ from hC3
      have HO3 := show Hid _ from hO3
      have hB3 : w.heap.size ≤ w3.heap.size := Nat.le_trans hB hO3.size
      have HA3 : Hid (OwnI w3 w.heap.size (.slice ga i ca) i (L.map RB.a)) := by
        have h0 := HK.out.at_
        rw [HL.out] at h0
        exact h0.move fun k hk => hO3.block k (own_block h0.out hk).2 (fun hf => by have := HK.out.fs.ch.tg hf; have := h0.tg hk; omega)
      have HW3 : Hid (w3.ownsRow w.heap.size 32 1 (.slice gw i cw) i (L.map RB.vn)) := by
        have h0 := HK.out.wt
        rw [HL.out] at h0
        exact own_move h0 fun k hk => hO3.block k (own_block h0 hk).2 (fun hf => by have := HK.out.fs.ch.tg hf; have := tg_row h0 hk; omega)
      clear hC3 hO3
      have hn1 : ((tk + 1) != (tk + 1)) = false := by simp
      go_wp2_with (first
        | (at_builtin; refine wpList_append_intG rfl _ _ rfl w.heap.size _ i _ (tk + 1) ?_ HA3.out ?_ (by omega) hB3 ?_; (next => rfl); (next => rfl); intro av4 w4 hA4 hG4
           have HA4 := show Hid _ from hA4
           have HG4 := show Hid _ from hG4
           have hB4 : w.heap.size ≤ w4.heap.size := Nat.le_trans hB3 hG4.size
           have HW4 : Hid (w4.ownsRow w.heap.size 32 1 (.slice gw i cw) i (L.map RB.vn)) := own_move HW3.out fun k hk => hG4.blk k (own_block HW3.out hk).2 (fun e => by have := tg_row HW3.out hk; have := HA3.out.tg e; omega)
           clear hA4 hG4)
        | (at_make; refine wpList_make_full _ rfl _ _ 32 rfl w.heap.size 3 i0 (.int .i64 0) 1 Try.underlying32 HI0.out.1 HI0.out.2.1 HI0.out.2.2.1 .i64 .i64 _ _ q rfl rfl rfl rfl (by rw [HI0.out.2.2.2]; omega) (by unfold maxLen; omega) hB4 ?_; intro w5 hr5 hg5
           have HR5 := show Hid _ from hr5
           have HG5 := show Hid _ from hg5
           have hB5 : w.heap.size ≤ w5.heap.size := Nat.le_trans hB4 hg5.size
           have HW5 : Hid (w5.ownsRow w.heap.size 32 1 (.slice gw i cw) i (L.map RB.vn)) := own_move HW4.out fun k hk => hg5.block k (own_block HW4.out hk).2 (by simp)
           clear hr5 hg5)
        | (at_builtin; refine wpList_append_sl rfl _ _ rfl w.heap.size _ i _ (L.map RB.vn) _ _ _ ?_ HW5.out ?_ rfl (by omega) hB5 ?_; (next => rfl); (next => rfl); intro wv6 w6 hW6 hG6
           have HW6 := show Hid _ from hW6
           have HG6 := show Hid _ from hG6
           clear hW6 hG6)
        | go_in)
      go_roundw
      case rel => exact ⟨i + 1, tk + q + 1, f, _, by omega, by go_num, by congr 1; omega, HK.out.add q (by omega) HC3.out HO3.out (by rw [HL.out]; exact HA4.out) (by rw [HL.out]; exact HG4.out) rfl HR5.out HG5.out (by rw [HL.out]; exact HW6.out) (by rw [HL.out]; exact HG6.out), by simp; exact HL.out⟩
      case measure => simp [intOf]; omega
    · have hil : len = i := by omega
      subst hil
      clear HF
      go_wp2_with fail
      go_loopw [14] (fun iv wr2 => ∃ (i : Nat) (f' : Int → Int) (L' : List RB), i ≤ plen ∧ iv = .int .i64 i ∧ KS w wr2 h m n tk f' (len + i) (.slice ga len ca) (.slice gw len cw) L' ∧ L'.length = len) (fun iv _ => plen - (intOf iv).toNat)
      case atStart =>
        have h0 := HK.out
        rw [HL.out] at h0
        exact ⟨0, f, L, by omega, rfl, h0, HL.out⟩
      case round =>
        clear HK HL L f
        obtain ⟨i, f, L, hi2, rfl, hK, hL⟩ := hrel
        have HK := show Hid (KS w wr h m n tk f (len + i) (.slice ga len ca) (.slice gw len cw) L) from hK
        have HL := show Hid (L.length = len) from hL
        clear hK hL
        by_cases hgo : i < plen ∧ 0 < len
        · obtain ⟨hlt2, hpos⟩ := hgo
          obtain ⟨pb, off, rfl, hpt⟩ := HZP.out (by omega)
          have hP := hpt.below HK.out.fs.bel
          obtain ⟨p0, p1, p2⟩ := hP.c i hlt2
          obtain ⟨f0, f1, f2⟩ := hP.ok i hlt2
          have HFV := show Hid (Fits (zv i)) from f2
          have HPB := show Hid (pb < w.heap.size) from hpt.lt
          have hs1 := slot_at (zb i) (len : Int) len rfl hpos (by omega) f0 wr
          have HS2 := show Hid (∀ (l : Nat) wx, l < 50 → Calls Try.prog 14 #[.int .i64 (zi i), .int .i64 ((l : Int) + 2)] wx fun e w' => w' = wx ∧ ∃ q : Nat, e = .returned (.int .i64 q) ∧ q < l + 2) from fun l wx hl => slot_at (zi i) _ (l + 2) (by omega) (by omega) (by omega) f1 wx
          clear hP hpt f0 f1 f2
          generalize zb i = y0 at *
          generalize zi i = y1 at *
          generalize zv i = y2 at *
          have hlen0 : decide ((0 : Int) < (len : Int)) = true := by simp; omega
          go_wp2_with fail
          refine hs1.mono ?_
          rintro e wr' ⟨rfl, q, rfl, hq⟩
          clear hs1
          have hqL : q < L.length := by have := HL.out; omega
          obtain ⟨ga', ca', gw', cw', vo, l, vc, hV⟩ := HK.out.view HL.out (by omega) hqL
          obtain ⟨ea, ew, ⟨v1, v2, v3, v4, v5, v6, v7⟩, ac, wc, vn, ll, nn, ⟨pa1, pa2⟩, vcs⟩ := hV
          cases ea
          cases ew
          have HVN := show Hid _ from vn
          have HLL := show Hid _ from ll
          have HNN := show Hid _ from nn
          have HVC := show Hid _ from vcs
          have hgwne : ∀ g, vo = some ⟨g, 0, none⟩ → ¬ gw' = g ∧ ¬ pb = g := fun g hg => by
            have ho := HK.out.own _ (List.getElem_mem hqL)
            have hob : (L[q]).vn.ownBlock = some g := by rw [vn, hg]; rfl
            refine ⟨fun e => ?_, fun e => ?_⟩
            · have t1 := ho.tg hob
              have t2 := tg_row HK.out.wt (g := g) (by rw [← e]; rfl)
              omega
            · have := (own_block ho.out hob).1
              have := HPB.out
              omega
          have HGW := show Hid _ from hgwne
          have HXA : Hid (Fits (L[q]).a) := ⟨by omega, by omega⟩
          clear vn ll nn vcs hgwne
          have hwr : IntKind.i64.wrap ((l : Int) + 2) = (l : Int) + 2 := by rw [IntKind.wrap_i64]; omega
          go_wp2_with fail
          go_region_held (fun w' => w'.cell? ⟨pb, off + i * 3 + 1, none⟩ = some (.int .i64 y1) ∧ w'.cell? ⟨gw', q, none⟩ = some (.slice vo l vc)) (refine ⟨?_, ?_⟩ <;> repeat (first | with_reducible exact p1 | with_reducible exact wc | with_reducible refine cellD ?_))
            (first | (go_at_call 14; refine (HS2.out l _ v7).mono ?_; rintro e w' ⟨rfl, q2, rfl, hq2⟩
                      obtain ⟨k, hk⟩ : ∃ k : Int, (q2 : Int) - 1 = k := ⟨_, rfl⟩
                      have hkw : IntKind.i64.wrap k = k := (by rw [IntKind.wrap_i64]; omega)
                      have hk1 : -1 ≤ k := (by omega)
                      have hk2 : k ≤ l := (by omega)))
          clear HS2
          by_cases hin : 0 ≤ k ∧ k < l
          · obtain ⟨j1, j2⟩ := hin
            obtain ⟨j, rfl⟩ : ∃ j : Nat, k = j := ⟨k.toNat, by omega⟩
            have hjn : j < (L[q]).ns.length := by have := HLL.out; omega
            obtain ⟨gx, rfl, cx, fx⟩ := HVC.out j hjn
            have hgx := HGW.out gx rfl
            obtain ⟨hgx1, hgx2⟩ := hgx
            have hset := set_yes wr'.drew.drew (HK.out.fs.ch.move (fun _ _ => rfl)) (by omega) (L[q]).a (j : Int) y2 HXA.out ⟨by omega, by omega⟩ HFV.out ((inB_some HK.out.wd.lay hqL j).2 ⟨by omega, by have := HNN.out; omega⟩)
            have HPUT := show Hid (∀ (w5 : World), CH w5 h m n tk (lnOf L) (upd f ((L[q]).a + 1 + j) y2) (len + i + 1) → Only (CF h m n) wr'.drew.drew w5 → w5.cell? ⟨gw', q, none⟩ = some (.slice (some ⟨gx, 0, none⟩) l vc) ∧ w5.cell? ⟨pb, off + i * 3 + 2, none⟩ = some (.int .i64 y2) ∧ (∃ old, w5.cell? ⟨gx, j, none⟩ = some old) ∧ w5.frozen? ⟨gx, j, none⟩ = false ∧ ∀ (w6 : World), w6.heap = w5.heap → w6.os = w5.os → w6.tape = w5.tape → w6.output = w5.output → KS w (w6.setCell ⟨gx, j, none⟩ (.int .i64 y2)) h m n tk (upd f ((L[q]).a + 1 + j) y2) (len + i + 1) (.slice (some ⟨ga', 0, none⟩) len ca) (.slice (some ⟨gw', 0, none⟩) len cw) (L.set q { L[q] with ns := (L[q]).ns.set j y2 }) ∧ (L.set q { L[q] with ns := (L[q]).ns.set j y2 }).length = len) from fun w5 hC hO => by
              have hOb : ∀ b, ¬ CF h m n b → b < wr'.heap.size → w5.heap[b]? = wr'.heap[b]? := fun b hb hl => hO.block b hl hb
              have ho := HK.out.own _ (List.getElem_mem hqL)
              have hob : (L[q]).vn.ownBlock = some gx := by rw [HVN.out]; rfl
              have e1 : w5.heap[gw']? = wr'.heap[gw']? := hOb gw' (fun hf => by have := HK.out.fs.ch.tg hf; have := tg_row HK.out.wt (g := gw') rfl; omega) (own_block HK.out.wt rfl).2
              have e2 : w5.heap[pb]? = wr'.heap[pb]? := hOb pb (fun hf => by have h1 := HK.out.fs.bas; have h2 := HPB.out; rcases hf with rfl | rfl | rfl <;> omega) (Nat.lt_of_lt_of_le HPB.out HK.out.fs.bel.size)
              have e3 : w5.heap[gx]? = wr'.heap[gx]? := hOb gx (fun hf => by have := HK.out.fs.ch.tg hf; have := ho.tg hob; omega) (own_block ho.out hob).2
              refine ⟨(World.cell?_of_block (w := wr') e1).trans wc, (World.cell?_of_block (w := wr') e2).trans p2, ⟨_, (World.cell?_of_block (w := wr') e3).trans cx⟩, (World.frozen?_of_block (w := wr') e3).trans fx, fun w6 h6 o6 t6 u6 => ⟨?_, by simp; exact HL.out⟩⟩
              exact HK.out.put hqL j y2 hjn (hC.move (w' := w6) (fun b _ => by rw [h6])) ⟨o6.trans hO.os, t6.trans hO.tape, u6.trans hO.output, by rw [h6]; exact hO.size, fun b hb hn => by rw [h6]; exact hO.block b hb hn⟩ HVN.out HLL.out.symm
            generalize hxa : (L[q]).a = xa at *
            clear hxa HVC HGW
            go_wp2_with fail
            go_region_held (fun w' => w'.cell? ⟨ga', q, none⟩ = some (.int .i64 xa) ∧ w'.cell? ⟨pb, off + i * 3 + 2, none⟩ = some (.int .i64 y2)) (refine ⟨?_, ?_⟩ <;> repeat (first | with_reducible exact ac | with_reducible exact p2 | with_reducible exact dA | with_reducible exact d2 | with_reducible refine cellD ?_))
              (first | (go_at_call 16; refine hset.mono ?_; rintro e w5 ⟨rfl, hC5, hO5⟩
                        obtain ⟨d1, d2, ⟨old, d3⟩, d4, d5⟩ := HPUT.out w5 hC5 hO5
                        have D5 := show Hid _ from d5
                        have dA : w5.cell? ⟨ga', q, none⟩ = some (.int .i64 xa) := ((World.cell?_of_block (w := wr') (hO5.block ga' (own_block HK.out.at_.out rfl).2 (fun hf => by have := HK.out.fs.ch.tg hf; have := HK.out.at_.tg (q := ga') rfl; omega))).trans ac)
                        clear d5 hC5 hO5))
            go_wp2_with fail
            go_region_held (fun w' => w'.cell? ⟨gw', q, none⟩ = some (.slice (some ⟨gx, 0, none⟩) l vc) ∧ w'.cell? ⟨pb, off + i * 3 + 2, none⟩ = some (.int .i64 y2)) (refine ⟨?_, ?_⟩ <;> repeat (first | with_reducible exact d1 | with_reducible exact d2 | with_reducible refine cellD ?_ | with_reducible refine cell_setO hgx1 ?_ | with_reducible refine cell_setO hgx2 ?_)) (fail)
            go_wp2_with fail
            go_roundw
            case rel =>
              obtain ⟨r1, r2⟩ := D5.out w5.drew rfl rfl rfl rfl
              exact ⟨i + 1, _, _, by omega, by go_num, r1, r2⟩
            case measure => simp [intOf]; omega
          · have hnin : ¬ inB (lnOf L) (L[q]).a k := fun hh => hin (by have h1 := (inB_some HK.out.wd.lay hqL k).1 hh; have := HNN.out; omega)
            have hset := set_no wr'.drew.drew (HK.out.fs.ch.move (fun _ _ => rfl)) (L[q]).a k y2 HXA.out ⟨by omega, by omega⟩ hnin
            generalize hxa : (L[q]).a = xa at *
            clear hxa HVC HGW hnin
            rcases (show k < 0 ∨ (0 ≤ k ∧ (l : Int) ≤ k) by omega) with j1 | ⟨j1, j2⟩
            · clear hin
              go_wp2_with fail
              go_region_held (fun w' => w'.cell? ⟨ga', q, none⟩ = some (.int .i64 xa) ∧ w'.cell? ⟨pb, off + i * 3 + 2, none⟩ = some (.int .i64 y2)) (refine ⟨?_, ?_⟩ <;> repeat (first | with_reducible exact ac | with_reducible exact p2 | with_reducible refine cellD ?_))
                (first | (go_at_call 16; refine hset.mono ?_; rintro e w5 ⟨rfl, rfl⟩))
              go_wp2_with fail
              go_roundw
              case rel => exact ⟨i + 1, f, L, by omega, by go_num, HK.out.dd (by omega), HL.out⟩
              case measure => simp [intOf]; omega
            · clear hin
              go_wp2_with fail
              go_region_held (fun w' => w'.cell? ⟨ga', q, none⟩ = some (.int .i64 xa) ∧ w'.cell? ⟨pb, off + i * 3 + 2, none⟩ = some (.int .i64 y2)) (refine ⟨?_, ?_⟩ <;> repeat (first | with_reducible exact ac | with_reducible exact p2 | with_reducible refine cellD ?_))
                (first | (go_at_call 16; refine hset.mono ?_; rintro e w5 ⟨rfl, rfl⟩))
              go_wp2_with fail
              go_roundw
              case rel => exact ⟨i + 1, f, L, by omega, by go_num, HK.out.dd (by omega), HL.out⟩
              case measure => simp [intOf]; omega
        · obtain ⟨wK, rfl⟩ : ∃ wK, wK = wr := ⟨wr, rfl⟩
          have hbv : decide ((0 : Int) < (len : Int)) = decide (0 < len) := by simp
          have hpick : (decide ((i : Int) < (plen : Int)) && decide ((0 : Int) < (len : Int))) = false := by simp; omega
          rcases (show plen ≤ i ∨ (i < plen ∧ len = 0) by omega) with hx | ⟨hx, hx0⟩
          · clear hgo hbv hpick
            go_wp2_with fail
            go_loopw [19] (fun bv wr3 => ∃ b : Nat, b ≤ len ∧ bv = .int .i64 b ∧ wr3 = wK) (fun bv _ => len - (intOf bv).toNat)
            case atStart => exact ⟨0, by omega, rfl, rfl⟩
            case round =>
              obtain ⟨b, hb, rfl, rfl⟩ := hrel
              by_cases hlt3 : b < len
              · have hbL : b < L.length := by have := HL.out; omega
                obtain ⟨ga', ca', gw', cw', vo, l, vc, hV⟩ := HK.out.view HL.out (by omega) hbL
                obtain ⟨ea, ew, ⟨v1, v2, v3, v4, v5, v6, v7⟩, ac, wc, vn, ll, nn, ⟨pa1, pa2⟩, vcs⟩ := hV
                cases ea
                cases ew
                have HLL := show Hid _ from ll
                have HNN := show Hid _ from nn
                have HVC := show Hid _ from vcs
                have hne0 : ¬ (L[b]).a = 0 := by omega
                have HXA : Hid (Fits (L[b]).a) := ⟨by omega, by omega⟩
                have hlen := len_any wr HK.out.fs.ch (L[b]).a HXA.out hne0
                rw [lnOf_some HK.out.wd.lay hbL, nn] at hlen
                simp only [Option.getD_some, Option.isSome_some] at hlen
                have HGT := show Hid _ from fun j hj => HK.out.get hbL j hj HXA.out
                have HIN := show Hid (∀ j : Int, 1 ≤ j → j ≤ l → Calls Try.prog 17 #[.pointer (some ⟨h, 0, none⟩), .int .i64 ((L[b]).a + j)] wr fun e w' => e = .returned (.tuple #[.int .i64 0, .bool false]) ∧ w' = wr) from fun j j1 j2 => by
                  have hx := len_any wr HK.out.fs.ch ((L[b]).a + j) ⟨by omega, by omega⟩ (by omega)
                  rw [lnOf_in HK.out.wd.lay hbL j j1 (by rw [nn]; exact j2)] at hx
                  exact hx
                rw [nn] at pa2
                clear vn ll nn vcs
                generalize hxx : L[b] = x at *
                clear hxx
                go_wp2_with fail
                refine hlen.mono ?_
                rintro e w' ⟨rfl, rfl⟩
                clear hlen
                go_wp2_with fail
                go_loopw [22] (fun kv wr4 => ∃ k : Int, -1 ≤ k ∧ k ≤ l + 1 ∧ kv = .int .i64 k ∧ wr4 = w') (fun kv _ => (l + 1 - intOf kv).toNat)
                case atStart => exact ⟨-1, by omega, by omega, rfl, rfl⟩
                case round =>
                  obtain ⟨k, hk1, hk2, rfl, rfl⟩ := hrel
                  by_cases hkl : k ≤ l
                  · by_cases hin : 0 ≤ k ∧ k < l
                    · obtain ⟨j1, j2⟩ := hin
                      obtain ⟨j, rfl⟩ : ∃ j : Nat, k = j := ⟨k.toNat, by omega⟩
                      have hjn : j < x.ns.length := by have := HLL.out; omega
                      obtain ⟨gx, rfl, cx, fx⟩ := HVC.out j hjn
                      have hg := (HGT.out j ⟨by omega, by omega⟩).2 j hjn rfl
                      generalize x.ns[j] = y at *
                      have hyy : (y != y) = false := by simp
                      go_wp2_with fail
                      refine hg.mono ?_
                      rintro e w' ⟨rfl, rfl⟩
                      clear hg
                      go_wp2_with fail
                      go_roundw
                      case rel => exact ⟨j + 1, by omega, by omega, by go_num, trivial⟩
                      case measure => simp [intOf]; omega
                    · have hg := (HGT.out k ⟨by omega, by omega⟩).1 (by have := HNN.out; omega)
                      rcases (show k < 0 ∨ (0 ≤ k ∧ (l : Int) ≤ k) by omega) with j1 | ⟨j1, j2⟩
                      · clear hin
                        go_wp2_with fail
                        refine hg.mono ?_
                        rintro e w' ⟨rfl, rfl⟩
                        clear hg
                        go_wp2_with fail
                        go_roundw
                        case rel => exact ⟨k + 1, by omega, by omega, by go_num, trivial⟩
                        case measure => simp [intOf]; omega
                      · clear hin
                        go_wp2_with fail
                        refine hg.mono ?_
                        rintro e w' ⟨rfl, rfl⟩
                        clear hg
                        go_wp2_with fail
                        go_roundw
                        case rel => exact ⟨k + 1, by omega, by omega, by go_num, trivial⟩
                        case measure => simp [intOf]; omega
                  · have hkl2 : (l : Int) < k := by omega
                    go_wp2_with fail
                    go_loopw [26] (fun kv wr5 => ∃ k : Int, 1 ≤ k ∧ k ≤ l + 1 ∧ kv = .int .i64 k ∧ wr5 = wr) (fun kv _ => (l + 1 - intOf kv).toNat)
                    case atStart => exact ⟨1, by omega, by omega, rfl, rfl⟩
                    case round =>
                      obtain ⟨j, hj1, hj2, rfl, rfl⟩ := hrel
                      by_cases hjl : j ≤ l
                      · have hg := HIN.out j hj1 hjl
                        go_wp2_with fail
                        refine hg.mono ?_
                        rintro e w' ⟨rfl, rfl⟩
                        clear hg
                        go_wp2_with fail
                        go_roundw
                        case rel => exact ⟨j + 1, by omega, by omega, by go_num, trivial⟩
                        case measure => simp [intOf]; omega
                      · go_wp2_with fail
                        go_roundw
                        case rel => exact ⟨b + 1, by omega, by go_num, trivial⟩
                        case measure => simp [intOf]; omega
              · have hbl : b = len := by omega
                have hwd := words_any wr HK.out.fs.ch
                have hnx : tk + 1 - 1 = tk := by omega
                go_wp2_with (first | (go_at_call 19; refine hwd.mono ?_; rintro e w8 ⟨rfl, rfl⟩))
                go_ret
                exact ⟨by simp, HK.out.fs.bel⟩
          · subst hx0
            clear hgo hbv hpick
            go_wp2_with fail
            refine wp_loop_rounds 1 ?_
            rw [rounds_succ]
            have hwd := words_any wK HK.out.fs.ch
            have hnx : tk + 1 - 1 = tk := by omega
            go_wp2_with (first | (go_at_call 19; refine hwd.mono ?_; rintro e w8 ⟨rfl, rfl⟩))
            go_ret
            exact ⟨by simp, HK.out.fs.bel⟩
end Go.Proofs.Ytddcpbidlbiamaa
