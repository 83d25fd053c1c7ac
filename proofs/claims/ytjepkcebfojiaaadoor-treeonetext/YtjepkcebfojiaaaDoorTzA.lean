import Derived.Test.YtjepkcebfojiaaaDoorLzG
import Derived.Test.YtjepkcebfojiaaaDoorTyF
set_option linter.unusedVariables false
set_option linter.unusedSimpArgs false
namespace Go.Proofs.YtjepkcebfojiaaaDoor
open Go.ChangeShapes Go.WideShapes Go.ChangeAt Go.RowKit

/-- Two trees that are the same but for places and types. -/
structure AlkF (T U : Tr) : Prop where
  alk : Alk T.nodes U.nodes
  fun_ : T.funcs = U.funcs
/-- The first i nodes are. -/
structure AlkP (N M : List Nd) (i : Nat) : Prop where
  out : ∀ (j : Nat) (h : j < N.length) (h' : j < M.length), j < i → N[j].kind = M[j].kind ∧ N[j].decl = M[j].decl ∧ N[j].op = M[j].op ∧ N[j].val = M[j].val ∧ N[j].name = M[j].name ∧ N[j].kids = M[j].kids
theorem AlkP.next {N M i} (h : AlkP N M i) (h1 : i < N.length) (h2 : i < M.length) (e : N[i].kind = M[i].kind ∧ N[i].decl = M[i].decl ∧ N[i].op = M[i].op ∧ N[i].val = M[i].val ∧ N[i].name = M[i].name ∧ N[i].kids = M[i].kids) : AlkP N M (i + 1) := ⟨fun j hj hj' hl => by
  by_cases hji : j = i
  · subst hji; exact e
  · exact h.out j hj hj' (by omega)⟩
theorem AlkP.all {N M i} (h : AlkP N M i) (h1 : N.length ≤ i) (h2 : N.length = M.length) : Alk N M := ⟨h2, fun j hj hj' => h.out j hj hj' (by omega)⟩
/-- What alike answers. -/
structure Alik (T U : Tr) (e : Ending) : Prop where
  out : ∃ R : Bool, e = .returned (.bool R) ∧ (R = true ↔ AlkF T U)
theorem Alik.no {T U} (h : ¬ AlkF T U) : Alik T U (.returned (.bool false)) := ⟨false, rfl, fun h => (by cases h), fun h' => absurd h' h⟩
theorem Alik.yes {T U} (h : AlkF T U) : Alik T U (.returned (.bool true)) := ⟨true, rfl, fun _ => h, fun _ => rfl⟩
set_option maxRecDepth 20000 in
set_option maxHeartbeats 2000000 in
theorem alike_any (w : World) (no : Option Addr) (nc nn : Nat) (fo : Option Addr) (fc fn : Nat) (T : Tr) (hnn : nn = T.nodes.length) (hfn : fn = T.funcs.length) (hN : Nodes w no nc T.nodes) (hF : Ints w fo fc T.funcs)
    (mo : Option Addr) (mc mn : Nat) (go_ : Option Addr) (gc gn : Nat) (U : Tr) (hmn : mn = U.nodes.length) (hgn : gn = U.funcs.length) (hM : Nodes w mo mc U.nodes) (hG : Ints w go_ gc U.funcs) (hb1 : nn ≤ 1000000) (hb2 : mn ≤ 1000000) (hb3 : fn ≤ 1000000) (hb4 : gn ≤ 1000000) (hkT : ∀ n ∈ T.nodes, n.kids.length ≤ 1000000) (hkU : ∀ n ∈ U.nodes, n.kids.length ≤ 1000000) :
    Calls Tryd.prog 10 #[.agg #[.slice no nn nc, .slice fo fn fc], .agg #[.slice mo mn mc, .slice go_ gn gc]] w fun e w' => Alik T U e ∧ Below w.heap.size w w' := by
  have HH : Hid (nn = T.nodes.length ∧ fn = T.funcs.length ∧ mn = U.nodes.length ∧ gn = U.funcs.length) := ⟨hnn, hfn, hmn, hgn⟩
  have HKK : Hid ((∀ n ∈ T.nodes, n.kids.length ≤ 1000000) ∧ ∀ n ∈ U.nodes, n.kids.length ≤ 1000000) := ⟨hkT, hkU⟩
  have hl1 : nn ≤ nc := by have := hN.le; omega
  have hl2 : mn ≤ mc := by have := hM.le; omega
  have hl3 : fn ≤ fc := by have := hF.le; omega
  have hl4 : gn ≤ gc := by have := hG.le; omega
  have hx1 := hN.mx
  have hx2 := hM.mx
  have hx3 := hF.mx
  have hx4 := hG.mx
  clear hnn hfn hmn hgn hkT hkU
  go_enter Tryd.func10, Tryd.ntmps10
  by_cases he1 : mn = nn
  · subst he1
    by_cases he2 : gn = fn
    · subst he2
      have hb0 : Below w.heap.size w ((w.alloc (.cells #[.slice no mn nc, .slice fo gn fc] 25)).alloc (.cells #[.slice mo mn mc, .slice go_ gn gc] 25)) := ((Below.refl _ _).alloc (Nat.le_refl _) _).alloc (by simp) _
      obtain ⟨W0, hW0⟩ : ∃ W0, W0 = ((w.alloc (.cells #[.slice no mn nc, .slice fo gn fc] 25)).alloc (.cells #[.slice mo mn mc, .slice go_ gn gc] 25)) := ⟨_, rfl⟩
      have p0 : W0.cell? ⟨w.heap.size, 0, none⟩ = some (.slice no mn nc) := by rw [hW0]; simp
      have p1 : W0.cell? ⟨w.heap.size, 1, none⟩ = some (.slice fo gn fc) := by rw [hW0]; simp
      have p2 : W0.cell? ⟨w.heap.size + 1, 0, none⟩ = some (.slice mo mn mc) := by rw [hW0]; simp
      have p3 : W0.cell? ⟨w.heap.size + 1, 1, none⟩ = some (.slice go_ gn gc) := by rw [hW0]; simp
      have hs0 : W0.heap.size = w.heap.size + 1 + 1 := by rw [hW0]; simp
      have hz0 : w.heap.size + 1 < W0.heap.size := by omega
      have hz1 : w.heap.size < W0.heap.size := by omega
      have HB0 : Hid (Below w.heap.size w W0) := by rw [hW0]; exact hb0
      have HW0 : Hid (W0 = _) := hW0
      clear hs0 hb0 hW0
      go_wp2_with fail
      go_loopw [5] (fun iv wr => ∃ i : Nat, i ≤ mn ∧ iv = .int .i64 i ∧ AlkP T.nodes U.nodes i ∧ Below W0.heap.size W0 wr) (fun iv _ => mn - (intOf iv).toNat)
      case atStart => exact ⟨0, by omega, rfl, ⟨fun j _ _ h => by omega⟩, by rw [HW0.out]; exact Below.refl _ _⟩
      case round =>
        obtain ⟨i, hi, rfl, HP, hbr⟩ := hrel
        have q0 : wr.cell? ⟨w.heap.size, 0, none⟩ = some (.slice no mn nc) := cell_below hbr hz1 p0
        have q1 : wr.cell? ⟨w.heap.size, 1, none⟩ = some (.slice fo gn fc) := cell_below hbr hz1 p1
        have q2 : wr.cell? ⟨w.heap.size + 1, 0, none⟩ = some (.slice mo mn mc) := cell_below hbr hz0 p2
        have q3 : wr.cell? ⟨w.heap.size + 1, 1, none⟩ = some (.slice go_ gn gc) := cell_below hbr hz0 p3
        have hsr := hbr.size
        have hbw : Below w.heap.size w wr := HB0.out.trans (hbr.mono HB0.out.size)
        by_cases hlt : i < mn
        · have hiT : i < T.nodes.length := by have := HH.out.1; omega
          have hiU : i < U.nodes.length := by have := HH.out.2.2.1; omega
          obtain ⟨b, o, rfl, hbl, hAt⟩ := (hN.below hbw (Nat.le_refl _)).out (by intro e; simp [e] at hiT)
          obtain ⟨ka, kc, c0, c1, c2, c3, c4, c5, c6, c7, c8, c9, hK⟩ := (hAt i hiT).out
          obtain ⟨b2, o2, rfl, hbl2, hAt2⟩ := (hM.below hbw (Nat.le_refl _)).out (by intro e; simp [e] at hiU)
          obtain ⟨ka2, kc2, d0, d1, d2, d3, d4, d5, d6, d7, d8, d9, hK2⟩ := (hAt2 i hiU).out
          obtain ⟨nd, hnd⟩ : ∃ nd, nd = T.nodes[i] := ⟨_, rfl⟩
          obtain ⟨md, hmd⟩ : ∃ md, md = U.nodes[i] := ⟨_, rfl⟩
          rw [← hnd] at c0 c1 c2 c3 c4 c5 c6 c7 c8 c9 hK
          rw [← hmd] at d0 d1 d2 d3 d4 d5 d6 d7 d8 d9 hK2
          have ALI : ∀ h : AlkF T U, nd.kind = md.kind ∧ nd.decl = md.decl ∧ nd.op = md.op ∧ nd.val = md.val ∧ nd.name = md.name ∧ nd.kids = md.kids := fun h => by rw [hnd, hmd]; exact h.alk.out i hiT hiU
          have hk1 : nd.kids.length ≤ 1000000 := by rw [hnd]; exact HKK.out.1 _ (List.getElem_mem _)
          have hk2 : md.kids.length ≤ 1000000 := by rw [hmd]; exact HKK.out.2 _ (List.getElem_mem _)
          have NXT : (nd.kind = md.kind ∧ nd.decl = md.decl ∧ nd.op = md.op ∧ nd.val = md.val ∧ nd.name = md.name ∧ nd.kids = md.kids) → AlkP T.nodes U.nodes (i + 1) := fun h => HP.next hiT hiU (by rw [← hnd, ← hmd]; exact h)
          have HAL : Hid _ := ALI
          have HNX : Hid _ := NXT
          obtain ⟨x0, e0⟩ : ∃ x, x = nd.kind := ⟨_, rfl⟩
          obtain ⟨y0, f0⟩ : ∃ x, x = md.kind := ⟨_, rfl⟩
          obtain ⟨x4, e4⟩ : ∃ x, x = nd.decl := ⟨_, rfl⟩
          obtain ⟨y4, f4⟩ : ∃ x, x = md.decl := ⟨_, rfl⟩
          obtain ⟨x6, e6⟩ : ∃ x, x = nd.op := ⟨_, rfl⟩
          obtain ⟨y6, f6⟩ : ∃ x, x = md.op := ⟨_, rfl⟩
          obtain ⟨x7, e7⟩ : ∃ x, x = nd.val := ⟨_, rfl⟩
          obtain ⟨y7, f7⟩ : ∃ x, x = md.val := ⟨_, rfl⟩
          obtain ⟨x8, e8⟩ : ∃ x, x = bs nd.name := ⟨_, rfl⟩
          obtain ⟨y8, f8⟩ : ∃ x, x = bs md.name := ⟨_, rfl⟩
          obtain ⟨kl, e9⟩ : ∃ x, x = nd.kids.length := ⟨_, rfl⟩
          obtain ⟨ml, f9⟩ : ∃ x, x = md.kids.length := ⟨_, rfl⟩
          rw [← e0] at c0; rw [← f0] at d0; rw [← e4] at c4; rw [← f4] at d4; rw [← e6] at c6; rw [← f6] at d6; rw [← e7] at c7; rw [← f7] at d7; rw [← e8] at c8; rw [← f8] at d8; rw [← e9] at c9 hk1; rw [← f9] at d9 hk2
          have HE : Hid (x0 = nd.kind ∧ x4 = nd.decl ∧ x6 = nd.op ∧ x7 = nd.val ∧ x8 = bs nd.name ∧ kl = nd.kids.length) := ⟨e0, e4, e6, e7, e8, e9⟩
          have HE2 : Hid (y0 = md.kind ∧ y4 = md.decl ∧ y6 = md.op ∧ y7 = md.val ∧ y8 = bs md.name ∧ ml = md.kids.length) := ⟨f0, f4, f6, f7, f8, f9⟩
          have hkc : kl ≤ kc := by have := hK.le; omega
          have hkx := hK.mx
          have hkc2 : ml ≤ kc2 := by have := hK2.le; omega
          have hkx2 := hK2.mx
          have hbl3 : b < wr.heap.size := by omega
          have hbl4 : b2 < wr.heap.size := by omega
          have hbl5 : b2 < wr.heap.size + 1 := by omega
          have hz2 : w.heap.size + 1 < wr.heap.size := by omega
          have hz3 : w.heap.size + 1 < wr.heap.size + 1 := by omega
          have hz4 : w.heap.size < wr.heap.size := by omega
          have hz5 : w.heap.size < wr.heap.size + 1 := by omega
          have HKI : Hid _ := hK
          have HKJ : Hid _ := hK2
          have BXX : ∀ (A B : Obj), Below w.heap.size w ((wr.alloc A).alloc B) := fun A B => (hbw.alloc (by omega) _).alloc (by simp; omega) _
          clear hAt hAt2 hnd hmd e0 f0 e4 f4 e6 f6 e7 f7 e8 f8 e9 f9 ALI NXT hK hK2
          by_cases h0 : x0 = y0
          · subst h0
            by_cases h4 : x4 = y4
            · subst h4
              by_cases h6 : x6 = y6
              · subst h6
                by_cases h7 : x7 = y7
                · subst h7
                  by_cases h8 : x8 = y8
                  · subst h8
                    by_cases h9 : ml = kl
                    · subst h9
                      go_wp2_with fail
                      obtain ⟨WX, hWX⟩ : ∃ WX, WX = (wr.alloc (.cells #[.int .i64 x0, .int .i64 nd.at_, .int .i64 nd.wh, .int .i64 nd.close, .int .i64 x4, .int .i64 nd.typ, .int .i64 x6, .int .i64 x7, .string x8, .slice ka ml kc] 39)).alloc (.cells #[.int .i64 x0, .int .i64 md.at_, .int .i64 md.wh, .int .i64 md.close, .int .i64 x4, .int .i64 md.typ, .int .i64 x6, .int .i64 x7, .string x8, .slice ka2 ml kc2] 39) := ⟨_, rfl⟩
                      rw [← hWX]
                      have r9 : WX.cell? ⟨wr.heap.size, 9, none⟩ = some (.slice ka ml kc) := by rw [hWX]; simp
                      have s9 : WX.cell? ⟨wr.heap.size + 1, 9, none⟩ = some (.slice ka2 ml kc2) := by rw [hWX]; simp
                      have hbX : Below wr.heap.size wr WX := by rw [hWX]; exact ((Below.refl _ _).alloc (Nat.le_refl _) _).alloc (by simp) _
                      have HBX : Hid _ := hbX
                      clear hWX c0 c1 c2 c3 c4 c5 c6 c7 c8 c9 d0 d1 d2 d3 d4 d5 d6 d7 d8 d9 q0 q1 q2 q3 hbX
                      go_loopw [8] (fun jv wy => ∃ (j n : Nat), j ≤ ml ∧ jv = .int .i64 j ∧ Hid (nd.kids.take j = md.kids.take j) ∧ wy = WX.drewN n) (fun jv _ => ml - (intOf jv).toNat)
                      case atStart => exact ⟨0, 0, by omega, rfl, by simp [Hid], rfl⟩
                      case round =>
                        obtain ⟨j, n, hj, rfl, HTK, rfl⟩ := hrel
                        by_cases hjl : j < ml
                        · have hj1 : j < nd.kids.length := by have := HE.out.2.2.2.2.2; omega
                          have hj2 : j < md.kids.length := by have := HE2.out.2.2.2.2.2; omega
                          obtain ⟨kb, ko, rfl, hA1⟩ := HKI.out.out (by intro e; simp [e] at hj1)
                          obtain ⟨kb2, ko2, rfl, hA2⟩ := HKJ.out.out (by intro e; simp [e] at hj2)
                          have t1 := cell_below HBX.out hA1.lt (hA1.cell j hj1)
                          have t2 := cell_below HBX.out hA2.lt (hA2.cell j hj2)
                          obtain ⟨g1, hg1⟩ : ∃ g, g = nd.kids[j] := ⟨_, rfl⟩
                          obtain ⟨g2, hg2⟩ : ∃ g, g = md.kids[j] := ⟨_, rfl⟩
                          rw [← hg1] at t1
                          rw [← hg2] at t2
                          have HG1 : Hid (g1 = nd.kids[j]) := hg1
                          have HG2 : Hid (g2 = md.kids[j]) := hg2
                          clear hg1 hg2 hA1 hA2
                          by_cases heq : g1 = g2
                          · subst heq
                            go_wp2_with fail
                            go_quiet (fail)
                            go_wp2_with fail
                            go_roundw
                            case rel => exact ⟨j + 1, _, by omega, by go_num, (by show _ = _; rw [← List.take_append_getElem hj1, ← List.take_append_getElem hj2, ← HG1.out, ← HG2.out, HTK.out]), by first | rfl | exact World.drewN_drewN _ _ _⟩
                            case measure => simp [intOf]; omega
                          · go_wp2_with fail
                            go_quiet (fail)
                            go_wp2_with fail
                            go_ret
                            exact ⟨Alik.no fun h => heq (by rw [HG1.out, HG2.out]; simp only [(HAL.out h).2.2.2.2.2]), by rw [World.drewN_drewN]; exact below_drewN (hbw.trans (HBX.out.mono (by omega))) _⟩
                        · have hnx : AlkP T.nodes U.nodes (i + 1) := HNX.out (by
                            refine ⟨by rw [← HE.out.1]; exact HE2.out.1, by rw [← HE.out.2.1]; exact HE2.out.2.1, by rw [← HE.out.2.2.1]; exact HE2.out.2.2.1, by rw [← HE.out.2.2.2.1]; exact HE2.out.2.2.2.1, bs_inj.1 (by rw [← HE.out.2.2.2.2.1]; exact HE2.out.2.2.2.2.1), ?_⟩
                            have h1 := HTK.out
                            rwa [List.take_of_length_le (by have := HE.out.2.2.2.2.2; omega), List.take_of_length_le (by have := HE2.out.2.2.2.2.2; omega)] at h1)
                          go_wp2_with fail
                          go_roundw
                          case rel => exact ⟨i + 1, by omega, by go_num, hnx, below_drewN (hbr.trans (HBX.out.mono hbr.size)) _⟩
                          case measure => simp [intOf]; omega
                    · have h9i : ¬ (kl : Int) = (ml : Int) := by omega
                      go_wp2_with fail
                      go_ret
                      exact ⟨Alik.no fun h => h9 (by rw [HE2.out.2.2.2.2.2, HE.out.2.2.2.2.2, (HAL.out h).2.2.2.2.2]), BXX _ _⟩
                  · have h8i : (!x8.toList == y8.toList) = true := by simp; intro h; exact h8 (by rw [HE.out.2.2.2.2.1, HE2.out.2.2.2.2.1]; rw [HE.out.2.2.2.2.1, HE2.out.2.2.2.2.1, bs_toList, bs_toList] at h; rw [h])
                    go_wp2_with fail
                    go_ret
                    exact ⟨Alik.no fun h => h8 (by rw [HE.out.2.2.2.2.1, HE2.out.2.2.2.2.1, (HAL.out h).2.2.2.2.1]), BXX _ _⟩
                · go_wp2_with fail
                  go_ret
                  exact ⟨Alik.no fun h => h7 (by rw [HE.out.2.2.2.1, HE2.out.2.2.2.1, (HAL.out h).2.2.2.1]), BXX _ _⟩
              · go_wp2_with fail
                go_ret
                exact ⟨Alik.no fun h => h6 (by rw [HE.out.2.2.1, HE2.out.2.2.1, (HAL.out h).2.2.1]), BXX _ _⟩
            · go_wp2_with fail
              go_ret
              exact ⟨Alik.no fun h => h4 (by rw [HE.out.2.1, HE2.out.2.1, (HAL.out h).2.1]), BXX _ _⟩
          · go_wp2_with fail
            go_ret
            exact ⟨Alik.no fun h => h0 (by rw [HE.out.1, HE2.out.1, (HAL.out h).1]), BXX _ _⟩
        · have him : i = mn := by omega
          have HAL : Hid (Alk T.nodes U.nodes) := HP.all (by have := HH.out.1; omega) (by rw [← HH.out.1, ← HH.out.2.2.1])
          have hz2 : w.heap.size + 1 < wr.heap.size := by omega
          have hz4 : w.heap.size < wr.heap.size := by omega
          obtain ⟨wo, rfl⟩ : ∃ wo, wo = wr := ⟨_, rfl⟩
          clear him HP
          go_wp2_with fail
          go_loopw [9] (fun jv wy => ∃ (j n : Nat), j ≤ gn ∧ jv = .int .i64 j ∧ Hid (T.funcs.take j = U.funcs.take j) ∧ wy = wo.drewN n) (fun jv _ => gn - (intOf jv).toNat)
          case atStart => exact ⟨0, 0, by omega, rfl, by simp [Hid], rfl⟩
          case round =>
            obtain ⟨j, n, hj, rfl, HTK, rfl⟩ := hrel
            by_cases hjl : j < gn
            · have hj1 : j < T.funcs.length := by have := HH.out.2.1; omega
              have hj2 : j < U.funcs.length := by have := HH.out.2.2.2; omega
              obtain ⟨kb, ko, rfl, hA1⟩ := hF.out (by intro e; simp [e] at hj1)
              obtain ⟨kb2, ko2, rfl, hA2⟩ := hG.out (by intro e; simp [e] at hj2)
              have t1 := cell_below hbw hA1.lt (hA1.cell j hj1)
              have t2 := cell_below hbw hA2.lt (hA2.cell j hj2)
              obtain ⟨g1, hg1⟩ : ∃ g, g = T.funcs[j] := ⟨_, rfl⟩
              obtain ⟨g2, hg2⟩ : ∃ g, g = U.funcs[j] := ⟨_, rfl⟩
              rw [← hg1] at t1
              rw [← hg2] at t2
              have HG1 : Hid (g1 = T.funcs[j]) := hg1
              have HG2 : Hid (g2 = U.funcs[j]) := hg2
              clear hg1 hg2 hA1 hA2
              by_cases heq : g1 = g2
              · subst heq
                go_wp2_with fail
                go_quiet (fail)
                go_wp2_with fail
                go_roundw
                case rel => exact ⟨j + 1, _, by omega, by go_num, (by show _ = _; rw [← List.take_append_getElem hj1, ← List.take_append_getElem hj2, ← HG1.out, ← HG2.out, HTK.out]), by first | rfl | exact World.drewN_drewN _ _ _⟩
                case measure => simp [intOf]; omega
              · go_wp2_with fail
                go_quiet (fail)
                go_wp2_with fail
                go_ret
                exact ⟨Alik.no fun h => heq (by rw [HG1.out, HG2.out]; simp only [h.fun_]), by rw [World.drewN_drewN]; exact below_drewN hbw _⟩
            · have hfe : T.funcs = U.funcs := by
                have h1 := HTK.out
                rwa [List.take_of_length_le (by have := HH.out.2.1; omega), List.take_of_length_le (by have := HH.out.2.2.2; omega)] at h1
              have HFE : Hid _ := hfe
              clear hfe
              go_wp2_with fail
              go_ret
              exact ⟨Alik.yes ⟨HAL.out, HFE.out⟩, below_drewN hbw _⟩
    · have he2i : ¬ (fn : Int) = (gn : Int) := by omega
      go_wp2_with fail
      go_ret
      exact ⟨Alik.no fun h => he2 (by rw [HH.out.2.1, HH.out.2.2.2, h.fun_]), ((Below.refl _ _).alloc (Nat.le_refl _) _).alloc (by simp) _⟩
  · have he1i : ¬ (nn : Int) = (mn : Int) := by omega
    go_wp2_with fail
    go_ret
    exact ⟨Alik.no fun h => he1 (by rw [HH.out.1, HH.out.2.2.1, h.alk.len]), ((Below.refl _ _).alloc (Nat.le_refl _) _).alloc (by simp) _⟩
end Go.Proofs.YtjepkcebfojiaaaDoor
