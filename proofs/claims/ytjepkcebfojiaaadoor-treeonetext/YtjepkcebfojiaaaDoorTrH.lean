import Derived.Test.YtjepkcebfojiaaaDoorLyR
import Derived.Test.YtjepkcebfojiaaaDoorTrF
import Derived.Test.YtjepkcebfojiaaaDoorTrI
import Derived.Test.YtjepkcebfojiaaaDoorTrO
set_option linter.unusedVariables false
set_option linter.unusedSimpArgs false
namespace Go.Proofs.YtjepkcebfojiaaaDoor
open Go.ChangeShapes Go.WideShapes Go.ChangeAt Go.RowKit

structure CL (N : List Nd) (l : List Int) (i : Nat) (C : Option (List Int)) : Prop where
  out : cloop N l i (N.drop i) = C
  rng : ∀ x ∈ l, 0 ≤ x ∧ x < i
  len : l.length ≤ i
theorem CL.nil (N : List Nd) : CL N [] 0 (cloop N [] 0 N) := ⟨by simp, by simp, by simp⟩
theorem CL.fin {N l i C} (h : CL N l i C) (hi : N.length ≤ i) : C = some l := by
  rw [← h.out, List.drop_of_length_le hi]; rfl
theorem CL.step {N l i C} (h : CL N l i C) (hi : i < N.length) : C = (cstep N l i N[i]).bind fun l' => cloop N l' (i + 1) (N.drop (i + 1)) := by
  rw [← h.out, List.drop_eq_getElem_cons hi]; rfl
theorem CL.next {N l i C} (h : CL N l i C) (hi : i < N.length) (h1 : (N[i]).kids.length ≤ l.length) (h2 : l.drop (l.length - (N[i]).kids.length) = (N[i]).kids) (h3 : ffit N[i] = true) (h4 : kfit N N[i] = true) :
    CL N (l.take (l.length - (N[i]).kids.length) ++ [(i : Int)]) (i + 1) C := by
  refine ⟨?_, ?_, ?_⟩
  · rw [h.step hi]; unfold cstep; rw [if_pos ⟨h1, h2, h3, h4⟩]; rfl
  · intro x hx
    simp at hx
    rcases hx with hx | rfl
    · have := h.rng x (List.mem_of_mem_take hx); omega
    · omega
  · have := h.len; simp; omega
theorem CL.fail {N l i C} (h : CL N l i C) (hi : i < N.length) (hn : ¬ ((N[i]).kids.length ≤ l.length ∧ l.drop (l.length - (N[i]).kids.length) = (N[i]).kids ∧ ffit N[i] = true ∧ kfit N N[i] = true)) : C = none := by
  rw [h.step hi]; unfold cstep; rw [if_neg hn]; rfl

/-- What Check answers. -/
structure CkR (T : Tr) (C : Option (List Int)) (r : Int) : Prop where
  out : r = if (match C with | none => false | some l => decide (l = T.funcs) && allK T.nodes (isK 1) l) = true then 0 else 30
theorem ret_i {a b : Int} (h : a = b) : Ending.returned (.int .i64 a) = .returned (.int .i64 b) := by rw [h]

theorem equal_at (w : World) (a1 a2 : Option Addr) (c1 c2 n1 n2 : Nat) (L1 L2 : List Int) (R : Bool) (hn1 : n1 = L1.length) (hn2 : n2 = L2.length) (h1 : Ints w a1 c1 L1) (h2 : Ints w a2 c2 L2) (hR : decide (L1 = L2) = R) :
    Calls Tryd.prog 22 #[.slice a1 n1 c1, .slice a2 n2 c2] w fun e w' => e = .returned (.bool R) ∧ ∃ m, w' = w.drewN m := by
  subst hR; exact equal_any w a1 a2 c1 c2 n1 n2 L1 L2 hn1 hn2 h1 h2
theorem Below.drewN' {w w' : World} {B : Nat} (h : Below B w w') (q : Nat) : Below B w (w'.drewN q) := below_drewN h q
theorem fieldsFit_at (w : World) (hTab : Tab w) (n : Nd) (ka : Option Addr) (kc : Nat) (s : ByteArray) (kl : Nat) (R : Bool) (hs : s = bs n.name) (hkl : kl = n.kids.length) (hR : ffit n = R) :
    Calls Tryd.prog 23 #[.agg #[.int .i64 n.kind, .int .i64 n.at_, .int .i64 n.wh, .int .i64 n.close, .int .i64 n.decl, .int .i64 n.typ, .int .i64 n.op, .int .i64 n.val, .string s, .slice ka kl kc]] w fun e w' => e = .returned (.bool R) ∧ Below w.heap.size w w' := by
  subst hs hkl hR; exact fieldsFit_any w hTab n ka kc
theorem kidsFit_at (w : World) (no : Option Addr) (nc nn : Nat) (N : List Nd) (hnn : nn = N.length) (hN : Nodes w no nc N) (n : Nd) (ka : Option Addr) (kc : Nat) (s : ByteArray) (kl : Nat) (R : Bool) (hk : Ints w ka kc n.kids) (hr : ∀ x ∈ n.kids, 0 ≤ x ∧ x < N.length) (hs : s = bs n.name) (hkl : kl = n.kids.length) (hR : kfit N n = R) :
    Calls Tryd.prog 24 #[.slice no nn nc, .agg #[.int .i64 n.kind, .int .i64 n.at_, .int .i64 n.wh, .int .i64 n.close, .int .i64 n.decl, .int .i64 n.typ, .int .i64 n.op, .int .i64 n.val, .string s, .slice ka kl kc]] w fun e w' => e = .returned (.bool R) ∧ Below w.heap.size w w' := by
  subst hs hkl hR; exact kidsFit_any w no nc nn N hnn hN n ka kc hk hr
theorem CkR.none {T C r} (h : CkR T C r) (hC : C = none) : (30 : Int) = r := by
  subst hC; rw [h.out]; rfl
theorem ndthen {T : Tr} {l : List Int} {i rr : Nat} {nd : Nd} {C} (h : CL T.nodes l i C) (hi : i < T.nodes.length) (hn : nd = T.nodes[i]) (hd : l.length - nd.kids.length = rr) (hle : nd.kids.length ≤ l.length) (h1 : l.drop rr = nd.kids) (h2 : ffit nd = true) (h3 : kfit T.nodes nd = true) : CL T.nodes (l.take rr ++ [(i : Int)]) (i + 1) C := by
  subst hn hd
  exact h.next hi hle h1 h2 h3
theorem ndfail {T : Tr} {l : List Int} {i rr : Nat} {nd : Nd} {C} (h : CL T.nodes l i C) (hi : i < T.nodes.length) (hn : nd = T.nodes[i]) (hd : l.length - nd.kids.length = rr) (hx : nd.kids.length ≤ l.length → l.drop rr = nd.kids → ffit nd = true → kfit T.nodes nd = true → False) : C = none := by
  subst hn hd
  exact h.fail hi (fun ⟨a, b, c, d⟩ => hx a b c d)
theorem ndcells {w w' : World} {K : Nat} {n : Nd} {ka : Option Addr} {kc q : Nat} {s : ByteArray} {kl : Nat} {t : TypeId} (hb : Below K ((w.alloc (.cells #[.int .i64 n.kind, .int .i64 n.at_, .int .i64 n.wh, .int .i64 n.close, .int .i64 n.decl, .int .i64 n.typ, .int .i64 n.op, .int .i64 n.val, .string s, .slice ka kl kc] t)).drewN q) w') (hK : K = w.heap.size + 1) :
    w'.cell? ⟨w.heap.size, 0, none⟩ = some (.int .i64 n.kind) ∧ w'.cell? ⟨w.heap.size, 1, none⟩ = some (.int .i64 n.at_) ∧ w'.cell? ⟨w.heap.size, 2, none⟩ = some (.int .i64 n.wh) ∧ w'.cell? ⟨w.heap.size, 3, none⟩ = some (.int .i64 n.close) ∧ w'.cell? ⟨w.heap.size, 4, none⟩ = some (.int .i64 n.decl)
    ∧ w'.cell? ⟨w.heap.size, 5, none⟩ = some (.int .i64 n.typ) ∧ w'.cell? ⟨w.heap.size, 6, none⟩ = some (.int .i64 n.op) ∧ w'.cell? ⟨w.heap.size, 7, none⟩ = some (.int .i64 n.val) ∧ w'.cell? ⟨w.heap.size, 8, none⟩ = some (.string s) ∧ w'.cell? ⟨w.heap.size, 9, none⟩ = some (.slice ka kl kc) := by
  have h : ∀ i v, (#[.int .i64 n.kind, .int .i64 n.at_, .int .i64 n.wh, .int .i64 n.close, .int .i64 n.decl, .int .i64 n.typ, .int .i64 n.op, .int .i64 n.val, .string s, .slice ka kl kc] : Array Value)[i]? = some v → w'.cell? ⟨w.heap.size, i, none⟩ = some v := by
    intro i v hv
    refine cell_below hb (by omega) ?_
    simpa using hv
  exact ⟨h 0 _ rfl, h 1 _ rfl, h 2 _ rfl, h 3 _ rfl, h 4 _ rfl, h 5 _ rfl, h 6 _ rfl, h 7 _ rfl, h 8 _ rfl, h 9 _ rfl⟩

set_option maxRecDepth 10000 in
set_option maxHeartbeats 8000000 in
theorem check_any (w : World) (hTab : Tab w) (no : Option Addr) (nc nn : Nat) (fo : Option Addr) (fc fn : Nat) (T : Tr) (hnn : nn = T.nodes.length) (hfn : fn = T.funcs.length) (hN : Nodes w no nc T.nodes) (hF : Ints w fo fc T.funcs) (hm : nn ≤ 1000000000) :
    Calls Tryd.prog 15 #[.agg #[.slice no nn nc, .slice fo fn fc]] w fun e w' => e = .returned (.int .i64 (if chk T = true then 0 else 30)) ∧ Below w.heap.size w w' := by
  obtain ⟨r, hr⟩ : ∃ r : Int, r = if chk T = true then 0 else 30 := ⟨_, rfl⟩
  obtain ⟨C, hC⟩ : ∃ C, C = cloop T.nodes [] 0 T.nodes := ⟨_, rfl⟩
  rw [← hr]
  have HR : CkR T C r := ⟨by rw [hr, hC]; rfl⟩
  have HC0 : CL T.nodes [] 0 C := by rw [hC]; exact CL.nil _
  clear hr hC
  have HT : Hid (Tab w) := hTab
  have HNN : Hid (nn = T.nodes.length) := hnn
  have HFN : Hid (fn = T.funcs.length) := hfn
  have hnc : nn ≤ nc := by have := hN.le; omega
  have hnx := hN.mx
  clear hTab hnn hfn
  go_enter Tryd.func15, Tryd.ntmps15
  go_wp2_with fail
  go_loopw [3, 10] (fun v c wr => ∃ (i n : Nat) (l : List Int), i ≤ nn ∧ c = .int .i64 i ∧ OwnI wr (w.heap.size + 1) v n l ∧ CL T.nodes l i C ∧ Below (w.heap.size + 1) (w.alloc (.cells #[.slice no nn nc, .slice fo fn fc] 25)) wr) (fun _ c _ => nn - (intOf c).toNat)
  case atStart => exact ⟨0, 0, [], by omega, rfl, OwnI.nil _ _, HC0, Below.refl _ _⟩
  case round =>
    obtain ⟨i, n, l, hi, rfl, HO, HL, hbl⟩ := hrel
    have hbw : Below w.heap.size w wr := ((Below.refl _ _).alloc (Nat.le_refl _) _).trans (hbl.mono (by omega))
    have hs1 := hbl.size
    simp at hs1
    have f0 : wr.cell? ⟨w.heap.size, 0, none⟩ = some (.slice no nn nc) := cell_below hbl (by omega) (by simp)
    have f1 : wr.cell? ⟨w.heap.size, 1, none⟩ = some (.slice fo fn fc) := cell_below hbl (by omega) (by simp)
    by_cases hlt : i < nn
    · obtain ⟨b, o, rfl, hbl2, hAt⟩ := (hN.below hbw (Nat.le_refl _)).out (by intro e; have := HNN.out; simp [e] at this; omega)
      obtain ⟨ka, kc, c0, c1, c2, c3, c4, c5, c6, c7, c8, c9, hK⟩ := (hAt i (HNN.out ▸ hlt)).out
      obtain ⟨nd, hnd⟩ : ∃ nd, nd = T.nodes[i]'(HNN.out ▸ hlt) := ⟨_, rfl⟩
      rw [← hnd] at c0 c1 c2 c3 c4 c5 c6 c7 c8 c9 hK
      have HND : Hid (nd = T.nodes[i]'(HNN.out ▸ hlt)) := hnd
      clear hnd hAt
      obtain ⟨la, lc, rfl, hv1, hv2, hI, hla⟩ := HO.view
      have hln := HO.len
      have HLN : Hid (n = l.length) := hln
      obtain ⟨s, hs⟩ : ∃ s, s = bs nd.name := ⟨_, rfl⟩
      have HS : Hid (s = bs nd.name) := hs
      rw [← hs] at c8
      clear hs hln
      obtain ⟨kl, hkl⟩ : ∃ kl, kl = nd.kids.length := ⟨_, rfl⟩
      rw [← hkl] at c9
      have HKL : Hid (kl = nd.kids.length) := hkl
      have hkc : kl ≤ kc := by have := hK.le; omega
      have hkx := hK.mx
      clear hkl
      have hlen := HL.len
      have hn9 : n ≤ 1000000000 := by have := HLN.out; omega
      by_cases hrest : kl ≤ n
      · obtain ⟨rr, hrr⟩ : ∃ rr : Nat, rr + kl = n := ⟨n - kl, by omega⟩
        have hsub : (n : Int) - (kl : Int) = (rr : Int) := by omega
        have hrl : rr ≤ n := by omega
        have hrlc : rr ≤ lc := by omega
        have hneg : ¬ (rr : Int) < 0 := by omega
        have HD : Hid (l.length - nd.kids.length = rr) := by show _ = _; have := HLN.out; have := HKL.out; omega
        -- what is compared
        obtain ⟨R, hRR⟩ : ∃ R, decide (l.drop rr = nd.kids) = R := ⟨_, rfl⟩
        have HRR : Hid (decide (l.drop rr = nd.kids) = R) := hRR
        clear hRR
        have HK2 : ∀ q, Ints ((wr.alloc (.cells #[.int .i64 nd.kind, .int .i64 nd.at_, .int .i64 nd.wh, .int .i64 nd.close, .int .i64 nd.decl, .int .i64 nd.typ, .int .i64 nd.op, .int .i64 nd.val, .string s, .slice ka kl kc] 39)).drewN q) ka kc nd.kids := fun q => hK.below (Below.drewN' ((Below.refl _ _).alloc (Nat.le_refl _) _) q) (Nat.le_refl _)
        rcases hla with ⟨rfl, rfl, hn0, hl0⟩ | ⟨g, rfl, hgB, hglt⟩
        · obtain rfl : rr = 0 := by omega
          obtain rfl : kl = 0 := by omega
          subst hn0 hl0
          have HE : ∀ q (a : Option Addr), Ints ((wr.alloc (.cells #[.int .i64 nd.kind, .int .i64 nd.at_, .int .i64 nd.wh, .int .i64 nd.close, .int .i64 nd.decl, .int .i64 nd.typ, .int .i64 nd.op, .int .i64 nd.val, .string s, .slice ka 0 kc] 39)).drewN q) a 0 (([] : List Int).drop 0) := fun q a => Ints.ofNil (by simp) (by omega)
          cases R
          · skip
            go_wp2_with fail
            go_quiet (first | (go_at_call 22; exact Calls.quiet_of (equal_at _ _ _ _ _ _ _ (([] : List Int).drop 0) nd.kids false (by have := HLN.out; simp; try omega) HKL.out (HE _ _) (HK2 _) HRR.out)))
            go_wp2_with fail
            go_ret
            exact ⟨ret_i (HR.none (ndfail HL (HNN.out ▸ hlt) HND.out HD.out (fun _ h _ _ => by have := HRR.out; simp [h] at this))), Below.drewN' (hbw.alloc hbw.size _) _⟩
          · skip
            go_wp2_with fail
            go_quiet (first | (go_at_call 22; exact Calls.quiet_of (equal_at _ _ _ _ _ _ _ (([] : List Int).drop 0) nd.kids true (by have := HLN.out; simp; try omega) HKL.out (HE _ _) (HK2 _) HRR.out)))
            go_wp2_with fail
            have hbX : Below (w.heap.size + 1) (w.alloc (.cells #[.slice (some ⟨b, o, none⟩) nn nc, .slice fo fn fc] 25)) ((wr.alloc (.cells #[.int .i64 nd.kind, .int .i64 nd.at_, .int .i64 nd.wh, .int .i64 nd.close, .int .i64 nd.decl, .int .i64 nd.typ, .int .i64 nd.op, .int .i64 nd.val, .string s, .slice ka 0 kc] 39)).drewN nq) := Below.drewN' (hbl.alloc hs1 _) _
            have hbXr : Below wr.heap.size wr ((wr.alloc (.cells #[.int .i64 nd.kind, .int .i64 nd.at_, .int .i64 nd.wh, .int .i64 nd.close, .int .i64 nd.decl, .int .i64 nd.typ, .int .i64 nd.op, .int .i64 nd.val, .string s, .slice ka 0 kc] 39)).drewN nq) := Below.drewN' ((Below.refl _ _).alloc (Nat.le_refl _) _) _
            obtain ⟨Rf, hRf⟩ : ∃ R, ffit nd = R := ⟨_, rfl⟩
            have HRf : Hid (ffit nd = Rf) := hRf
            refine (fieldsFit_at _ (HT.out.below (B := w.heap.size) (Below.drewN' (hbw.alloc hbw.size _) _) HT.out.1) nd ka kc s 0 Rf HS.out HKL.out hRf).mono ?_
            rintro e w3 ⟨rfl, hb3⟩
            clear hRf
            have hs3 := hb3.size
            simp at hs3
            have hb3X : Below (w.heap.size + 1) (w.alloc (.cells #[.slice (some ⟨b, o, none⟩) nn nc, .slice fo fn fc] 25)) w3 := hbX.trans (hb3.mono (by simp; omega))
            have hb3w : Below w.heap.size w w3 := ((Below.refl _ _).alloc (Nat.le_refl _) _).trans (hb3X.mono (by omega))
            have hb3r : Below wr.heap.size wr w3 := hbXr.trans (hb3.mono (by simp))
            cases Rf
            · go_wp2_with fail
              go_ret
              exact ⟨ret_i (HR.none (ndfail HL (HNN.out ▸ hlt) HND.out HD.out (fun _ _ h _ => by have := HRf.out; simp [h] at this))), hb3w⟩
            · obtain ⟨d0, d1, d2, d3, d4, d5, d6, d7, d8, d9⟩ := ndcells hb3 (by simp)
              have g0 : w3.cell? ⟨w.heap.size, 0, none⟩ = some (.slice (some ⟨b, o, none⟩) nn nc) := cell_below hb3X (by omega) (by simp)
              obtain ⟨Rk, hRk⟩ : ∃ R, kfit T.nodes nd = R := ⟨_, rfl⟩
              have HRk : Hid (kfit T.nodes nd = Rk) := hRk
              clear hb3 hRk
              go_wp2_with fail
              refine (kidsFit_at _ _ nc nn T.nodes HNN.out (hN.below hb3w (Nat.le_refl _)) nd ka kc s 0 Rk (hK.below hb3r (Nat.le_refl _)) (fun x hx => ?_) HS.out HKL.out HRk.out).mono ?_
              · have h1 := of_decide_eq_true HRR.out
                rw [← h1] at hx
                have := HL.rng x (List.mem_of_mem_drop hx)
                have := HNN.out
                omega
              rintro e w4 ⟨rfl, hb4⟩
              have hs4 := hb4.size
              have hb4X := hb3X.trans (hb4.mono (by omega))
              have hb4w : Below w.heap.size w w4 := hb3w.trans (hb4.mono (by omega))
              have hb4r : Below wr.heap.size wr w4 := hb3r.trans (hb4.mono (by omega))
              clear hb4 d0 d1 d2 d3 d4 d5 d6 d7 d8 d9 g0
              cases Rk
              · go_wp2_with fail
                go_ret
                exact ⟨ret_i (HR.none (ndfail HL (HNN.out ▸ hlt) HND.out HD.out (fun _ _ _ h => by have := HRk.out; simp [h] at this))), hb4w⟩
              · have HO4 := (HO.keep hb4r).take 0 hrl
                have HCL : CL T.nodes (([] : List Int).take 0 ++ [(i : Int)]) (i + 1) C := ndthen HL (HNN.out ▸ hlt) HND.out HD.out (by have := HLN.out; have := HKL.out; omega) (by have := HRR.out; simpa using this) HRf.out HRk.out
                have hA1 : 0 + 1 ≤ 17592186044416 := by omega
                have hA2 : w.heap.size + 1 ≤ w4.heap.size := by omega
                go_wp2_with (first | (at_builtin; refine wpList_append_int rfl _ _ rfl (w.heap.size + 1) _ 0 (([] : List Int).take 0) i ?_ HO4 ?_ hA1 hA2 ?_; (next => rfl); (next => rfl); intro v5 w5 HO5 hb5))
                go_roundw
                case rel => exact ⟨i + 1, 0 + 1, _, by omega, by go_num, HO5, HCL, hb4X.trans hb5⟩
                case measure => simp [intOf]; omega
        · by_cases hcap : lc = rr
          · obtain rfl : kl = 0 := by omega
            obtain rfl : n = rr := by omega
            subst hcap
            have HE : ∀ q (a : Option Addr), Ints ((wr.alloc (.cells #[.int .i64 nd.kind, .int .i64 nd.at_, .int .i64 nd.wh, .int .i64 nd.close, .int .i64 nd.decl, .int .i64 nd.typ, .int .i64 nd.op, .int .i64 nd.val, .string s, .slice ka 0 kc] 39)).drewN q) a 0 (l.drop lc) := fun q a => Ints.ofNil (by have := HLN.out; simp; omega) (by omega)
            cases R
            · skip
              go_wp2_with fail
              go_quiet (first | (go_at_call 22; exact Calls.quiet_of (equal_at _ _ _ _ _ _ _ (l.drop lc) nd.kids false (by have := HLN.out; simp; try omega) HKL.out (HE _ _) (HK2 _) HRR.out)))
              go_wp2_with fail
              go_ret
              exact ⟨ret_i (HR.none (ndfail HL (HNN.out ▸ hlt) HND.out HD.out (fun _ h _ _ => by have := HRR.out; simp [h] at this))), Below.drewN' (hbw.alloc hbw.size _) _⟩
            · skip
              go_wp2_with fail
              go_quiet (first | (go_at_call 22; exact Calls.quiet_of (equal_at _ _ _ _ _ _ _ (l.drop lc) nd.kids true (by have := HLN.out; simp; try omega) HKL.out (HE _ _) (HK2 _) HRR.out)))
              go_wp2_with fail
              have hbX : Below (w.heap.size + 1) (w.alloc (.cells #[.slice (some ⟨b, o, none⟩) nn nc, .slice fo fn fc] 25)) ((wr.alloc (.cells #[.int .i64 nd.kind, .int .i64 nd.at_, .int .i64 nd.wh, .int .i64 nd.close, .int .i64 nd.decl, .int .i64 nd.typ, .int .i64 nd.op, .int .i64 nd.val, .string s, .slice ka 0 kc] 39)).drewN nq) := Below.drewN' (hbl.alloc hs1 _) _
              have hbXr : Below wr.heap.size wr ((wr.alloc (.cells #[.int .i64 nd.kind, .int .i64 nd.at_, .int .i64 nd.wh, .int .i64 nd.close, .int .i64 nd.decl, .int .i64 nd.typ, .int .i64 nd.op, .int .i64 nd.val, .string s, .slice ka 0 kc] 39)).drewN nq) := Below.drewN' ((Below.refl _ _).alloc (Nat.le_refl _) _) _
              obtain ⟨Rf, hRf⟩ : ∃ R, ffit nd = R := ⟨_, rfl⟩
              have HRf : Hid (ffit nd = Rf) := hRf
              refine (fieldsFit_at _ (HT.out.below (B := w.heap.size) (Below.drewN' (hbw.alloc hbw.size _) _) HT.out.1) nd ka kc s 0 Rf HS.out HKL.out hRf).mono ?_
              rintro e w3 ⟨rfl, hb3⟩
              clear hRf
              have hs3 := hb3.size
              simp at hs3
              have hb3X : Below (w.heap.size + 1) (w.alloc (.cells #[.slice (some ⟨b, o, none⟩) nn nc, .slice fo fn fc] 25)) w3 := hbX.trans (hb3.mono (by simp; omega))
              have hb3w : Below w.heap.size w w3 := ((Below.refl _ _).alloc (Nat.le_refl _) _).trans (hb3X.mono (by omega))
              have hb3r : Below wr.heap.size wr w3 := hbXr.trans (hb3.mono (by simp))
              cases Rf
              · go_wp2_with fail
                go_ret
                exact ⟨ret_i (HR.none (ndfail HL (HNN.out ▸ hlt) HND.out HD.out (fun _ _ h _ => by have := HRf.out; simp [h] at this))), hb3w⟩
              · obtain ⟨d0, d1, d2, d3, d4, d5, d6, d7, d8, d9⟩ := ndcells hb3 (by simp)
                have g0 : w3.cell? ⟨w.heap.size, 0, none⟩ = some (.slice (some ⟨b, o, none⟩) nn nc) := cell_below hb3X (by omega) (by simp)
                obtain ⟨Rk, hRk⟩ : ∃ R, kfit T.nodes nd = R := ⟨_, rfl⟩
                have HRk : Hid (kfit T.nodes nd = Rk) := hRk
                clear hb3 hRk
                go_wp2_with fail
                refine (kidsFit_at _ _ nc nn T.nodes HNN.out (hN.below hb3w (Nat.le_refl _)) nd ka kc s 0 Rk (hK.below hb3r (Nat.le_refl _)) (fun x hx => ?_) HS.out HKL.out HRk.out).mono ?_
                · have h1 := of_decide_eq_true HRR.out
                  rw [← h1] at hx
                  have := HL.rng x (List.mem_of_mem_drop hx)
                  have := HNN.out
                  omega
                rintro e w4 ⟨rfl, hb4⟩
                have hs4 := hb4.size
                have hb4X := hb3X.trans (hb4.mono (by omega))
                have hb4w : Below w.heap.size w w4 := hb3w.trans (hb4.mono (by omega))
                have hb4r : Below wr.heap.size wr w4 := hb3r.trans (hb4.mono (by omega))
                clear hb4 d0 d1 d2 d3 d4 d5 d6 d7 d8 d9 g0
                cases Rk
                · go_wp2_with fail
                  go_ret
                  exact ⟨ret_i (HR.none (ndfail HL (HNN.out ▸ hlt) HND.out HD.out (fun _ _ _ h => by have := HRk.out; simp [h] at this))), hb4w⟩
                · have HO4 := (HO.keep hb4r).take lc hrl
                  have HCL : CL T.nodes (l.take lc ++ [(i : Int)]) (i + 1) C := ndthen HL (HNN.out ▸ hlt) HND.out HD.out (by have := HLN.out; have := HKL.out; omega) (by have := HRR.out; simpa using this) HRf.out HRk.out
                  have hA1 : lc + 1 ≤ 17592186044416 := by omega
                  have hA2 : w.heap.size + 1 ≤ w4.heap.size := by omega
                  go_wp2_with (first | (at_builtin; refine wpList_append_int rfl _ _ rfl (w.heap.size + 1) _ lc (l.take lc) i ?_ HO4 ?_ hA1 hA2 ?_; (next => rfl); (next => rfl); intro v5 w5 HO5 hb5))
                  go_roundw
                  case rel => exact ⟨i + 1, lc + 1, _, by omega, by go_num, HO5, HCL, hb4X.trans hb5⟩
                  case measure => simp [intOf]; omega
          · have HE : ∀ q, Ints ((wr.alloc (.cells #[.int .i64 nd.kind, .int .i64 nd.at_, .int .i64 nd.wh, .int .i64 nd.close, .int .i64 nd.decl, .int .i64 nd.typ, .int .i64 nd.op, .int .i64 nd.val, .string s, .slice ka kl kc] 39)).drewN q) (some ⟨g, rr, none⟩) (lc - rr) (l.drop rr) := fun q => (show Ints wr (some ⟨g, rr, none⟩) (lc - rr) (l.drop rr) by have := hI.dropI rr; rwa [Nat.zero_add] at this).below (Below.drewN' ((Below.refl _ _).alloc (Nat.le_refl _) _) q) (Nat.le_refl _)
            cases R
            · skip
              go_wp2_with fail
              go_quiet (first | (go_at_call 22; exact Calls.quiet_of (equal_at _ _ _ _ _ _ _ (l.drop rr) nd.kids false (by have := HLN.out; simp; try omega) HKL.out (HE _) (HK2 _) HRR.out)))
              go_wp2_with fail
              go_ret
              exact ⟨ret_i (HR.none (ndfail HL (HNN.out ▸ hlt) HND.out HD.out (fun _ h _ _ => by have := HRR.out; simp [h] at this))), Below.drewN' (hbw.alloc hbw.size _) _⟩
            · skip
              go_wp2_with fail
              go_quiet (first | (go_at_call 22; exact Calls.quiet_of (equal_at _ _ _ _ _ _ _ (l.drop rr) nd.kids true (by have := HLN.out; simp; try omega) HKL.out (HE _) (HK2 _) HRR.out)))
              go_wp2_with fail
              have hbX : Below (w.heap.size + 1) (w.alloc (.cells #[.slice (some ⟨b, o, none⟩) nn nc, .slice fo fn fc] 25)) ((wr.alloc (.cells #[.int .i64 nd.kind, .int .i64 nd.at_, .int .i64 nd.wh, .int .i64 nd.close, .int .i64 nd.decl, .int .i64 nd.typ, .int .i64 nd.op, .int .i64 nd.val, .string s, .slice ka kl kc] 39)).drewN nq) := Below.drewN' (hbl.alloc hs1 _) _
              have hbXr : Below wr.heap.size wr ((wr.alloc (.cells #[.int .i64 nd.kind, .int .i64 nd.at_, .int .i64 nd.wh, .int .i64 nd.close, .int .i64 nd.decl, .int .i64 nd.typ, .int .i64 nd.op, .int .i64 nd.val, .string s, .slice ka kl kc] 39)).drewN nq) := Below.drewN' ((Below.refl _ _).alloc (Nat.le_refl _) _) _
              obtain ⟨Rf, hRf⟩ : ∃ R, ffit nd = R := ⟨_, rfl⟩
              have HRf : Hid (ffit nd = Rf) := hRf
              refine (fieldsFit_at _ (HT.out.below (B := w.heap.size) (Below.drewN' (hbw.alloc hbw.size _) _) HT.out.1) nd ka kc s kl Rf HS.out HKL.out hRf).mono ?_
              rintro e w3 ⟨rfl, hb3⟩
              clear hRf
              have hs3 := hb3.size
              simp at hs3
              have hb3X : Below (w.heap.size + 1) (w.alloc (.cells #[.slice (some ⟨b, o, none⟩) nn nc, .slice fo fn fc] 25)) w3 := hbX.trans (hb3.mono (by simp; omega))
              have hb3w : Below w.heap.size w w3 := ((Below.refl _ _).alloc (Nat.le_refl _) _).trans (hb3X.mono (by omega))
              have hb3r : Below wr.heap.size wr w3 := hbXr.trans (hb3.mono (by simp))
              cases Rf
              · go_wp2_with fail
                go_ret
                exact ⟨ret_i (HR.none (ndfail HL (HNN.out ▸ hlt) HND.out HD.out (fun _ _ h _ => by have := HRf.out; simp [h] at this))), hb3w⟩
              · obtain ⟨d0, d1, d2, d3, d4, d5, d6, d7, d8, d9⟩ := ndcells hb3 (by simp)
                have g0 : w3.cell? ⟨w.heap.size, 0, none⟩ = some (.slice (some ⟨b, o, none⟩) nn nc) := cell_below hb3X (by omega) (by simp)
                obtain ⟨Rk, hRk⟩ : ∃ R, kfit T.nodes nd = R := ⟨_, rfl⟩
                have HRk : Hid (kfit T.nodes nd = Rk) := hRk
                clear hb3 hRk
                go_wp2_with fail
                refine (kidsFit_at _ _ nc nn T.nodes HNN.out (hN.below hb3w (Nat.le_refl _)) nd ka kc s kl Rk (hK.below hb3r (Nat.le_refl _)) (fun x hx => ?_) HS.out HKL.out HRk.out).mono ?_
                · have h1 := of_decide_eq_true HRR.out
                  rw [← h1] at hx
                  have := HL.rng x (List.mem_of_mem_drop hx)
                  have := HNN.out
                  omega
                rintro e w4 ⟨rfl, hb4⟩
                have hs4 := hb4.size
                have hb4X := hb3X.trans (hb4.mono (by omega))
                have hb4w : Below w.heap.size w w4 := hb3w.trans (hb4.mono (by omega))
                have hb4r : Below wr.heap.size wr w4 := hb3r.trans (hb4.mono (by omega))
                clear hb4 d0 d1 d2 d3 d4 d5 d6 d7 d8 d9 g0
                cases Rk
                · go_wp2_with fail
                  go_ret
                  exact ⟨ret_i (HR.none (ndfail HL (HNN.out ▸ hlt) HND.out HD.out (fun _ _ _ h => by have := HRk.out; simp [h] at this))), hb4w⟩
                · have HO4 := (HO.keep hb4r).take rr hrl
                  have HCL : CL T.nodes (l.take rr ++ [(i : Int)]) (i + 1) C := ndthen HL (HNN.out ▸ hlt) HND.out HD.out (by have := HLN.out; have := HKL.out; omega) (by have := HRR.out; simpa using this) HRf.out HRk.out
                  have hA1 : rr + 1 ≤ 17592186044416 := by omega
                  have hA2 : w.heap.size + 1 ≤ w4.heap.size := by omega
                  go_wp2_with (first | (at_builtin; refine wpList_append_int rfl _ _ rfl (w.heap.size + 1) _ rr (l.take rr) i ?_ HO4 ?_ hA1 hA2 ?_; (next => rfl); (next => rfl); intro v5 w5 HO5 hb5))
                  go_roundw
                  case rel => exact ⟨i + 1, rr + 1, _, by omega, by go_num, HO5, HCL, hb4X.trans hb5⟩
                  case measure => simp [intOf]; omega
      · obtain ⟨rr, hrr⟩ : ∃ rr : Nat, rr + n = kl := ⟨kl - n, by omega⟩
        have hsub : (n : Int) - (kl : Int) = -(rr : Int) := by omega
        have hneg : -(rr : Int) < 0 := by omega
        have hpos : 0 < rr := by omega
        go_wp2_with fail
        go_quiet (fail)
        go_wp2_with fail
        go_ret
        exact ⟨ret_i (HR.none (ndfail HL (HNN.out ▸ hlt) HND.out rfl (fun h _ _ _ => by have := HLN.out; have := HKL.out; omega))), Below.drewN' (hbw.alloc hbw.size _) _⟩
    · have hin : i = nn := by omega
      subst hin
      obtain ⟨la, lc, rfl, hv1, hv2, hI, hla⟩ := HO.view
      have HLN : Hid (n = l.length) := HO.len
      have hCl := HL.fin (by have := HNN.out; omega)
      have HCl : Hid (C = some l) := hCl
      clear hCl
      obtain ⟨Re, hRe⟩ : ∃ R, decide (l = T.funcs) = R := ⟨_, rfl⟩
      have HRe : Hid (decide (l = T.funcs) = Re) := hRe
      clear hRe
      go_wp2_with fail
      refine (equal_at _ la fo lc fc n fn l T.funcs Re HLN.out HFN.out hI (hF.below hbw (Nat.le_refl _)) HRe.out).mono ?_
      rintro e w5 ⟨rfl, q5, rfl⟩
      cases Re
      · go_wp2_with fail
        go_ret
        exact ⟨ret_i (by rw [HR.out, HCl.out]; simp only [HRe.out, Bool.false_and]; rfl), Below.drewN' hbw _⟩
      · have f0' : (wr.drewN q5).cell? ⟨w.heap.size, 0, none⟩ = some (.slice no i nc) := by simpa using f0
        obtain ⟨Ra, hRa⟩ : ∃ R, allK T.nodes (isK 1) l = R := ⟨_, rfl⟩
        have HRa : Hid (allK T.nodes (isK 1) l = Ra) := hRa
        clear hRa
        go_wp2_with fail
        refine (all_isFunc _ no nc i T.nodes HNN.out (hN.below (Below.drewN' hbw _) (Nat.le_refl _)) la lc n l HLN.out (hI.drewN _) (fun x hx => by have := HL.rng x hx; have := HNN.out; omega)).mono ?_
        rintro e w6 ⟨rfl, rfl⟩
        rw [HRa.out]
        cases Ra
        · go_wp2_with fail
          go_ret
          exact ⟨ret_i (by rw [HR.out, HCl.out]; simp only [HRa.out, Bool.and_false]; rfl), Below.drewN' hbw _⟩
        · go_wp2_with fail
          go_ret
          exact ⟨ret_i (by rw [HR.out, HCl.out]; simp only [HRe.out, HRa.out]; rfl), Below.drewN' hbw _⟩
end Go.Proofs.YtjepkcebfojiaaaDoor
