import Derived.Test.YtjepkcebfojiaaaDoorLyA
import Derived.Deep.Slices
import Derived.OpenShut
import Derived.ChangeOld
import Derived.Carry
import Derived.LaidMore
import Derived.SevenTiedAt
import Derived.Stop.Joined
import Derived.Test.YtjepkcebfojiaaaDoorTie
import Derived.Test.YtjepkcebfojiaaaDoorCards
import Derived.Lib.LaidTab
import Derived.Test.YtjepkcebfojiaaaDoorLyH
import Derived.Lib.SmallJoins
import Derived.Test.YtjepkcebfojiaaaDoorLyD
import Derived.SizedLaws
import Derived.Test.YtjepkcebfojiaaaDoorLyN
import Derived.Test.YtjepkcebfojiaaaDoorLyQ
set_option linter.unusedVariables false
set_option linter.unusedSimpArgs false
namespace Go.Proofs.YtjepkcebfojiaaaDoor
open Go.ChangeShapes Go.WideShapes Go.ChangeAt Go.RowKit

theorem own : ownKnob Tryd.prog.godebug = none := by kernel_rfl
theorem laidOut : laidOutB Tryd.prog = true := by kernel_rfl

theorem cells_of_strs {P : Program} {w : World} {fuel : Nat} {t e : TypeId} {n : Nat} {cs : List Value} {ss : List (List UInt8)} {p : List MemPlace}
    (ht : P.underlying t = some (.array n e)) (he : P.underlying e = some .string) (hce : P.cellsOf e = 1) (hct : P.cellsOf t = n)
    (h : DataW.trod (fun _ => ()) P w 0 (fun _ => true) false fuel t cs = some (.agg (ss.map fun s => .lit (.string s)), p)) : ∀ i, i < ss.length → cs[i]? = some (.string (bs (ss.getD i []))) := by
  intro i hi
  cases fuel with
  | zero => simp [DataW.trod] at h
  | succ fuel =>
    simp only [DataW.trod, ht, hce, hct, Nat.mul_one] at h
    split at h
    · obtain ⟨xs, hm, hx⟩ := Option.map_eq_some_iff.1 h
      have hxs : xs.map (·.1) = ss.map fun s => (DataW.lit (.string s) : DataW Unit) := by
        have := congrArg Prod.fst hx
        simpa using this
      have hxl : xs.length = n := by simpa using Lib.mapM_length hm
      have hzl : ss.length = n := by
        have := congrArg List.length hxs
        simp at this
        omega
      have hin : i < n := by omega
      obtain ⟨b, hb, hf⟩ := Lib.mapM_at hm i i (by simp [hin])
      obtain ⟨s, hc, hz, _⟩ := DataW.trod_string he hf
      have h1 : cs[i]? = some (.string s) := by
        have := congrArg (·[0]?) hc
        simpa [List.getElem?_take, List.getElem?_drop] using this
      have h2 : (xs.map (·.1))[i]? = some (DataW.lit (.string s.data.toList) : DataW Unit) := by simp [hb, hz]
      rw [hxs] at h2
      simp only [List.getElem?_map, Option.map_eq_some_iff, DataW.lit.injEq, Lit.string.injEq] at h2
      obtain ⟨z', hz', e⟩ := h2
      rw [h1]
      simp [List.getD, hz', e, bs]
    · cases h

theorem tab_of_laid {W : World} (hL : laidMetH Tryd.prog [("quern/lex.words", Rows.laid_quern_lex_words), ("quern/lex.signs", Rows.laid_quern_lex_signs)] W) : Tab W := by
  have h : laidMet Tryd.prog [("quern/lex.words", Rows.laid_quern_lex_words), ("quern/lex.signs", Rows.laid_quern_lex_signs)] W := hL
  obtain ⟨ps, ⟨g1, t1, cs1, f1, p1, q1, hg1, ht1, hv1, hd1, ⟨g2, t2, cs2, f2, p2, q2, hg2, ht2, hv2, hd2, _, _⟩, _⟩, _⟩ := h
  have e1 : Tryd.prog.globalNamed "quern/lex.words" = some 2 := by kernel_rfl
  have e2 : Tryd.prog.globalNamed "quern/lex.signs" = some 0 := by kernel_rfl
  obtain rfl := Option.some.inj (e1.symm.trans hg1)
  obtain rfl := Option.some.inj (e2.symm.trans hg2)
  obtain rfl := Option.some.inj ((show (Tryd.prog.globals[2]?).map (·.type) = some 81 by kernel_rfl).symm.trans ht1)
  obtain rfl := Option.some.inj ((show (Tryd.prog.globals[0]?).map (·.type) = some 78 by kernel_rfl).symm.trans ht2)
  have k1 : ∀ i, i < 18 → W.cell? ⟨2, i, none⟩ = some (.string (bs (WORDS.getD i []))) := fun i hi => by
    rw [World.var?_cell hg1 hv1, ← Array.getElem?_toList]
    exact cells_of_strs (ss := WORDS) Tryd.underlying81 Tryd.underlying9 (by kernel_rfl) (by kernel_rfl) hd1 i hi
  have k2 : ∀ i, i < 29 → W.cell? ⟨0, i, none⟩ = some (.string (bs (SIGNS.getD i []))) := fun i hi => by
    rw [World.var?_cell hg2 hv2, ← Array.getElem?_toList]
    exact cells_of_strs (ss := SIGNS) Tryd.underlying78 Tryd.underlying9 (by kernel_rfl) (by kernel_rfl) hd2 i hi
  have b1 : 2 < W.heap.size := block_lt_of_cell (k1 0 (by omega))
  have b2 : 0 < W.heap.size := block_lt_of_cell (k2 0 (by omega))
  exact ⟨by omega, k1, k2⟩

theorem byte_wf {n : Int} (h : (Lit.int .u8 n).wf = true) : ∃ x : UInt8, n = (x.toNat : Int) := by
  have h1 : 0 ≤ n ∧ n < 256 := by
    simp [Lit.wf] at h
    have a : (0 : Int) ≤ n := h.1
    have b : n ≤ 255 := h.2
    omega
  refine ⟨UInt8.ofNat n.toNat, ?_⟩
  rw [UInt8.toNat_ofNat']
  omega

/-- A slice of bytes that came in. -/
theorem bytes_view {H : Type} {enc : TypeId × Value → H} {W : World} {fuel : Nat} {cs : List Value} {x : DataW H × List MemPlace} (h : DataW.trod enc Tryd.prog W 0 (fun _ => true) true fuel 28 cs = some x) :
    ∃ (ao : Option Addr) (cap : Nat) (L : List UInt8), cs = [.slice ao L.length cap] ∧ (ao = none → cap = 0) ∧ Txt W ao cap L := by
  rcases Deep.open_slice Tryd.underlying28 h with ⟨h0, _⟩ | ⟨a, len, cap, m, n, D, Pl, rfl, _, hl, hm, hmm, _, hx⟩
  · exact ⟨none, 0, [], h0, fun _ => rfl, by simp, by omega, fun h => absurd rfl h⟩
  · have c5 : Tryd.prog.cellsOf 5 = 1 := by kernel_rfl
    rw [c5] at hx
    have hml : len ≤ m := by rw [hmm]; simp; exact hl
    have each : ∀ i, i < len → ∃ q : UInt8, W.cell? (a.add i) = some (.int .u8 (q.toNat : Int)) := by
      intro i hi
      obtain ⟨cs', h1, h2⟩ := hx i (by omega)
      obtain ⟨_, hlen, hcell⟩ := World.cells?_some h1
      obtain ⟨n0, e0, _, z0⟩ := DataW.trod_int Tryd.underlying5 h2
      subst e0
      obtain ⟨x, rfl⟩ := byte_wf z0
      have q0 := hcell 0 (by omega)
      rw [Deep.add_add] at q0
      exact ⟨x, by simpa using q0⟩
    obtain ⟨q, hq⟩ := Deep.choose_lt each
    refine ⟨some a, cap, (List.range len).map q, by simp, (fun h => by cases h), by simpa using hl, hm, fun hne => ?_⟩
    have hl0 : 0 < len := by
      rcases Nat.eq_zero_or_pos len with h | h
      · subst h; simp at hne
      · exact h
    obtain ⟨b, off, spot⟩ := a
    have hspot : spot = none := by simpa [Addr.add] using World.cell?_spot (hq 0 hl0)
    subst hspot
    refine ⟨b, off, rfl, block_lt_of_cell (hq 0 hl0), fun i hi => ?_⟩
    have hi' : i < len := by simpa using hi
    have := hq i hi'
    rw [add_plain] at this
    rw [this]; simp

theorem below_same {W w' : World} (h : Below W.heap.size W w') {p : MemPlace} (hp : p.block < W.heap.size) : W.sameAt w' p := h.same hp
end Go.Proofs.YtjepkcebfojiaaaDoor
namespace Go.Proofs.YtjepkcebfojiaaaDoor
open Go.ChangeShapes Go.WideShapes Go.ChangeAt Go.RowKit

/-- A slice of numbers that came in. -/
theorem ints_view {H : Type} {enc : TypeId × Value → H} {W : World} {fuel : Nat} {cs : List Value} {x : DataW H × List MemPlace} (h : DataW.trod enc Tryd.prog W 0 (fun _ => true) true fuel 23 cs = some x) :
    ∃ (ao : Option Addr) (cap : Nat) (L : List Int), cs = [.slice ao L.length cap] ∧ (ao = none → cap = 0) ∧ Ints W ao cap L := by
  rcases Deep.open_slice Tryd.underlying23 h with ⟨h0, _⟩ | ⟨a, len, cap, m, n, D, Pl, rfl, _, hl, hm, hmm, _, hx⟩
  · exact ⟨none, 0, [], h0, fun _ => rfl, ⟨by simp, by omega, fun h => absurd rfl h⟩⟩
  · have c5 : Tryd.prog.cellsOf 3 = 1 := by kernel_rfl
    rw [c5] at hx
    have hml : len ≤ m := by rw [hmm]; simp; exact hl
    have each : ∀ i, i < len → ∃ q : Int, W.cell? (a.add i) = some (.int .i64 q) := by
      intro i hi
      obtain ⟨cs', h1, h2⟩ := hx i (by omega)
      obtain ⟨_, hlen, hcell⟩ := World.cells?_some h1
      obtain ⟨n0, e0, _, z0⟩ := DataW.trod_int Tryd.underlying3 h2
      subst e0
      have q0 := hcell 0 (by omega)
      rw [Deep.add_add] at q0
      exact ⟨n0, by simpa using q0⟩
    obtain ⟨q, hq⟩ := Deep.choose_lt each
    refine ⟨some a, cap, (List.range len).map q, by simp, (fun h => by cases h), ⟨by simpa using hl, hm, fun hne => ?_⟩⟩
    have hl0 : 0 < len := by
      rcases Nat.eq_zero_or_pos len with h | h
      · subst h; simp at hne
      · exact h
    obtain ⟨b, off, spot⟩ := a
    have hspot : spot = none := by simpa [Addr.add] using World.cell?_spot (hq 0 hl0)
    subst hspot
    refine ⟨b, off, rfl, block_lt_of_cell (hq 0 hl0), fun i hi => ?_⟩
    have hi' : i < len := by simpa using hi
    have := hq i hi'
    rw [add_plain] at this
    rw [this]; simp

theorem bs_data (s : ByteArray) : ∃ L : List UInt8, s = bs L := ⟨s.data.toList, by simp [bs]⟩

set_option maxRecDepth 20000 in
set_option maxHeartbeats 2000000 in
/-- A slice of nodes that came in. -/
theorem nodes_view {H : Type} {enc : TypeId × Value → H} {W : World} {fuel : Nat} {cs : List Value} {x : DataW H × List MemPlace} (h : DataW.trod enc Tryd.prog W 0 (fun _ => true) true fuel 22 cs = some x) :
    ∃ (ao : Option Addr) (cap : Nat) (N : List Nd), cs = [.slice ao N.length cap] ∧ Nodes W ao cap N := by
  rcases Deep.open_slice Tryd.underlying22 h with ⟨h0, _⟩ | ⟨a, len, cap, m, n, D, Pl, rfl, _, hl, hm, hmm, _, hx⟩
  · exact ⟨none, 0, [], h0, ⟨by simp, by omega, fun h => absurd rfl h⟩⟩
  · have ce : Tryd.prog.cellsOf 39 = 10 := by kernel_rfl
    have c3 : Tryd.prog.cellsOf 3 = 1 := by kernel_rfl
    have c9 : Tryd.prog.cellsOf 9 = 1 := by kernel_rfl
    have c36 : Tryd.prog.cellsOf 23 = 1 := by kernel_rfl
    rw [ce] at hx
    have hml : len ≤ m := by rw [hmm]; simp; exact hl
    have each : ∀ i, i < len → ∃ q : Nd, ∃ (ka : Option Addr) (kc : Nat), W.cell? (a.add (i * 10)) = some (.int .i64 q.kind) ∧ W.cell? (a.add (i * 10 + 1)) = some (.int .i64 q.at_) ∧ W.cell? (a.add (i * 10 + 2)) = some (.int .i64 q.wh) ∧ W.cell? (a.add (i * 10 + 3)) = some (.int .i64 q.close)
        ∧ W.cell? (a.add (i * 10 + 4)) = some (.int .i64 q.decl) ∧ W.cell? (a.add (i * 10 + 5)) = some (.int .i64 q.typ) ∧ W.cell? (a.add (i * 10 + 6)) = some (.int .i64 q.op) ∧ W.cell? (a.add (i * 10 + 7)) = some (.int .i64 q.val)
        ∧ W.cell? (a.add (i * 10 + 8)) = some (.string (bs q.name)) ∧ W.cell? (a.add (i * 10 + 9)) = some (.slice ka q.kids.length kc) ∧ Ints W ka kc q.kids := by
      intro i hi
      obtain ⟨cs', h1, h2⟩ := hx i (by omega)
      obtain ⟨_, hlen, hcell⟩ := World.cells?_some h1
      obtain ⟨xs, k, hk, hxy, _, hxl, hf⟩ := DataW.trod_struct Tryd.underlying39 h2
      match cs', hlen with
      | [v0, v1, v2, v3, v4, v5, v6, v7, v8, v9], _ =>
        have g0 := hf 0 _ rfl
        have g1 := hf 1 _ rfl
        have g2 := hf 2 _ rfl
        have g3 := hf 3 _ rfl
        have g4 := hf 4 _ rfl
        have g5 := hf 5 _ rfl
        have g6 := hf 6 _ rfl
        have g7 := hf 7 _ rfl
        have g8 := hf 8 _ rfl
        have g9 := hf 9 _ rfl
        simp [c3, c9, c36] at g0 g1 g2 g3 g4 g5 g6 g7 g8 g9
        match xs, hxl with
        | [y0, y1, y2, y3, y4, y5, y6, y7, y8, y9], _ =>
          obtain ⟨n0, e0, _, _⟩ := DataW.trod_int Tryd.underlying3 (show DataW.trod enc Tryd.prog W 0 _ true k 3 _ = some y0 from g0)
          obtain ⟨n1, e1, _, _⟩ := DataW.trod_int Tryd.underlying3 (show DataW.trod enc Tryd.prog W 0 _ true k 3 _ = some y1 from g1)
          obtain ⟨n2, e2, _, _⟩ := DataW.trod_int Tryd.underlying3 (show DataW.trod enc Tryd.prog W 0 _ true k 3 _ = some y2 from g2)
          obtain ⟨n3, e3, _, _⟩ := DataW.trod_int Tryd.underlying3 (show DataW.trod enc Tryd.prog W 0 _ true k 3 _ = some y3 from g3)
          obtain ⟨n4, e4, _, _⟩ := DataW.trod_int Tryd.underlying3 (show DataW.trod enc Tryd.prog W 0 _ true k 3 _ = some y4 from g4)
          obtain ⟨n5, e5, _, _⟩ := DataW.trod_int Tryd.underlying3 (show DataW.trod enc Tryd.prog W 0 _ true k 3 _ = some y5 from g5)
          obtain ⟨n6, e6, _, _⟩ := DataW.trod_int Tryd.underlying3 (show DataW.trod enc Tryd.prog W 0 _ true k 3 _ = some y6 from g6)
          obtain ⟨n7, e7, _, _⟩ := DataW.trod_int Tryd.underlying3 (show DataW.trod enc Tryd.prog W 0 _ true k 3 _ = some y7 from g7)
          obtain ⟨s8, e8, _, _⟩ := DataW.trod_string Tryd.underlying9 (show DataW.trod enc Tryd.prog W 0 _ true k 9 _ = some y8 from g8)
          obtain ⟨ka, kc, L, e9, _, hI⟩ := ints_view (show DataW.trod enc Tryd.prog W 0 _ true k 23 _ = some y9 from g9)
          simp at e0 e1 e2 e3 e4 e5 e6 e7 e8 e9
          subst e0 e1 e2 e3 e4 e5 e6 e7 e8 e9
          obtain ⟨L8, rfl⟩ := bs_data s8
          have hc : ∀ j (hj : j < 10), W.cell? (a.add (i * 10 + j)) = some ([.int .i64 n0, .int .i64 n1, .int .i64 n2, .int .i64 n3, .int .i64 n4, .int .i64 n5, .int .i64 n6, .int .i64 n7, .string (bs L8), .slice ka L.length kc][j]'(by simpa using hj)) := by
            intro j hj
            have := hcell j (by omega)
            rw [Deep.add_add] at this
            rw [this]; simp
          exact ⟨⟨n0, n1, n2, n3, n4, n5, n6, n7, L8, L⟩, ka, kc, hc 0 (by omega), hc 1 (by omega), hc 2 (by omega), hc 3 (by omega), hc 4 (by omega), hc 5 (by omega), hc 6 (by omega), hc 7 (by omega), hc 8 (by omega), hc 9 (by omega), hI⟩
    haveI : Inhabited Nd := ⟨⟨0, 0, 0, 0, 0, 0, 0, 0, [], []⟩⟩
    obtain ⟨q, hq⟩ := Deep.choose_lt each
    refine ⟨some a, cap, (List.range len).map q, by simp, ⟨by simpa using hl, hm, fun hne => ?_⟩⟩
    have hl0 : 0 < len := by
      rcases Nat.eq_zero_or_pos len with h | h
      · subst h; simp at hne
      · exact h
    obtain ⟨b, off, spot⟩ := a
    have hspot : spot = none := by
      obtain ⟨_, _, c0, _⟩ := hq 0 hl0
      simpa [Addr.add] using World.cell?_spot c0
    subst hspot
    obtain ⟨_, _, c00, _⟩ := hq 0 hl0
    refine ⟨b, off, rfl, block_lt_of_cell c00, fun i hi => ?_⟩
    have hi' : i < len := by simpa using hi
    obtain ⟨ka, kc, d0, d1, d2, d3, d4, d5, d6, d7, d8, d9, hI⟩ := hq i hi'
    simp only [add_plain, ← Nat.add_assoc] at d0 d1 d2 d3 d4 d5 d6 d7 d8 d9
    have e : ((List.range len).map q)[i] = q i := by simp
    rw [e]
    exact ⟨ka, kc, d0, d1, d2, d3, d4, d5, d6, d7, d8, d9, hI⟩
end Go.Proofs.YtjepkcebfojiaaaDoor
namespace Go.Proofs.YtjepkcebfojiaaaDoor
open Go.ChangeShapes Go.WideShapes Go.ChangeAt Go.RowKit

theorem weightsAll_mem2 {H : Type} {P : Program} {e : TypeId} {d : DataW H} {n : Nat} : ∀ {l : List (DataW H)}, d ∈ l → n ∈ d.weights P e → n ∈ DataW.weightsAll P e l
  | [], h, _ => by cases h
  | x :: l, h, hn => by
    simp only [DataW.weightsAll, List.mem_append]
    rcases List.mem_cons.1 h with rfl | h
    · exact .inl hn
    · exact .inr (weightsAll_mem2 h hn)

theorem ints_weight {H : Type} {enc : TypeId × Value → H} {W : World} {fuel : Nat} {ao : Option Addr} {len cap : Nat} {x : DataW H × List MemPlace} (h : DataW.trod enc Tryd.prog W 0 (fun _ => true) true fuel 23 [.slice ao len cap] = some x)
    (hw : ∀ n ∈ x.1.weights Tryd.prog 23, n ≤ reachBytes) : len ≤ 140737488351232 ∧ (ao = none → cap = 0) := by
  rcases Deep.open_slice Tryd.underlying23 h with ⟨h0, _⟩ | ⟨a, len', cap', m, n, D, Pl, e, _, _, _, _, rfl, _⟩
  · cases h0; exact ⟨by omega, fun _ => rfl⟩
  · simp at e
    obtain ⟨rfl, rfl, rfl⟩ := e
    refine ⟨?_, fun h => by cases h⟩
    have b5 : Tryd.prog.bytesOf 3 = 8 := by kernel_rfl
    have := hw (((List.range len).map D).length * 8 + (m - len) * 8) (by simp [DataW.weights, Tryd.underlying23, b5, Nat.add_mul])
    simp [reachBytes] at this
    omega

set_option maxRecDepth 20000 in
set_option maxHeartbeats 2000000 in
theorem nodes_rch {H : Type} {enc : TypeId × Value → H} {W : World} {fuel : Nat} {ao : Option Addr} {cap : Nat} {N : List Nd} {x : DataW H × List MemPlace} (h : DataW.trod enc Tryd.prog W 0 (fun _ => true) true fuel 22 [.slice ao N.length cap] = some x)
    (hw : ∀ n ∈ x.1.weights Tryd.prog 22, n ≤ reachBytes) (hN : Nodes W ao cap N) : N.length ≤ 140737488351232 ∧ Rch N ∧ ∀ (i : Nat) (hi : i < N.length) b o kc, ao = some ⟨b, o, none⟩ → W.cell? ⟨b, o + i * 10 + 9, none⟩ = some (.slice none N[i].kids.length kc) → kc = 0 := by
  rcases Deep.open_slice Tryd.underlying22 h with ⟨h0, _⟩ | ⟨a, len, cap', m, n, D, Pl, e, _, hl, hm, hmm, rfl, hx⟩
  · simp at h0
    have : N = [] := h0.2.1
    subst this
    exact ⟨by simp, ⟨fun i hi => by simp at hi⟩, fun i hi => by simp at hi⟩
  · simp at e
    obtain ⟨rfl, rfl, rfl⟩ := e
    have ce : Tryd.prog.cellsOf 39 = 10 := by kernel_rfl
    have be : Tryd.prog.bytesOf 39 = 104 := by kernel_rfl
    have c3 : Tryd.prog.cellsOf 3 = 1 := by kernel_rfl
    have c9 : Tryd.prog.cellsOf 9 = 1 := by kernel_rfl
    have c36 : Tryd.prog.cellsOf 23 = 1 := by kernel_rfl
    rw [ce] at hx
    have hml : N.length ≤ m := by rw [hmm]; simp; exact hl
    have hlen := hw (((List.range N.length).map D).length * 104 + (m - N.length) * 104) (by simp [DataW.weights, Tryd.underlying22, be, Nat.add_mul])
    simp [reachBytes] at hlen
    have each : ∀ i (hi : i < N.length), (N[i].kids.length ≤ 140737488351232 ∧ N[i].name.length ≤ 140737488351232) ∧ ∀ b o kc, a = ⟨b, o, none⟩ → W.cell? ⟨b, o + i * 10 + 9, none⟩ = some (.slice none N[i].kids.length kc) → kc = 0 := by
      intro i hi
      obtain ⟨b, o, e1, hbl, hAt⟩ := hN.out (by intro e; simp [e] at hi)
      cases e1
      obtain ⟨ka, kc, d0, d1, d2, d3, d4, d5, d6, d7, d8, d9, hI⟩ := (hAt i hi).out
      obtain ⟨cs', h1, h2⟩ := hx i (by omega)
      obtain ⟨_, hlen2, hcell⟩ := World.cells?_some h1
      have hwi : ∀ n ∈ (D i).weights Tryd.prog 39, n ≤ reachBytes := fun k hk => hw k (by
        simp only [DataW.weights, Tryd.underlying22, List.mem_cons, List.mem_append]
        exact .inr (.inl (weightsAll_mem2 (d := D i) (List.mem_map.2 ⟨i, by simpa using hi, rfl⟩) hk)))
      obtain ⟨xs, k, hk, hxy, _, hxl, hf⟩ := DataW.trod_struct Tryd.underlying39 h2
      match cs', hlen2 with
      | [v0, v1, v2, v3, v4, v5, v6, v7, v8, v9], _ =>
        have g8 := hf 8 _ rfl
        have g9 := hf 9 _ rfl
        simp [c3, c9, c36] at g8 g9
        match xs, hxl with
        | [y0, y1, y2, y3, y4, y5, y6, y7, y8, y9], _ =>
          have q8 := hcell 8 (by omega)
          have q9 := hcell 9 (by omega)
          rw [Deep.add_add, add_plain] at q8 q9
          simp only [← Nat.add_assoc] at q8 q9
          rw [d8] at q8
          rw [d9] at q9
          simp at q8 q9
          subst q8 q9
          obtain ⟨s8, e8, z8, _⟩ := DataW.trod_string Tryd.underlying9 (show DataW.trod enc Tryd.prog W 0 _ true k 9 _ = some y8 from g8)
          simp at e8
          have hw9 : ∀ n ∈ y9.1.weights Tryd.prog 23, n ≤ reachBytes := fun z hz => hwi z (by
            rw [show D i = _ from congrArg Prod.fst hxy]; simp [DataW.weights, Tryd.underlying39, DataW.weightsEach]; simp [hz])
          have hw8 : ∀ n ∈ y8.1.weights Tryd.prog 9, n ≤ reachBytes := fun z hz => hwi z (by
            rw [show D i = _ from congrArg Prod.fst hxy]; simp [DataW.weights, Tryd.underlying39, DataW.weightsEach]; simp [hz])
          have r9 := ints_weight (show DataW.trod enc Tryd.prog W 0 _ true k 23 _ = some y9 from g9) hw9
          have r8 := hw8 (N[i].name.length) (by rw [z8, ← e8]; simp [DataW.weights, bs])
          simp [reachBytes] at r8
          refine ⟨⟨r9.1, r8⟩, fun b' o' kc' e2 hc => ?_⟩
          cases e2
          rw [d9] at hc
          simp at hc
          obtain ⟨h3, h4⟩ := hc
          rw [← h4]
          exact r9.2 h3
    exact ⟨by omega, ⟨fun i hi => (each i hi).1⟩, fun i hi b o kc e hc => (each i hi).2 b o kc (Option.some.inj e) hc⟩
end Go.Proofs.YtjepkcebfojiaaaDoor
namespace Go.Proofs.YtjepkcebfojiaaaDoor
open Go.ChangeShapes Go.WideShapes Go.ChangeAt Go.RowKit

theorem var_below {w w' : World} {name : String} {g : Nat} {K : Nat} (hg : Tryd.prog.globalNamed name = some g) (hb : Below K w w') (hK : g < K) : w'.var? Tryd.prog name = w.var? Tryd.prog name := by
  unfold World.var?
  rw [hg]
  simp only [Option.bind_some, hb.block g hK]

theorem alltab_of_laid {W : World} (hL : laidMetH Tryd.prog [("math/bits.deBruijn32tab", Rows.laid_math_bits_deBruijn32tab), ("math/bits.deBruijn64tab", Rows.laid_math_bits_deBruijn64tab), ("internal/strconv.uint64pow10", Rows.laid_internal_strconv_uint64pow10), ("quern/lex.words", Rows.laid_quern_lex_words), ("quern/lex.signs", Rows.laid_quern_lex_signs), ("quern/tree.typeTexts", Rows.laid_quern_tree_typeTexts), ("quern/tree.opTexts", Rows.laid_quern_tree_opTexts)] W) : AllTab W := by
  have h : laidMet Tryd.prog [("math/bits.deBruijn32tab", Rows.laid_math_bits_deBruijn32tab), ("math/bits.deBruijn64tab", Rows.laid_math_bits_deBruijn64tab), ("internal/strconv.uint64pow10", Rows.laid_internal_strconv_uint64pow10), ("quern/lex.words", Rows.laid_quern_lex_words), ("quern/lex.signs", Rows.laid_quern_lex_signs), ("quern/tree.typeTexts", Rows.laid_quern_tree_typeTexts), ("quern/tree.opTexts", Rows.laid_quern_tree_opTexts)] W := hL
  obtain ⟨ps, ⟨_, _, _, _, _, _, _, _, _, _, ⟨_, _, _, _, _, _, _, _, _, _, ⟨g3, t3, cs3, f3, p3, q3, hg3, ht3, hv3, hd3, ⟨g1, t1, cs1, f1, p1, q1, hg1, ht1, hv1, hd1, ⟨g2, t2, cs2, f2, p2, q2, hg2, ht2, hv2, hd2, ⟨g4, t4, cs4, f4, p4, q4, hg4, ht4, hv4, hd4, ⟨g5, t5, cs5, f5, p5, q5, hg5, ht5, hv5, hd5, _, _⟩, _⟩, _⟩, _⟩, _⟩, _⟩, _⟩, _⟩ := h
  have e1 : Tryd.prog.globalNamed "quern/lex.words" = some 2 := by kernel_rfl
  have e2 : Tryd.prog.globalNamed "quern/lex.signs" = some 0 := by kernel_rfl
  have e4 : Tryd.prog.globalNamed "quern/tree.typeTexts" = some 1 := by kernel_rfl
  have e5 : Tryd.prog.globalNamed "quern/tree.opTexts" = some 3 := by kernel_rfl
  have e3 : Tryd.prog.globalNamed "internal/strconv.uint64pow10" = some 4 := by kernel_rfl
  obtain rfl := Option.some.inj (e1.symm.trans hg1)
  obtain rfl := Option.some.inj (e2.symm.trans hg2)
  obtain rfl := Option.some.inj (e4.symm.trans hg4)
  obtain rfl := Option.some.inj (e5.symm.trans hg5)
  obtain rfl := Option.some.inj (e3.symm.trans hg3)
  obtain rfl := Option.some.inj ((show (Tryd.prog.globals[2]?).map (·.type) = some 81 by kernel_rfl).symm.trans ht1)
  obtain rfl := Option.some.inj ((show (Tryd.prog.globals[0]?).map (·.type) = some 78 by kernel_rfl).symm.trans ht2)
  obtain rfl := Option.some.inj ((show (Tryd.prog.globals[1]?).map (·.type) = some 80 by kernel_rfl).symm.trans ht4)
  obtain rfl := Option.some.inj ((show (Tryd.prog.globals[3]?).map (·.type) = some 86 by kernel_rfl).symm.trans ht5)
  obtain rfl := Option.some.inj ((show (Tryd.prog.globals[4]?).map (·.type) = some 96 by kernel_rfl).symm.trans ht3)
  have k1 : ∀ i, i < 18 → W.cell? ⟨2, i, none⟩ = some (.string (bs (WORDS.getD i []))) := fun i hi => by
    rw [World.var?_cell hg1 hv1, ← Array.getElem?_toList]
    exact cells_of_strs (ss := WORDS) Tryd.underlying81 Tryd.underlying9 (by kernel_rfl) (by kernel_rfl) hd1 i hi
  have k2 : ∀ i, i < 29 → W.cell? ⟨0, i, none⟩ = some (.string (bs (SIGNS.getD i []))) := fun i hi => by
    rw [World.var?_cell hg2 hv2, ← Array.getElem?_toList]
    exact cells_of_strs (ss := SIGNS) Tryd.underlying78 Tryd.underlying9 (by kernel_rfl) (by kernel_rfl) hd2 i hi
  have k4 : ∀ i, i < 4 → W.cell? ⟨1, i, none⟩ = some (.string (bs (TYPES.getD i []))) := fun i hi => by
    rw [World.var?_cell hg4 hv4, ← Array.getElem?_toList]
    exact cells_of_strs (ss := TYPES) Tryd.underlying80 Tryd.underlying9 (by kernel_rfl) (by kernel_rfl) hd4 i hi
  have k5 : ∀ i, i < 23 → W.cell? ⟨3, i, none⟩ = some (.string (bs (OPS.getD i []))) := fun i hi => by
    rw [World.var?_cell hg5 hv5, ← Array.getElem?_toList]
    exact cells_of_strs (ss := OPS) Tryd.underlying86 Tryd.underlying9 (by kernel_rfl) (by kernel_rfl) hd5 i hi
  have b1 := block_lt_of_cell (k1 0 (by omega))
  have b2 := block_lt_of_cell (k2 0 (by omega))
  have b4 := block_lt_of_cell (k4 0 (by omega))
  have b5 := block_lt_of_cell (k5 0 (by omega))
  have b3 : 4 < W.heap.size := by
    unfold World.var? at hv3
    rw [e3] at hv3
    simp only [Option.bind_some] at hv3
    cases hx : W.heap[4]? with
    | none => rw [hx] at hv3; cases hv3
    | some c => exact (Array.getElem?_eq_some_iff.1 hx).1
  have hT : Lib.TabIs Tryd.prog W "internal/strconv.uint64pow10" .u64 Lib.pow10Tab := by
    unfold Lib.TabIs
    rw [hv3, ← Lib.cells_of_tab (zs := Lib.pow10Tab) Tryd.underlying96 Tryd.underlying90 (by kernel_rfl) (by kernel_rfl) (show _ = some (Lib.tabData .u64 Lib.pow10Tab, _) from hd3)]
  exact ⟨⟨by omega, k1, k2⟩, ⟨b4, b5⟩, k4, k5, fun w' hb => ⟨by unfold Lib.TabIs; rw [var_below e3 hb b3]; exact hT⟩⟩
end Go.Proofs.YtjepkcebfojiaaaDoor
namespace Go.Proofs.YtjepkcebfojiaaaDoor
open Go.ChangeShapes Go.WideShapes Go.ChangeAt Go.RowKit

set_option maxRecDepth 20000 in
/-- A value of api.Tree, opened. -/
theorem tree_view {H : Type} {enc : TypeId × Value → H} {W : World} {r : Reach} {b0 : Nat} {v : Value} {d : DataW H} {p : List MemPlace} (hv : Value.okWide Tryd.prog W r b0 25 v) (h : DataW.Trod enc Tryd.prog W 0 (fun _ => true) true 25 v d p)
    (hw : ∀ n ∈ d.weights Tryd.prog 25, n ≤ reachBytes) : ∃ (no : Option Addr) (nc : Nat) (fo : Option Addr) (fc : Nat) (T : Tr), v = .agg #[.slice no T.nodes.length nc, .slice fo T.funcs.length fc] ∧ Nodes W no nc T.nodes ∧ Ints W fo fc T.funcs ∧ KNil W no T.nodes ∧ (fo = none → fc = 0) ∧ Rch T.nodes ∧ T.nodes.length ≤ 140737488351232 ∧ T.funcs.length ≤ 140737488351232 := by
  obtain ⟨v0, v1, y0, y1, n, rfl, rfl, rfl, h0, h1⟩ := Joins.open_agg2 Tryd.underlying25 (by kernel_rfl) (by kernel_rfl) hv h
  obtain ⟨no, nc, N, e0, hN⟩ := nodes_view h0
  obtain ⟨fo, fc, F, e1, hfz, hF⟩ := ints_view h1
  simp only [List.cons.injEq, and_true] at e0 e1
  subst e0 e1
  obtain ⟨l1, hR, hK⟩ := nodes_rch h0 (fun n hn => hw n (by simp only [DataW.weights, Tryd.underlying25, DataW.weightsEach, List.map, List.mem_append]; exact .inl hn)) hN
  obtain ⟨l2, _⟩ := ints_weight h1 (fun n hn => hw n (by simp only [DataW.weights, Tryd.underlying25, DataW.weightsEach, List.map, List.mem_append]; exact .inr (.inl hn)))
  exact ⟨no, nc, fo, fc, ⟨N, F⟩, rfl, hN, hF, ⟨hK⟩, hfz, hR, l1, l2⟩
end Go.Proofs.YtjepkcebfojiaaaDoor
namespace Go.Proofs.YtjepkcebfojiaaaDoor
open Go.ChangeShapes Go.WideShapes Go.ChangeAt Go.RowKit

set_option maxRecDepth 20000 in
set_option maxHeartbeats 2000000 in
theorem nodes_val {H : Type} {enc : TypeId × Value → H} {W : World} {fuel : Nat} {ao : Option Addr} {cap : Nat} {N : List Nd} {x : DataW H × List MemPlace} (h : DataW.trod enc Tryd.prog W 0 (fun _ => true) true fuel 22 [.slice ao N.length cap] = some x)
    (hN : Nodes W ao cap N) : ∀ n ∈ N, n.val ≤ 9223372036854775807 := by
  rcases Deep.open_slice Tryd.underlying22 h with ⟨h0, _⟩ | ⟨a, len, cap', m, n, D, Pl, e, _, hl, hm, hmm, rfl, hx⟩
  · simp at h0
    have : N = [] := h0.2.1
    subst this
    simp
  · simp at e
    obtain ⟨rfl, rfl, rfl⟩ := e
    have ce : Tryd.prog.cellsOf 39 = 10 := by kernel_rfl
    have c3 : Tryd.prog.cellsOf 3 = 1 := by kernel_rfl
    have c9 : Tryd.prog.cellsOf 9 = 1 := by kernel_rfl
    have c36 : Tryd.prog.cellsOf 23 = 1 := by kernel_rfl
    rw [ce] at hx
    have hml : N.length ≤ m := by rw [hmm]; simp; exact hl
    intro nd hnd
    obtain ⟨i, hi, rfl⟩ := List.mem_iff_getElem.1 hnd
    obtain ⟨b, o, e1, hbl, hAt⟩ := hN.out (by intro e; simp [e] at hi)
    cases e1
    obtain ⟨ka, kc, d0, d1, d2, d3, d4, d5, d6, d7, d8, d9, hI⟩ := (hAt i hi).out
    obtain ⟨cs', h1, h2⟩ := hx i (by omega)
    obtain ⟨_, hlen2, hcell⟩ := World.cells?_some h1
    obtain ⟨xs, k, hk, hxy, _, hxl, hf⟩ := DataW.trod_struct Tryd.underlying39 h2
    match cs', hlen2 with
    | [v0, v1, v2, v3, v4, v5, v6, v7, v8, v9], _ =>
      have g7 := hf 7 _ rfl
      simp [c3, c9, c36] at g7
      match xs, hxl with
      | [y0, y1, y2, y3, y4, y5, y6, y7, y8, y9], _ =>
        have q7 := hcell 7 (by omega)
        rw [Deep.add_add, add_plain] at q7
        simp only [← Nat.add_assoc] at q7
        rw [d7] at q7
        simp at q7
        subst q7
        obtain ⟨n7, e7, _, w7⟩ := DataW.trod_int Tryd.underlying3 (show DataW.trod enc Tryd.prog W 0 _ true k 3 _ = some y7 from g7)
        simp at e7
        rw [e7]
        exact (bounds_i64 w7).2

set_option maxRecDepth 20000 in
theorem tree_viewV {H : Type} {enc : TypeId × Value → H} {W : World} {r : Reach} {b0 : Nat} {v : Value} {d : DataW H} {p : List MemPlace} (hv : Value.okWide Tryd.prog W r b0 25 v) (h : DataW.Trod enc Tryd.prog W 0 (fun _ => true) true 25 v d p)
    (hw : ∀ n ∈ d.weights Tryd.prog 25, n ≤ reachBytes) : ∃ (no : Option Addr) (nc : Nat) (fo : Option Addr) (fc : Nat) (T : Tr), v = .agg #[.slice no T.nodes.length nc, .slice fo T.funcs.length fc] ∧ Nodes W no nc T.nodes ∧ Ints W fo fc T.funcs ∧ KNil W no T.nodes ∧ (fo = none → fc = 0) ∧ Rch T.nodes ∧ T.nodes.length ≤ 140737488351232 ∧ T.funcs.length ≤ 140737488351232 ∧ ∀ n ∈ T.nodes, n.val ≤ 9223372036854775807 := by
  obtain ⟨v0, v1, y0, y1, n, rfl, rfl, rfl, h0, h1⟩ := Joins.open_agg2 Tryd.underlying25 (by kernel_rfl) (by kernel_rfl) hv h
  obtain ⟨no, nc, N, e0, hN⟩ := nodes_view h0
  obtain ⟨fo, fc, F, e1, hfz, hF⟩ := ints_view h1
  simp only [List.cons.injEq, and_true] at e0 e1
  subst e0 e1
  obtain ⟨l1, hR, hK⟩ := nodes_rch h0 (fun n hn => hw n (by simp only [DataW.weights, Tryd.underlying25, DataW.weightsEach, List.map, List.mem_append]; exact .inl hn)) hN
  obtain ⟨l2, _⟩ := ints_weight h1 (fun n hn => hw n (by simp only [DataW.weights, Tryd.underlying25, DataW.weightsEach, List.map, List.mem_append]; exact .inr (.inl hn)))
  exact ⟨no, nc, fo, fc, ⟨N, F⟩, rfl, hN, hF, ⟨hK⟩, hfz, hR, l1, l2, nodes_val h0 hN⟩

end Go.Proofs.YtjepkcebfojiaaaDoor
