import Derived.Deep.RegionHeld
import Derived.Deep.RegionHeld3
import Derived.Test.YtdbkjjelaipcfaaGreatDoorMax
import Derived.Test.YtdbkjjelaipcfaaGreatDoorMay
set_option linter.unusedVariables false
set_option linter.unusedSimpArgs false
namespace Go.Proofs.YtdbkjjelaipcfaaGreatDoor
open Go.ChangeShapes Go.WideShapes Go.ChangeAt Go.RowKit Go.Maps
def rnI (n b : Nat) (x : Int) : Int := if x < 0 \/ n = 0 then x else (n : Int) - 1 - (((x.toNat + b) % n : Nat) : Int)
theorem rnI_at {n b k : Nat} (hk : k < n) : rnI n b (k : Int) = (n : Int) - 1 - (((k + b) % n : Nat) : Int) := by
 unfold rnI
 rw [if_neg (by omega), Int.toNat_natCast]
theorem rnI_tn (n b : Nat) : Tn n (rnI n b) := by
 refine ⟨fun x hx => by unfold rnI; rw [if_pos (.inl hx)], fun x hx => ?_, fun x y hx hy e => ?_, fun y hy => ?_⟩
 ·simp only [wi, decide_eq_true_eq] at hx ⊢
  obtain ⟨k, rfl⟩ : ∃ k : Nat, x = k := ⟨x.toNat, by omega⟩
  rw [rnI_at (by omega)]
  have := Nat.mod_lt (k + b) (show 0 < n by omega)
  omega
 ·simp only [wi, decide_eq_true_eq] at hx hy
  obtain ⟨k, rfl⟩ : ∃ k : Nat, x = k := ⟨x.toNat, by omega⟩
  obtain ⟨j, rfl⟩ : ∃ k : Nat, y = k := ⟨y.toNat, by omega⟩
  rw [rnI_at (by omega), rnI_at (by omega)] at e
  have h1 := Nat.mod_lt (k + b) (show 0 < n by omega)
  have h2 := Nat.mod_lt (j + b) (show 0 < n by omega)
  have h3 : (k + b) % n = (j + b) % n := by omega
  have key : ∀ p q : Nat, p < n -> q < n -> p <= q -> (p + b) % n = (q + b) % n -> p = q := fun p q hp hq hle he => by
   have := Nat.sub_mod_eq_zero_of_mod_eq he.symm
   rw [show q + b - (p + b) = q - p by omega, Nat.mod_eq_of_lt (by omega)] at this
   omega
  rcases Nat.le_total k j with h | h
  ·rw [key k j (by omega) (by omega) h h3]
  ·rw [key j k (by omega) (by omega) h h3.symm]
 ·simp only [wi, decide_eq_true_eq] at hy
  obtain ⟨j, rfl⟩ : ∃ k : Nat, y = k := ⟨y.toNat, by omega⟩
  have hn : 0 < n := by omega
  have hm := Nat.mod_lt b hn
  refine ⟨(((n - 1 - j + (n - b % n)) % n : Nat) : Int), ?_, ?_⟩
  ·have := Nat.mod_lt (n - 1 - j + (n - b % n)) hn
   simp only [wi, decide_eq_true_eq]; omega
  ·rw [rnI_at (Nat.mod_lt _ hn), Nat.mod_add_mod]
   have hb := Nat.mod_add_div b n
   have e : n - 1 - j + (n - b % n) + b = n - 1 - j + n * (1 + b / n) := by rw [Nat.mul_add, Nat.mul_one]; omega
   rw [e, Nat.add_mul_mod_self_left, Nat.mod_eq_of_lt (by omega)]
   omega
theorem ret_itR {a b : Int} (h : a = b) : Ending.returned (.int .i64 a) = Ending.returned (.int .i64 b) := by rw [h]
set_option maxRecDepth 10000 in
set_option maxHeartbeats 1000000 in
theorem turned_any (w : World) (x : Int) (n b : Nat) (hx : x < n) (hn : n <= 10000000) (hb : b <= 1000) : Calls Tryz.prog 24 #[.int .i64 x, .int .i64 n, .int .i64 b] w fun e w' => e = .returned (.int .i64 (rnI n b x)) /\ w' = w := by
 by_cases h0 : x < 0
 ·have HE : Hid (x = rnI n b x) := ((rnI_tn n b).ng x h0).symm
  have h0' : decide (x < 0) = true := decide_eq_true h0
  go_enter Tryz.func24, Tryz.ntmps24
  go_wp2_with fail
  go_ret
  exact ⟨ret_itR HE.out, rfl⟩
 ·obtain ⟨k, rfl⟩ : ∃ k : Nat, x = k := ⟨x.toNat, by omega⟩
  have hk : k < n := by omega
  have hn0 : ¬ (n : Int) = 0 := by omega
  have e5 : ((k : Int) + (b : Int)) % (n : Int) = (((k + b) % n : Nat) : Int) := by simp
  have hml := Nat.mod_lt (k + b) (show 0 < n by omega)
  obtain ⟨q, hq5⟩ : ∃ q : Nat, q = (k + b) % n := ⟨_, rfl⟩
  rw [<- hq5] at e5 hml
  have HE : Hid ((n : Int) - 1 - (q : Int) = rnI n b (k : Int)) := by show _ = _; rw [rnI_at hk, hq5]
  clear hq5
  have hq : ((n : Int) == 0) = false := by simp; omega
  clear h0 hx
  go_enter Tryz.func24, Tryz.ntmps24
  go_wp2_with fail
  go_ret
  refine ⟨ret_itR ?_, rfl⟩
  rw [<- HE.out]
structure IN (w : World) (B : Nat) (ao : Option Addr) (c : Nat) (L : List Int) : Prop where
 out : Ints w ao c L
 ty : L ≠ [] -> ∃ b cs, ao = some ⟨b, 0, none⟩ /\ B <= b /\ w.heap[b]? = some (.cells cs 3 (0, 0))
theorem IN.move {w w' : World} {B ao c L} (h : IN w B ao c L) (hk : ∀ b cs, B <= b -> w.heap[b]? = some (.cells cs 3 (0, 0)) -> w'.heap[b]? = w.heap[b]?) : IN w' B ao c L := by
 refine ⟨⟨h.out.le, h.out.mx, fun hne => ?_⟩, fun hne => ?_⟩
 ·obtain ⟨b, cs, rfl, h1, h2⟩ := h.ty hne
  have e := hk b cs h1 h2
  obtain ⟨b', o, e', hA⟩ := h.out.out hne
  cases e'
  refine ⟨b, 0, rfl, (Array.getElem?_eq_some_iff.1 (e.trans h2)).1, fun i hi => ?_⟩
  rw [<- hA.cell i hi]
  exact World.cell?_of_block (w := w) e
 ·obtain ⟨b, cs, e0, h1, h2⟩ := h.ty hne
  exact ⟨b, cs, e0, h1, (hk b cs h1 h2).trans h2⟩
theorem IN.lower {w B B' ao c L} (h : IN w B ao c L) (hB : B' <= B) : IN w B' ao c L :=
 ⟨h.out, fun hne => by obtain ⟨b, cs, e, h1, h2⟩ := h.ty hne; exact ⟨b, cs, e, by omega, h2⟩⟩
theorem IN.below {w w' : World} {B ao c L} (h : IN w B ao c L) (hb : Below w.heap.size w w') : IN w' B ao c L := h.move fun b cs _ e => hb.block b (gl e)
theorem IN.of_own {w : World} {B : Nat} {v : Value} {n : Nat} {L : List Int} (h : OwnI w B v n L) : ∃ ao c, v = .slice ao n c /\ n <= c /\ c <= 9223372036854775807 /\ IN w B ao c L := by
 obtain ⟨a', c', e, hI⟩ := h.ints
 subst e
 have hl := h.len
 refine ⟨a', c', by rw [hl], by have := hI.le; omega, hI.mx, hI, fun hne => ?_⟩
 have h0 : 0 < L.length := List.length_pos_iff.2 hne
 rcases h.out.2 with ⟨q, _⟩ | ⟨g2, cap, cur, q, p1, p3, _⟩
 ·cases q; omega
 ·cases q
  exact ⟨g2, cur, rfl, p1, p3⟩
set_option maxRecDepth 100000 in
set_option maxHeartbeats 2000000 in
theorem others_any (w : World) {la : Option Addr} {m lc : Nat} {L : List Int} (hL : Ints w la lc L) (hm : m = L.length) (hsz : m <= 10000000) (n b : Nat) (hr : ∀ x ∈ L, wi n x = true) (hn : n <= 10000000) (hb : b <= 1000) :
 Calls Tryz.prog 23 #[.slice la m lc, .int .i64 n, .int .i64 b] w fun e w' => ∃ xa xc, e = .returned (.slice xa m xc) /\ m <= xc /\ xc <= 9223372036854775807 /\ IN w' w.heap.size xa xc (L.map (rnI n b)) /\ Below w.heap.size w w' := by
 have HL : Hid (Ints w la lc L) := hL
 have HN : Hid (m = L.length) := hm
 have HR : Hid (∀ x ∈ L, wi n x = true) := hr
 have hlx : m <= lc /\ lc <= 9223372036854775807 := by have := hL.le; have := hL.mx; omega
 clear hL hm hr
 go_enter Tryz.func23, Tryz.ntmps23
 go_wp2_with fail
 go_loopw [7, 8] (fun ov v wr => ∃ k : Nat, k <= m /\ v = .int .i64 k /\ Hid (OwnI wr w.heap.size ov k ((L.map (rnI n b)).take k)) /\ Hid (Below w.heap.size w wr)) (fun _ v _ => m - (intOf v).toNat)
 case atStart => exact ⟨0, by omega, rfl, OwnI.nil _ _, Below.refl _ _⟩
 case round =>
  obtain ⟨k, hk, rfl, HO, HB⟩ := hrel
  obtain ⟨wq, rfl⟩ : ∃ wq, wq = wr := ⟨_, rfl⟩
  by_cases hlt : k < m
  ·have hkf : k < L.length := by have := HN.out; omega
   obtain ⟨b1, o1, rfl, kx0⟩ := HL.out.at hkf
   have hx := HR.out _ (List.getElem_mem hkf)
   have HTK : Hid ((L.map (rnI n b)).take (k + 1) = (L.map (rnI n b)).take k ++ [rnI n b L[k]]) := by
    show _ = _
    rw [List.take_succ_eq_append_getElem (by simpa using hkf)]
    simp
   generalize L[k] = x at kx0 hx HTK
   simp only [wi, decide_eq_true_eq] at hx
   have hbw : b1 < w.heap.size := block_lt_of_cell kx0
   have kx := (HB.out.cell (p := ⟨b1, o1 + k, none⟩) hbw).trans kx0
   have HT : Hid (Calls Tryz.prog 24 #[.int .i64 x, .int .i64 n, .int .i64 b] wq fun e w' => e = .returned (.int .i64 (rnI n b x)) /\ w' = wq) := turned_any wq x n b (by omega) hn hb
   generalize rnI n b x = y at HT HTK
   obtain ⟨ao, c, eo, _, _⟩ := own_slice HO.out.out
   subst eo
   have hsB : w.heap.size <= wq.heap.size := HB.out.size
   have hlp : k + 1 <= 17592186044416 := by omega
   have hb1l : b1 < wq.heap.size := by omega
   clear hx kx0
   go_wp2_with fail
   refine Calls.mono HT.out ?_
   rintro e w9 ⟨rfl, h9⟩
   rw [h9]
   clear h9 w9
   go_wp2_with (first
    | (at_builtin; refine wpList_append_intG (w0 := wq) rfl _ _ rfl w.heap.size (.slice ao k c) k ((L.map (rnI n b)).take k) y rfl HO.out rfl hlp hsB ?_; intro v6 w6 h6 g6
       have HO6 : Hid (OwnI w6 w.heap.size v6 (k + 1) ((L.map (rnI n b)).take (k + 1))) := by rw [HTK.out]; exact h6
       have HB6 : Hid (Below w.heap.size w w6) := HB.out.trans g6.bel
       clear h6 g6)
    | go_in)
   go_roundw
   case rel => exact ⟨k + 1, by omega, by go_num, HO6.out, HB6.out⟩
   case measure => simp [intOf]; omega
  ·have hkm : k = m := by omega
   have hO := HO.out
   rw [hkm, List.take_of_length_le (by have := HN.out; simp; omega)] at hO
   obtain ⟨ao, c, eo, hc1, hc2, hI⟩ := IN.of_own hO
   subst eo
   have HI : Hid _ := hI
   clear hO hI HO hkm
   go_wp2_with fail
   go_ret
   exact ⟨_, _, rfl, hc1, hc2, HI.out, HB.out⟩
def ivI (n b j : Nat) : Nat := (n - 1 - j + (n - b % n)) % n
theorem iv_lt {n b j : Nat} (hj : j < n) : ivI n b j < n := Nat.mod_lt _ (by omega)
theorem iv_rn {n b j : Nat} (hj : j < n) : rnI n b (ivI n b j : Int) = (j : Int) := by
 have hn : 0 < n := by omega
 have hm := Nat.mod_lt b hn
 rw [rnI_at (iv_lt hj)]
 unfold ivI
 rw [Nat.mod_add_mod]
 have hb := Nat.mod_add_div b n
 have e : n - 1 - j + (n - b % n) + b = n - 1 - j + n * (1 + b / n) := by rw [Nat.mul_add, Nat.mul_one]; omega
 rw [e, Nat.add_mul_mod_self_left, Nat.mod_eq_of_lt (by omega)]
 omega
def rnL (n b : Nat) (N : List Vl) : List Vl := (List.range n).map fun j => rnV (rnI n b) (N.getD (ivI n b j) noV)
def rnF (b : Nat) (f : Fu) : Fu := ⟨f.name, f.params.map (rnI f.vals.length b), f.result, rnL f.vals.length b f.vals, f.blks.map (rnB (rnI f.vals.length b))⟩
structure RR (f : Fu) : Prop where
 rp : ∀ x ∈ f.params, wi f.vals.length x = true
 ra : ∀ v ∈ f.vals, ∀ x ∈ v.args, wi f.vals.length x = true
 rb : ∀ b ∈ f.blks, (∀ x ∈ b.phis, wi f.vals.length x = true) /\ (∀ x ∈ b.body, wi f.vals.length x = true) /\ b.val < f.vals.length
theorem rnF_rn {f : Fu} (b : Nat) (h : RR f) : Rn (rnI f.vals.length b) f (rnF b f) := by
 refine ⟨rnI_tn _ _, rfl, rfl, rfl, by simp [rnF, rnL], fun x hx => ?_, rfl, h.rp, h.ra, h.rb⟩
 have t := rnI_tn f.vals.length b
 have h1 := t.rg x hx
 have hx0 := hx
 simp only [wi, decide_eq_true_eq] at hx h1
 obtain ⟨k, rfl⟩ : ∃ k : Nat, x = k := ⟨x.toNat, by omega⟩
 obtain ⟨j, hj⟩ : ∃ j : Nat, rnI f.vals.length b (k : Int) = j := ⟨(rnI f.vals.length b (k : Int)).toNat, by omega⟩
 rw [hj] at h1 ⊢
 have hjn : j < f.vals.length := by omega
 have e1 : ivI f.vals.length b j = k := by
  have h2 := iv_rn (b := b) hjn
  have h3 := iv_lt (b := b) hjn
  have := t.inj (ivI f.vals.length b j : Int) k (by simp only [wi, decide_eq_true_eq]; omega) hx0 (by rw [h2, hj])
  omega
 have hl : j < (rnF b f).vals.length := by simp [rnF, rnL]; exact hjn
 rw [gv_at (rnF b f) j hl, gv_at f k (by omega)]
 simp only [rnF, rnL, List.getElem_map, List.getElem_range, e1]
 simp [show k < f.vals.length by omega]
theorem rnP_of {FS : List Fu} (b : Nat) (h : ∀ f ∈ FS, RR f) : RnP FS (FS.map (rnF b)) :=
 ⟨by simp, fun i h1 h2 => ⟨_, by rw [List.getElem_map]; exact rnF_rn b (h _ (List.getElem_mem h1))⟩⟩
structure VN (w : World) (B : Nat) (cs : List Value) (v : Vl) : Prop where
 out : ∃ a k, cs = [.int .i64 v.op, .int .i64 v.ty, .int .i64 v.imm, .slice a v.args.length k] /\ IN w B a k v.args
theorem VN.move {w w' : World} {B cs v} (h : VN w B cs v) (hk : ∀ b cs, B <= b -> w.heap[b]? = some (.cells cs 3 (0, 0)) -> w'.heap[b]? = w.heap[b]?) : VN w' B cs v := by
 obtain ⟨a, k, e, h1⟩ := h.out
 exact ⟨a, k, e, h1.move hk⟩
theorem VN.lower {w B B' cs v} (h : VN w B cs v) (hB : B' <= B) : VN w B' cs v := by
 obtain ⟨a, k, e, h1⟩ := h.out
 exact ⟨a, k, e, h1.lower hB⟩
structure BN (w : World) (B : Nat) (cs : List Value) (v : Bk) : Prop where
 out : ∃ a1 k1 a2 k2 a3 k3 a4 k4, cs = [.slice a1 v.phis.length k1, .slice a2 v.body.length k2, .int .i64 v.kind, .int .i64 v.val, .slice a3 v.ways.length k3, .slice a4 v.preds.length k4] /\ IN w B a1 k1 v.phis /\ IN w B a2 k2 v.body /\ IN w B a3 k3 v.ways /\ IN w B a4 k4 v.preds
theorem BN.move {w w' : World} {B cs v} (h : BN w B cs v) (hk : ∀ b cs, B <= b -> w.heap[b]? = some (.cells cs 3 (0, 0)) -> w'.heap[b]? = w.heap[b]?) : BN w' B cs v := by
 obtain ⟨a1, k1, a2, k2, a3, k3, a4, k4, e, h1, h2, h3, h4⟩ := h.out
 exact ⟨a1, k1, a2, k2, a3, k3, a4, k4, e, h1.move hk, h2.move hk, h3.move hk, h4.move hk⟩
theorem BN.lower {w B B' cs v} (h : BN w B cs v) (hB : B' <= B) : BN w B' cs v := by
 obtain ⟨a1, k1, a2, k2, a3, k3, a4, k4, e, h1, h2, h3, h4⟩ := h.out
 exact ⟨a1, k1, a2, k2, a3, k3, a4, k4, e, h1.lower hB, h2.lower hB, h3.lower hB, h4.lower hB⟩
structure VR (w : World) (B vb : Nat) (xs : List (List Value)) (f : Fu) (b k : Nat) : Prop where
 row : w.heap[vb]? = some (.cells xs.flatten.toArray 42 (0, 0))
 lo : B <= vb
 len : xs.length = f.vals.length
 z : ∀ x ∈ xs, x.length = 4
 el : ∀ i (h : i < f.vals.length), i < k -> VN w B (xs.getD (rnI f.vals.length b (i : Int)).toNat []) (rnV (rnI f.vals.length b) f.vals[i])
theorem VR.move {w w' : World} {B vb xs f b k} (h : VR w B vb xs f b k) (hk : ∀ b cs, B <= b -> w.heap[b]? = some (.cells cs 3 (0, 0)) -> w'.heap[b]? = w.heap[b]?) (hv : w'.heap[vb]? = w.heap[vb]?) : VR w' B vb xs f b k :=
 ⟨hv.trans h.row, h.lo, h.len, h.z, fun i h1 h2 => (h.el i h1 h2).move hk⟩
theorem VR.lower {w B B' vb xs f b k} (h : VR w B vb xs f b k) (hB : B' <= B) : VR w B' vb xs f b k := ⟨h.row, by have := h.lo; omega, h.len, h.z, fun i h1 h2 => (h.el i h1 h2).lower hB⟩
theorem VR.lt {w B vb xs f b k} (h : VR w B vb xs f b k) : vb < w.heap.size := (gl h.row)
theorem VR.cell {w B vb xs f b k} (h : VR w B vb xs f b k) {j r : Nat} (hj : j < f.vals.length) (hr : r < 4) {u : Value} (hu : (xs.getD j [])[r]? = some u) : w.cell? ⟨vb, j * 4 + r, none⟩ = some u := by
 have hj' : j < xs.length := by rw [h.len]; exact hj
 have e : xs.getD j [] = xs[j] := by simp [hj']
 rw [e] at hu
 refine cell_arr h.row ?_
 rw [List.getElem?_toArray, flat_at xs h.z j hj' r hr]
 exact hu
theorem VR.vls {w B vb xs f b} (h : VR w B vb xs f b f.vals.length) (hn : f.vals.length <= 9223372036854775807) : Vls w (some ⟨vb, 0, none⟩) f.vals.length (rnF b f).vals := by
 have hl : (rnF b f).vals.length = f.vals.length := by simp [rnF, rnL]
 refine ⟨by omega, hn, fun _ => ⟨vb, 0, rfl, h.lt, fun j hj => ?_⟩⟩
 have hjn : j < f.vals.length := by omega
 have hi := iv_lt (b := b) hjn
 have e := h.el _ hi hi
 rw [iv_rn hjn, Int.toNat_natCast] at e
 have eg : (rnF b f).vals[j] = rnV (rnI f.vals.length b) f.vals[ivI f.vals.length b j] := by
  simp only [rnF, rnL, List.getElem_map, List.getElem_range]
  simp [hi]
 rw [eg]
 obtain ⟨a, k, e1, hI⟩ := e.out
 refine ⟨a, k, ?_, ?_, ?_, ?_, hI.out⟩
 ·have := h.cell hjn (r := 0) (by omega) (u := _) (by rw [e1]; rfl)
  simpa using this
 ·have := h.cell hjn (r := 1) (by omega) (u := _) (by rw [e1]; rfl)
  simpa using this
 ·have := h.cell hjn (r := 2) (by omega) (u := _) (by rw [e1]; rfl)
  simpa using this
 ·have := h.cell hjn (r := 3) (by omega) (u := _) (by rw [e1]; rfl)
  simpa using this
theorem flat_set {α : Type} {z : Nat} : ∀ (xs : List (List α)), (∀ x ∈ xs, x.length = z) -> ∀ j (hj : j < xs.length) (cs : List α), cs.length = z -> (xs.set j cs).flatten = xs.flatten.take (j * z) ++ cs ++ xs.flatten.drop (j * z + z)
 | [], _, j, hj, _, _ => by simp at hj
 | x :: xs, h, j, hj, cs, hc => by
   have h2 := h x (by simp)
   cases j with
   | zero => simp [h2]
   | succ j =>
     have ih := flat_set xs (fun y hy => h y (by simp [hy])) j (by simpa using hj) cs hc
     rw [List.set_cons_succ, List.flatten_cons, ih, List.flatten_cons, List.take_append, List.drop_append, h2]
     have e1 : (j + 1) * z - z = j * z := by rw [Nat.add_mul]; omega
     have e2 : (j + 1) * z + z - z = j * z + z := by rw [Nat.add_mul]; omega
     have e3 : x.take ((j + 1) * z) = x := List.take_of_length_le (by rw [h2, Nat.add_mul]; omega)
     have e4 : x.drop ((j + 1) * z + z) = [] := List.drop_eq_nil_of_le (by rw [h2, Nat.add_mul]; omega)
     rw [e1, e2, e3, e4]
     simp
theorem set_four' {α : Type} (A D : List α) (x0 x1 x2 x3 a b c d : α) : ((((A ++ x0 :: x1 :: x2 :: x3 :: D).set A.length a).set (A.length + 1) b).set (A.length + 2) c).set (A.length + 3) d = A ++ [a, b, c, d] ++ D := by
 simp [List.set_append]
theorem set_four {α : Type} (L : List α) (p : Nat) (h : p + 4 <= L.length) (a b c d : α) : (((L.set p a).set (p + 1) b).set (p + 2) c).set (p + 3) d = L.take p ++ [a, b, c, d] ++ L.drop (p + 4) := by
 have hd : (L.drop p).length = L.length - p := List.length_drop ..
 obtain ⟨x0, x1, x2, x3, D, e⟩ : ∃ x0 x1 x2 x3 D, L.drop p = x0 :: x1 :: x2 :: x3 :: D := by
  generalize L.drop p = E at hd
  match E, hd with
  | x0 :: x1 :: x2 :: x3 :: D, _ => exact ⟨x0, x1, x2, x3, D, rfl⟩
  | [], hd => simp at hd; omega
  | [_], hd => simp at hd; omega
  | [_, _], hd => simp at hd; omega
  | [_, _, _], hd => simp at hd; omega
 have e4 : L.drop (p + 4) = D := by rw [<- List.drop_drop, e]; rfl
 have hL : L = L.take p ++ x0 :: x1 :: x2 :: x3 :: D := by rw [<- e, List.take_append_drop]
 have hl : (L.take p).length = p := by rw [List.length_take]; omega
 rw [e4]
 generalize L.take p = A at hL hl ⊢
 subst hl
 rw [hL]
 exact set_four' A D x0 x1 x2 x3 a b c d
theorem VR.put {w : World} {B vb xs f b k} (h : VR w B vb xs f b k) (hk : k < f.vals.length) {j : Nat} (hj : rnI f.vals.length b (k : Int) = j) {u0 u1 u2 u3 : Value} (hE : VN w B [u0, u1, u2, u3] (rnV (rnI f.vals.length b) f.vals[k])) :
 VR ((((w.setCell ⟨vb, j * 4, none⟩ u0).setCell ⟨vb, j * 4 + 1, none⟩ u1).setCell ⟨vb, j * 4 + 2, none⟩ u2).setCell ⟨vb, j * 4 + 3, none⟩ u3) B vb (xs.set j [u0, u1, u2, u3]) f b (k + 1) := by
 have t := rnI_tn f.vals.length b
 have hkw : wi f.vals.length (k : Int) = true := by simp only [wi, decide_eq_true_eq]; omega
 have hjw := t.rg _ hkw
 rw [hj] at hjw
 simp only [wi, decide_eq_true_eq] at hjw
 have hjx : j < xs.length := by rw [h.len]; omega
 have hfl := flat_len xs h.z
 have hb4 : j * 4 + 4 <= xs.flatten.length := by rw [hfl]; omega
 have hint : ∀ b' cs, B <= b' -> w.heap[b']? = some (.cells cs 3 (0, 0)) -> ((((w.setCell ⟨vb, j * 4, none⟩ u0).setCell ⟨vb, j * 4 + 1, none⟩ u1).setCell ⟨vb, j * 4 + 2, none⟩ u2).setCell ⟨vb, j * 4 + 3, none⟩ u3).heap[b']? = w.heap[b']? := fun b' cs _ e => by
  have hne : b' ≠ vb := blk_type e h.row (by decide)
  rw [heap_set_other hne, heap_set_other hne, heap_set_other hne, heap_set_other hne]
 refine ⟨?_, h.lo, by simpa using h.len, fun x hx => ?_, fun i h1 h2 => ?_⟩
 ·have e0 := heap_set_at (i := j * 4) (v := u0) h.row
  have e1 := heap_set_at (i := j * 4 + 1) (v := u1) e0
  have e2 := heap_set_at (i := j * 4 + 2) (v := u2) e1
  have e3 := heap_set_at (i := j * 4 + 3) (v := u3) e2
  rw [e3, flat_set xs h.z j hjx _ rfl, <- set_four _ _ hb4]
  simp only [List.setIfInBounds_toArray]
 ·rcases List.mem_or_eq_of_mem_set hx with q | q
  ·exact h.z x q
  ·rw [q]; rfl
 ·by_cases e : i = k
  ·subst e
   rw [hj, Int.toNat_natCast]
   have : (xs.set j [u0, u1, u2, u3]).getD j [] = [u0, u1, u2, u3] := by simp [hjx]
   rw [this]
   exact hE.move hint
  ·have hiw : wi f.vals.length (i : Int) = true := by simp only [wi, decide_eq_true_eq]; omega
   have hne : (rnI f.vals.length b (i : Int)).toNat ≠ j := fun q => by
    have h3 := t.rg _ hiw
    simp only [wi, decide_eq_true_eq] at h3
    have := t.inj _ _ hiw hkw (by rw [hj]; omega)
    omega
   have : (xs.set j [u0, u1, u2, u3]).getD (rnI f.vals.length b (i : Int)).toNat [] = xs.getD (rnI f.vals.length b (i : Int)).toNat [] := by
    simp only [List.getD_eq_getElem?_getD, List.getElem?_set, if_neg (fun q => hne (Eq.symm q))]
   rw [this]
   exact (h.el i h1 (by omega)).move hint
structure NV (wr wq : World) (A : Array Value) (gb vb : Nat) (s : ByteArray) (pa : Option Addr) (pn pc : Nat) (r : Int) (n : Nat) (xs : List (List Value)) (f : Fu) (b k : Nat) : Prop where
 box : wq.heap[gb]? = some (.cells #[.string s, .slice pa pn pc, .int .i64 r, .slice (some ⟨vb, 0, none⟩) n n, .slice none 0 0] 38 (0, 0))
 src : wq.heap[wr.heap.size]? = some (.cells A 38 (0, 0))
 lo : wr.heap.size < gb
 vr : VR wq wr.heap.size vb xs f b k
 par : IN wq wr.heap.size pa pc (f.params.map (rnI f.vals.length b))
 bel : Below wr.heap.size wr wq
theorem NV.keep {wr wq w' : World} {A gb vb s pa pn pc r n xs f b k} (h : NV wr wq A gb vb s pa pn pc r n xs f b k) (hb : Below wq.heap.size wq w') : NV wr w' A gb vb s pa pn pc r n xs f b k :=
 ⟨(hb.block _ (gl h.box)).trans h.box, (hb.block _ (gl h.src)).trans h.src, h.lo, h.vr.move (fun b cs _ e => hb.block b (gl e)) (hb.block _ h.vr.lt), h.par.below hb, h.bel.trans (hb.mono h.bel.size)⟩
theorem NV.put {wr wq : World} {A gb vb s pa pn pc r n xs f b k} (h : NV wr wq A gb vb s pa pn pc r n xs f b k) (hk : k < f.vals.length) {j : Nat} (hj : rnI f.vals.length b (k : Int) = j) {u0 u1 u2 u3 : Value} (hE : VN wq wr.heap.size [u0, u1, u2, u3] (rnV (rnI f.vals.length b) f.vals[k])) :
 NV wr ((((wq.setCell ⟨vb, j * 4, none⟩ u0).setCell ⟨vb, j * 4 + 1, none⟩ u1).setCell ⟨vb, j * 4 + 2, none⟩ u2).setCell ⟨vb, j * 4 + 3, none⟩ u3) A gb vb s pa pn pc r n (xs.set j [u0, u1, u2, u3]) f b (k + 1) := by
 have ho : ∀ {x : Nat} {cs : Array Value} {t : TypeId}, wq.heap[x]? = some (.cells cs t (0, 0)) -> t ≠ 42 -> ((((wq.setCell ⟨vb, j * 4, none⟩ u0).setCell ⟨vb, j * 4 + 1, none⟩ u1).setCell ⟨vb, j * 4 + 2, none⟩ u2).setCell ⟨vb, j * 4 + 3, none⟩ u3).heap[x]? = wq.heap[x]? := fun {x cs t} e ht => by
  have hne : x ≠ vb := blk_type e h.vr.row ht
  rw [heap_set_other hne, heap_set_other hne, heap_set_other hne, heap_set_other hne]
 have hlo := h.vr.lo
 exact ⟨(ho h.box (by decide)).trans h.box, (ho h.src (by decide)).trans h.src, h.lo, h.vr.put hk hj hE, h.par.move fun b cs _ e => ho e (by decide), (((h.bel.setCell hlo _).setCell hlo _).setCell hlo _).setCell hlo _⟩
structure NB (wr wq : World) (A : Array Value) (gb vb : Nat) (s : ByteArray) (pa : Option Addr) (pn pc : Nat) (r : Int) (n : Nat) (xs : List (List Value)) (bv : Value) (ys : List (List Value)) (f : Fu) (b k : Nat) : Prop where
 box : wq.heap[gb]? = some (.cells #[.string s, .slice pa pn pc, .int .i64 r, .slice (some ⟨vb, 0, none⟩) n n, bv] 38 (0, 0))
 src : wq.heap[wr.heap.size]? = some (.cells A 38 (0, 0))
 lo : wr.heap.size < gb
 vr : VR wq wr.heap.size vb xs f b f.vals.length
 row : Row wq wr.heap.size 46 6 bv ys
 len : ys.length = k
 el : ∀ i (h : i < ys.length) (h' : i < f.blks.length), BN wq wr.heap.size ys[i] (rnB (rnI f.vals.length b) f.blks[i])
 par : IN wq wr.heap.size pa pc (f.params.map (rnI f.vals.length b))
 bel : Below wr.heap.size wr wq
theorem NV.done {wr wq : World} {A gb vb s pa pn pc r n xs f b} (h : NV wr wq A gb vb s pa pn pc r n xs f b f.vals.length) : NB wr wq A gb vb s pa pn pc r n xs (.slice none 0 0) [] f b 0 :=
 ⟨h.box, h.src, h.lo, h.vr, Row.nil _ _ _ _, rfl, fun i hi => by simp at hi, h.par, h.bel⟩
theorem NB.keep {wr wq w' : World} {A gb vb s pa pn pc r n xs bv ys f b k} (h : NB wr wq A gb vb s pa pn pc r n xs bv ys f b k) (hb : Below wq.heap.size wq w') : NB wr w' A gb vb s pa pn pc r n xs bv ys f b k := by
 have hi : ∀ b cs, wr.heap.size <= b -> wq.heap[b]? = some (.cells cs 3 (0, 0)) -> w'.heap[b]? = wq.heap[b]? := fun b cs _ e => hb.block b (gl e)
 exact ⟨(hb.block _ (gl h.box)).trans h.box, (hb.block _ (gl h.src)).trans h.src, h.lo, h.vr.move hi (hb.block _ h.vr.lt), h.row.keep hb, h.len, fun i h1 h2 => (h.el i h1 h2).move hi, h.par.below hb, h.bel.trans (hb.mono h.bel.size)⟩
theorem NB.more {wr wq w2 : World} {A gb vb s pa pn pc r n xs bv ys f b k} {vv2 : Value} {cs : List Value} (h : NB wr wq A gb vb s pa pn pc r n xs bv ys f b k) (hk : k < f.blks.length) (hR : Row w2 wr.heap.size 46 6 vv2 (ys ++ [cs])) (g2 : GI wr.heap.size wq w2 bv vv2) (hE : BN wq wr.heap.size cs (rnB (rnI f.vals.length b) f.blks[k])) :
 NB wr (w2.setCell ⟨gb, 4, none⟩ vv2) A gb vb s pa pn pc r n xs vv2 (ys ++ [cs]) f b (k + 1) := by
 have hb2 : w2.heap[gb]? = wq.heap[gb]? := g2.blk gb (gl h.box) (own_not h.row.out h.box (by decide))
 have hi : ∀ b cs, wr.heap.size <= b -> wq.heap[b]? = some (.cells cs 3 (0, 0)) -> (w2.setCell ⟨gb, 4, none⟩ vv2).heap[b]? = wq.heap[b]? := fun b cs _ e => put_other h.row g2 h.box e (by decide) (.inl (by decide))
 refine ⟨?_, (put_other h.row g2 h.box h.src (by decide) (.inr (by have := h.lo; omega))).trans h.src, h.lo, h.vr.move hi (put_other h.row g2 h.box h.vr.row (by decide) (.inl (by decide))), row_set_other hR (hb2.trans h.box) (by decide), by simp [h.len], fun i h1 h2 => ?_, h.par.move hi, (h.bel.trans g2.bel).setCell (by show wr.heap.size <= gb; have := h.lo; omega) _⟩
 ·have := heap_set_at (i := 4) (v := vv2) (hb2.trans h.box)
  rw [this]; rfl
 ·by_cases q : i < ys.length
  ·rw [List.getElem_append_left q]
   exact (h.el i q h2).move hi
  ·have e : i = k := by simp at h1; have := h.len; omega
   subst e
   rw [List.getElem_append_right (by omega)]
   have e2 : [cs][i - ys.length]'(by simp at h1 ⊢; omega) = cs := by simp
   rw [e2]
   exact hE.move hi
structure BR (w : World) (B : Nat) (bv : Value) (ys : List (List Value)) (f : Fu) (b : Nat) : Prop where
 row : Row w B 46 6 bv ys
 len : ys.length = f.blks.length
 el : ∀ i (h : i < ys.length) (h' : i < f.blks.length), BN w B ys[i] (rnB (rnI f.vals.length b) f.blks[i])
theorem BR.bks {w B bv ys f b} (h : BR w B bv ys f b) : ∃ ao c, bv = .slice ao f.blks.length c /\ f.blks.length <= c /\ Bks w ao c (rnF b f).blks := by
 have hl : (rnF b f).blks.length = f.blks.length := by simp [rnF]
 rcases Nat.eq_zero_or_pos ys.length with h0 | h0
 ·obtain ⟨ao, c, e, h1, h2⟩ := own_slice h.row.out
  have hb0 : f.blks.length = 0 := by have := h.len; omega
  refine ⟨ao, c, by rw [e, h.len], by omega, by omega, h2, fun hne => absurd (List.length_eq_zero_iff.1 (by omega)) hne⟩
 ·obtain ⟨g, c, cs, e, h1, h2, h3, h4⟩ := h.row.some h0
  subst e
  refine ⟨_, c, by rw [h.len], by have := h.len; omega, by have := h.len; omega, h2, fun _ => ⟨g, 0, rfl, (gl h4), fun i hi => ?_⟩⟩
  have hif : i < f.blks.length := by omega
  have hiy : i < ys.length := by have := h.len; omega
  obtain ⟨a1, k1, a2, k2, a3, k3, a4, k4, e1, q1, q2, q3, q4⟩ := (h.el i hiy hif).out
  have eg : (rnF b f).blks[i] = rnB (rnI f.vals.length b) f.blks[i] := by simp [rnF]
  rw [eg]
  have hc : ∀ r u, r < 6 -> (ys[i])[r]? = some u -> w.cell? ⟨g, i * 6 + r, none⟩ = some u := fun r u hr hu => h.row.cell rfl hiy hr hu
  rw [e1] at hc
  have c0 := hc 0 _ (by omega) rfl
  have c1 := hc 1 _ (by omega) rfl
  have c2 := hc 2 _ (by omega) rfl
  have c3 := hc 3 _ (by omega) rfl
  have c4 := hc 4 _ (by omega) rfl
  have c5 := hc 5 _ (by omega) rfl
  exact ⟨a1, k1, a2, k2, a3, k3, a4, k4, by simpa using c0, by simpa using c1, by simpa using c2, by simpa using c3, by simpa using c4, by simpa using c5, q1.out, q2.out, q3.out, q4.out⟩
structure FN (w : World) (B : Nat) (cs : List Value) (f : Fu) (b : Nat) : Prop where
 out : ∃ a k vb xs bv ys, cs = [.string f.name, .slice a f.params.length k, .int .i64 f.result, .slice (some ⟨vb, 0, none⟩) f.vals.length f.vals.length, bv] /\ IN w B a k (f.params.map (rnI f.vals.length b)) /\ VR w B vb xs f b f.vals.length /\ BR w B bv ys f b
theorem FN.move {w w' : World} {B cs f b} (h : FN w B cs f b) (hk : ∀ b cs t, B <= b -> w.heap[b]? = some (.cells cs t (0, 0)) -> t = 3 \/ t = 42 \/ t = 46 -> w'.heap[b]? = w.heap[b]?) : FN w' B cs f b := by
 obtain ⟨a, k, vb, xs, bv, ys, e, h1, h2, h3⟩ := h.out
 have hi : ∀ b cs, B <= b -> w.heap[b]? = some (.cells cs 3 (0, 0)) -> w'.heap[b]? = w.heap[b]? := fun b cs hb he => hk b cs _ hb he (.inl rfl)
 refine ⟨a, k, vb, xs, bv, ys, e, h1.move hi, h2.move hi (hk vb _ _ h2.lo h2.row (.inr (.inl rfl))), ⟨h3.row.move fun g hg => ?_, h3.len, fun i q1 q2 => (h3.el i q1 q2).move hi⟩⟩
 rcases h3.row.out.2 with ⟨q, _⟩ | ⟨g2, cap, cur, q, p1, p3, _⟩
 ·rw [q] at hg; cases hg
 ·rw [q] at hg
  simp only [Value.ownBlock, Option.some.injEq] at hg
  subst hg
  exact hk _ _ _ p1 p3 (.inr (.inr rfl))
theorem FN.lower {w B B' cs f b} (h : FN w B cs f b) (hB : B' <= B) : FN w B' cs f b := by
 obtain ⟨a, k, vb, xs, bv, ys, e, h1, h2, h3⟩ := h.out
 refine ⟨a, k, vb, xs, bv, ys, e, h1.lower hB, h2.lower hB, ⟨⟨?_, h3.row.len⟩, h3.len, fun i q1 q2 => (h3.el i q1 q2).lower hB⟩⟩
 have := h3.row.out
 refine ⟨this.1, ?_⟩
 rcases this.2 with q | ⟨g2, cap, cur, q, p1, p⟩
 ·exact .inl q
 ·exact .inr ⟨g2, cap, cur, q, by omega, p⟩
theorem NB.fn {wr wq : World} {A gb vb pa pc xs bv ys f b} (h : NB wr wq A gb vb f.name pa f.params.length pc f.result f.vals.length xs bv ys f b f.blks.length) : FN wq wr.heap.size [.string f.name, .slice pa f.params.length pc, .int .i64 f.result, .slice (some ⟨vb, 0, none⟩) f.vals.length f.vals.length, bv] f b :=
 ⟨pa, pc, vb, xs, bv, ys, rfl, h.par, h.vr, ⟨h.row, h.len, h.el⟩⟩
structure NO (w wr : World) (fa : Option Addr) (fn fc : Nat) (mn : Int) (lv : Value) (xs : List (List Value)) (FS : List Fu) (b k : Nat) : Prop where
 src : wr.heap[w.heap.size]? = some (.cells #[.slice fa fn fc, .int .i64 mn] 24 (0, 0))
 res : wr.heap[w.heap.size + 1]? = some (.cells #[.slice none 0 0, .int .i64 0] 24 (0, 0))
 box : wr.heap[w.heap.size + 2]? = some (.cells #[lv, .int .i64 mn] 24 (0, 0))
 row : Row wr w.heap.size 38 5 lv xs
 len : xs.length = k
 el : ∀ i (h : i < xs.length) (h' : i < FS.length), FN wr w.heap.size xs[i] FS[i] b
 bel : Below w.heap.size w wr
theorem NO.keep {w wr w' : World} {fa fn fc mn lv xs FS b k} (h : NO w wr fa fn fc mn lv xs FS b k) (hb : Below wr.heap.size wr w') : NO w w' fa fn fc mn lv xs FS b k :=
 ⟨(hb.block _ (gl h.src)).trans h.src, (hb.block _ (gl h.res)).trans h.res, (hb.block _ (gl h.box)).trans h.box, h.row.keep hb, h.len, fun i hi hi' => (h.el i hi hi').move fun b cs t _ e _ => hb.block b (gl e), h.bel.trans (hb.mono h.bel.size)⟩
theorem NO.more {w wq w2 : World} {fa fn fc mn lv xs FS b k lv2 cs} (h : NO w wq fa fn fc mn lv xs FS b k) (hk : k < FS.length) (hR : Row w2 w.heap.size 38 5 lv2 (xs ++ [cs])) (g2 : GI w.heap.size wq w2 lv lv2) (hE : FN wq w.heap.size cs FS[k] b) :
 NO w (w2.setCell ⟨w.heap.size + 2, 0, none⟩ lv2) fa fn fc mn lv2 (xs ++ [cs]) FS b (k + 1) := by
 have ht : ∀ b cs t, wq.heap[b]? = some (.cells cs t (0, 0)) -> t ≠ 38 -> b ≠ w.heap.size + 2 -> (w2.setCell ⟨w.heap.size + 2, 0, none⟩ lv2).heap[b]? = wq.heap[b]? := fun b cs t e h1 h2 => by
  rw [heap_set_other h2, g2.blk b (gl e) (own_not h.row.out e (fun q => h1 q.symm))]
 have hF : ∀ {cs f}, FN wq w.heap.size cs f b -> FN (w2.setCell ⟨w.heap.size + 2, 0, none⟩ lv2) w.heap.size cs f b := fun {cs f} hf => hf.move fun b' cs' t _ e hq => ht b' cs' t e (by rcases hq with rfl | rfl | rfl <;> decide) (blk_type e h.box (by rcases hq with rfl | rfl | rfl <;> decide))
 have hbx : w2.heap[w.heap.size + 2]? = wq.heap[w.heap.size + 2]? := g2.blk _ (gl h.box) (own_not h.row.out h.box (by decide))
 refine ⟨(ht _ _ _ h.src (by decide) (by omega)).trans h.src, (ht _ _ _ h.res (by decide) (by omega)).trans h.res, ?_, hR.move fun g hg => heap_set_other fun q => own_not hR.out (hbx.trans h.box) (by decide) (q ▸ hg), by simp [h.len], fun i h1 h2 => ?_, (h.bel.trans g2.bel).setCell (by show w.heap.size <= w.heap.size + 2; omega) _⟩
 ·have := heap_set_at (i := 0) (v := lv2) (hbx.trans h.box)
  rw [this]; rfl
 ·by_cases q : i < xs.length
  ·rw [List.getElem_append_left q]
   exact hF (h.el i q h2)
  ·have e : i = k := by simp at h1; have := h.len; omega
   subst e
   rw [List.getElem_append_right (by omega)]
   have e2 : [cs][i - xs.length]'(by simp at h1 ⊢; omega) = cs := by simp
   rw [e2]
   exact hF hE
theorem fus_of {wr : World} {B : Nat} {lv : Value} {xs : List (List Value)} {FS : List Fu} {b : Nat} (hrow : Row wr B 38 5 lv xs) (hlen : xs.length = FS.length) (hel : ∀ i (h : i < xs.length) (h' : i < FS.length), FN wr B xs[i] FS[i] b) (hn : ∀ f ∈ FS, f.vals.length <= 10000000) : ∃ ao c, lv = .slice ao FS.length c /\ Fus wr ao c (FS.map (rnF b)) := by
 rcases Nat.eq_zero_or_pos xs.length with h0 | h0
 ·obtain ⟨ao, c, e, h1, h2⟩ := own_slice hrow.out
  have hb0 : FS.length = 0 := by have := hlen; omega
  refine ⟨ao, c, by rw [e, hlen], by simp; omega, h2, fun hne => absurd (List.length_eq_zero_iff.1 (by simp; exact List.length_eq_zero_iff.1 hb0)) hne⟩
 ·obtain ⟨g, c, cs, e, h1, h2, h3, h4⟩ := hrow.some h0
  subst e
  refine ⟨_, c, by rw [hlen], by have := hlen; simp; omega, h2, fun _ => ⟨g, 0, rfl, (gl h4), fun i hi => ?_⟩⟩
  have hif : i < FS.length := by simpa using hi
  have hix : i < xs.length := by have := hlen; omega
  obtain ⟨a, k, vb, vs, bv, ys, e1, q1, q2, q3⟩ := (hel i hix hif).out
  rw [List.getElem_map]
  have hc : ∀ r u, r < 5 -> (xs[i])[r]? = some u -> wr.cell? ⟨g, i * 5 + r, none⟩ = some u := fun r u hr hu => hrow.cell rfl hix hr hu
  rw [e1] at hc
  have c0 := hc 0 _ (by omega) rfl
  have c1 := hc 1 _ (by omega) rfl
  have c2 := hc 2 _ (by omega) rfl
  have c3 := hc 3 _ (by omega) rfl
  have c4 := hc 4 _ (by omega) rfl
  obtain ⟨ao, bc, e5, hb1, hB⟩ := q3.bks
  rw [e5] at c4
  have hvn := hn _ (List.getElem_mem hif)
  refine ⟨a, k, some ⟨vb, 0, none⟩, FS[i].vals.length, ao, bc, by simpa [rnF] using c0, by simpa [rnF] using c1, by simpa [rnF] using c2, ?_, ?_, q1.out, q2.vls (by omega), hB⟩
  ·have : (rnF b FS[i]).vals.length = FS[i].vals.length := by simp [rnF, rnL]
   rw [this]; simpa using c3
  ·have : (rnF b FS[i]).blks.length = FS[i].blks.length := by simp [rnF]
   rw [this]; simpa using c4
structure TyOK (s : Shp) : Prop where
 out : ∀ i : Nat, (i : Int) < s.count -> isTy (shA s i) = true
theorem TyOK.zero (a b c d : Int) : TyOK ⟨0, a, b, c, d⟩ := ⟨fun i h => by simp at h; omega⟩
theorem TyOK.one {a : Int} (b c d : Int) (h : isTy a = true) : TyOK ⟨1, a, b, c, d⟩ := ⟨fun i hi => by
 simp only at hi
 obtain rfl : i = 0 := by omega
 exact h⟩
theorem TyOK.two {a b : Int} (c d : Int) (h : isTy a = true) (h' : isTy b = true) : TyOK ⟨2, a, b, c, d⟩ := ⟨fun i hi => by
 simp only at hi
 rcases (show i = 0 \/ i = 1 by omega) with rfl | rfl
 ·exact h
 ·exact h'⟩
theorem TyOK.three {a b c : Int} (d : Int) (h : isTy a = true) (h' : isTy b = true) (h2 : isTy c = true) : TyOK ⟨3, a, b, c, d⟩ := ⟨fun i hi => by
 simp only at hi
 rcases (show i = 0 \/ i = 1 \/ i = 2 by omega) with rfl | rfl | rfl
 ·exact h
 ·exact h'
 ·exact h2⟩
structure RX (w : World) (fa : Option Addr) (fn fc : Nat) (s : ByteArray) (pa : Option Addr) (pn pc : Nat) (r : Int) (va : Option Addr) (vn vc : Nat) (ba : Option Addr) (bn bc : Nat) (FS : List Fu) (f : Fu) : Prop where
 hF : Fus w fa fc FS
 ef : fn = FS.length
 ep : pn = f.params.length
 hP : Ints w pa pc f.params
 er : r = f.result
 ev : vn = f.vals.length
 hV : Vls w va vc f.vals
 eb : bn = f.blks.length
 hB : Bks w ba bc f.blks
theorem RX.below {w w' : World} {fa : Option Addr} {fn fc : Nat} {s : ByteArray} {pa : Option Addr} {pn pc : Nat} {r : Int} {va : Option Addr} {vn vc : Nat} {ba : Option Addr} {bn bc : Nat} {FS : List Fu} {f : Fu} (h : RX w fa fn fc s pa pn pc r va vn vc ba bn bc FS f) (hb : Below w.heap.size w w') : RX w' fa fn fc s pa pn pc r va vn vc ba bn bc FS f :=
 ⟨h.hF.below hb (Nat.le_refl _), h.ef, h.ep, h.hP.below hb (Nat.le_refl _), h.er, h.ev, h.hV.below hb (Nat.le_refl _), h.eb, h.hB.below hb (Nat.le_refl _)⟩
theorem Vls.at4 {w ao cap} {L : List Vl} (h : Vls w ao cap L) {j : Nat} (hj : j < L.length) : ∃ (b o : Nat) (ka : Option Addr) (kc : Nat), ao = some ⟨b, o, none⟩ /\ b < w.heap.size /\ w.cell? ⟨b, o + j * 4, none⟩ = some (.int .i64 L[j].op) /\ w.cell? ⟨b, o + j * 4 + 1, none⟩ = some (.int .i64 L[j].ty) /\ w.cell? ⟨b, o + j * 4 + 2, none⟩ = some (.int .i64 L[j].imm) /\ w.cell? ⟨b, o + j * 4 + 3, none⟩ = some (.slice ka L[j].args.length kc) /\ Ints w ka kc L[j].args := by
 obtain ⟨b, o, e, hlt, hA⟩ := h.out (by intro e; rw [e] at hj; simp at hj)
 obtain ⟨ka, kc, c0, c1, c2, c3, hI⟩ := (hA j hj).out
 exact ⟨b, o, ka, kc, e, hlt, c0, c1, c2, c3, hI⟩
theorem cell_lt {w : World} {b o : Nat} {v : Value} (h : w.cell? ⟨b, o, none⟩ = some v) : b < w.heap.size := by
 by_cases hb : b < w.heap.size
 ·exact hb
 ·simp [World.cell?, Array.getElem?_eq_none (by omega : w.heap.size <= b)] at h
structure WK (w : World) (ao : Option Addr) (l c n : Nat) (A : Bool) : Prop where
 out : ∀ w', Below w.heap.size w w' -> Calls Tryz.prog 83 #[.slice ao l c, .int .i64 n] w' fun e w'' => e = .returned (.bool A) /\ w'' = w'
theorem WK.of {w : World} {ao : Option Addr} {l c n : Nat} {L : List Int} {A : Bool} (hL : Ints w ao c L) (hl : l = L.length) (hA : L.all (wi n) = A) : WK w ao l c n A := ⟨fun w' hb => by
 have := rWithin_any w' ao l c n L hl (hL.below hb (Nat.le_refl _))
 rw [hA] at this; exact this⟩
theorem led_firstF {P : Program} {ops : Array Oper} {Q : Exit -> Act -> World -> Prop} {S : World -> Prop} {z i : Nat} {oi : Oper} {v : Value} (hi : ops[i]? = some oi) (hsel : ∀ (j : Nat) (o : Oper) cs b, ops[j]? = some o -> o.op ≠ .select cs b) (hQ : ∀ c a w, Q (.panic c) (a.put oi.dst v) w -> Q (.panic c) a w) (hz : ops.size <= z) :
 ∀ (k : Nat) (l : Array Bool) (a : Act) (w : World), (∀ j oj, ops[j]? = some oj -> j ≠ i -> l.getD j true = false -> (∀ e ∈ oj.after, Region.binds .any e = true -> e.on ≠ i) -> oi.apart ops oj = true) -> i ∈ Region.ready .any ops l -> YieldsIf P ops S oi v a -> S w -> led P ops Q S z k (l.setIfInBounds i true) (a.put oi.dst v) w -> led P ops Q S z (k + 1) l a w := by
 intro k
 induction k with
 | zero =>
   intro l a w _ hr hy hS H
   refine ⟨fun h => absurd hr (by rw [h]; simp), fun j hj => ?_⟩
   by_cases e : j = i
   ·subst e
    exact hy.wpOp hi hS ⟨fun _ => hS, H⟩
   ·have h1 := ready_mono hj e
    rw [H.1] at h1
    simp at h1
 | succ k ih =>
   intro l a w hfree hr hy hS H
   refine ⟨fun h => absurd hr (by rw [h]; simp), fun j hj => ?_⟩
   by_cases e : j = i
   ·subst e
    exact hy.wpOp hi hS ⟨fun _ => hS, H⟩
   ·obtain ⟨hun, oj, hoj, hall⟩ := mem_ready.1 hj
    have hjz : j ≠ z := fun e2 => by have := (gl hoj); omega
    have hno : ∀ e ∈ oj.after, Region.binds .any e = true -> e.on ≠ i := fun x hx hb heq => by
     have h1 := hall x hx hb
     have h0 := (mem_ready.1 hr).1
     rw [heq] at h1
     rcases Nat.lt_or_ge i l.size with h' | h'
     ·simp [h'] at h0 h1; rw [h0] at h1; cases h1
     ·simp [Array.getElem?_eq_none h'] at h1
    have h2 := wpOp_putIf hoj (hfree j oj hoj e hun hno) (fun cs b => hsel i oi cs b hi) (fun cs b => hsel j oj cs b hoj) hQ hy (H.2 j (ready_mono hj e))
    refine wpOp_mono (fun a' w' h3 => ⟨fun _ => h3.2.1 hjz, ih (l.setIfInBounds j true) a' w' ?_ (ready_mono hr (Ne.symm e)) h3.1 (h3.2.1 hjz) ?_⟩) h2
    ·intro m om hm hmi hmun hmno
     refine hfree m om hm hmi ?_ hmno
     by_cases ejm : j = m
     ·subst ejm; exact hun
     ·rw [getD_set_ne true ejm] at hmun; exact hmun
    ·rw [Array.setIfInBounds_comm _ _ e]
     exact h3.2.2
theorem led_takeF {P : Program} {ops : Array Oper} {Q : Exit -> Act -> World -> Prop} {S : World -> Prop} {z i : Nat} {oi : Oper} {v : Value} {k : Nat} {l : Array Bool} {a : Act} {w : World} (hi : ops[i]? = some oi) (hs : Region.noSelect ops = true) (hf : Region.free .any ops l i = true) (hr : (Region.ready .any ops l).contains i = true) (hz : decide (ops.size <= z) = true)
 (hQ : ∀ c a w, Q (.panic c) (a.put oi.dst v) w -> Q (.panic c) a w) (hy : YieldsIf P ops S oi v a) (hS : S w) (h : led P ops Q S z k (l.setIfInBounds i true) (a.put oi.dst v) w) : led P ops Q S z (k + 1) l a w :=
 led_firstF hi (Region.noSelect_spec hs) hQ (of_decide_eq_true hz) k l a w (Region.free_spec hi hf) (by simpa using hr) hy hS h
theorem led_tF {P : Program} {ops : Array Oper} {Q : Exit -> Act -> World -> Prop} {S : World -> Prop} {z i : Nat} {oi : Oper} {v : Value} {k : Nat} {l : Array Bool} {a : Act} {w : World} (hi : ops[i]? = some oi) (hb : (Region.noSelect ops && (Region.free .any ops l i && ((Region.ready .any ops l).contains i && decide (ops.size <= z)))) = true) (hy : YieldsIf P ops S oi v a) (hS : S w) (h : led P ops Q S z k (l.setIfInBounds i true) (a.put oi.dst v) w) (hQ : ∀ c a w, Q (.panic c) (a.put oi.dst v) w -> Q (.panic c) a w := by exact fun _ _ _ h => h) : led P ops Q S z (k + 1) l a w := by
 obtain ⟨h1, hb⟩ := Bool.and_eq_true_iff.1 hb
 obtain ⟨h2, hb⟩ := Bool.and_eq_true_iff.1 hb
 obtain ⟨h3, h4⟩ := Bool.and_eq_true_iff.1 hb
 exact led_takeF hi h1 h2 h3 h4 hQ hy hS h
theorem led_nF {P : Program} {ops : Array Oper} {Q : Exit -> Act -> World -> Prop} {S : World -> Prop} {z : Nat} {oi : Oper} {v : Value} {k : Nat} {l : Array Bool} {a a' : Act} {w : World} (i : Nat) (hS : S w) (h : led P ops Q S z k (l.setIfInBounds i true) a' w) (hi : ops[i]? = some oi := by exact rfl) (hb : (Region.noSelect ops && (Region.free .any ops l i && ((Region.ready .any ops l).contains i && decide (ops.size <= z)))) = true := by kernel_rfl) (hy : YieldsIf P ops S oi v a := by exact .inl ⟨by rfl, by intro w' h; (repeat obtain ⟨_, h⟩ : _ /\ _ := h); go_simp; all_goals with_reducible rfl⟩) (ha : a.put oi.dst v = a' := by (try simp only [Act.put, zi, zz, zs]); exact rfl) (hQ : ∀ c a w, Q (.panic c) (a.put oi.dst v) w -> Q (.panic c) a w := by exact fun _ _ _ h => h) : led P ops Q S z (k + 1) l a w := by
 subst ha
 exact led_tF hi hb hy hS h hQ
end Go.Proofs.YtdbkjjelaipcfaaGreatDoor
