import Derived.Test.YtjiaedckecfjbaaDoorVfR
set_option linter.unusedVariables false
set_option linter.unusedSimpArgs false
namespace Go.Proofs.YtjiaedckecfjbaaDoor
open Go.ChangeShapes Go.WideShapes Go.ChangeAt Go.RowKit Go.Maps Go.WideMaps

theorem rcnt_rng (op : Int) : rcnt op = -1 ∨ (0 ≤ rcnt op ∧ rcnt op ≤ 3) := by
  unfold rcnt
  split
  · right; decide
  · split
    · right; decide
    · split
      · right; decide
      · split
        · right; decide
        · left; rfl
theorem rdOp_rng {B last next op} (h : rdOp B last next = .ok op) : 0 ≤ rcnt op ∧ rcnt op ≤ 3 := by
  unfold rdOp at h
  split at h
  · cases h
  · split at h
    · next q =>
      cases h
      rcases rcnt_rng (fldV B next 1) with r | r
      · unfold opIs at q
        rw [r] at q
        simp at q
      · exact r
    · cases h
/-- What instruction answers. -/
structure InsP (w0 w w' : World) (rb : Nat) (ao : Option Addr) (n cap : Nat) (B : List Int) (f : Rf) (k : Int) (last : Bool) (next : Nat) (e : Ending) : Prop where
  ok : ∀ x q, rdIn B f k last next = .ok (x, q) → e = .returned (.agg #[.int .i64 x.op, .int .i64 x.a, .int .i64 x.b, .int .i64 x.c, .int .i64 x.n]) ∧ Rd w0 w' rb ao n cap B q
  on : Only (fun q => q = rb) w w'
  bad : ∀ p, rdIn B f k last next = .error p → e = thrC (p : Int)
  low : Below w0.heap.size w0 w'
theorem InsP.thr {w0 w w' rb ao n cap B f k last next p} (h : rdIn B f k last next = .error p) (b : Below w0.heap.size w0 w') (o : Only (fun q => q = rb) w w') : InsP w0 w w' rb ao n cap B f k last next (thrC (p : Int)) :=
  ⟨fun _ _ hv => (by rw [h] at hv; cases hv), o, fun q hq => (by rw [h] at hq; cases hq; rfl), b⟩
/-- The cells of an instruction while it is read. -/
def insA (op : Int) (R : List Int) (v : Int) : Array Value := #[.int .i64 op, .int .i64 (R.getD 0 0), .int .i64 (R.getD 1 0), .int .i64 (R.getD 2 0), .int .i64 v]
/-- An instruction that is not yet. -/
def zIn : Array Value := #[.int .i64 0, .int .i64 0, .int .i64 0, .int .i64 0, .int .i64 0]
def ptA (xb : Nat) : Array Value := #[.pointer (some ⟨xb, 1, none⟩), .pointer (some ⟨xb, 2, none⟩), .pointer (some ⟨xb, 3, none⟩)]
def fnA (f : Rf) : Array Value := #[.string f.name, .int .i64 f.fr, .int .i64 f.fi, .int .i64 f.ct, .int .i64 f.pa]
/-- The reader and the call's two boxes: the function, the result. -/
structure InB (w0 w W : World) (rb : Nat) (ao : Option Addr) (n cap : Nat) (B : List Int) (f : Rf) (fb sb : Nat) (next : Nat) : Prop where
  rd : Rd w0 W rb ao n cap B next
  only : Only (fun q => q = rb) w W
  fbox : W.heap[fb]? = some (.cells (fnA f) 40 (0, 0))
  sbox : W.heap[sb]? = some (.cells zIn 55 (0, 0))
  pl : rb < w.heap.size ∧ w.heap.size ≤ fb ∧ w.heap.size ≤ sb ∧ fb ≠ sb
theorem InB.moved {w0 w W W' rb ao n cap B f fb sb next next'} (h : InB w0 w W rb ao n cap B f fb sb next) (r : Rd w0 W' rb ao n cap B next') (o : Only (fun q => q = rb) W W') : InB w0 w W' rb ao n cap B f fb sb next' :=
  ⟨r, h.only.on o, (o.block _ (Array.getElem?_eq_some_iff.1 h.fbox).1 (by have := h.pl; omega)).trans h.fbox, (o.block _ (Array.getElem?_eq_some_iff.1 h.sbox).1 (by have := h.pl; omega)).trans h.sbox, h.pl⟩
theorem InB.keep {w0 w W W' rb ao n cap B f fb sb next} (h : InB w0 w W rb ao n cap B f fb sb next) (b : Below W.heap.size W W') : InB w0 w W' rb ao n cap B f fb sb next :=
  h.moved (h.rd.keep b) (Only.of_below b _)
/-- And the instruction, and the row of its registers. -/
structure InX (w0 w W : World) (rb : Nat) (ao : Option Addr) (n cap : Nat) (B : List Int) (f : Rf) (fb sb xb pb : Nat) (X : Array Value) (next : Nat) : Prop where
  b : InB w0 w W rb ao n cap B f fb sb next
  xbox : W.heap[xb]? = some (.cells X 55 (0, 0))
  pbox : W.heap[pb]? = some (.cells (ptA xb) 93 (0, 0))
  pl : fb < xb ∧ sb < xb ∧ xb < pb
theorem InX.moved {w0 w W W' rb ao n cap B f fb sb xb pb X next next'} (h : InX w0 w W rb ao n cap B f fb sb xb pb X next) (r : Rd w0 W' rb ao n cap B next') (o : Only (fun q => q = rb) W W') : InX w0 w W' rb ao n cap B f fb sb xb pb X next' :=
  ⟨h.b.moved r o, (o.block _ (Array.getElem?_eq_some_iff.1 h.xbox).1 (by have := h.pl; have := h.b.pl; omega)).trans h.xbox, (o.block _ (Array.getElem?_eq_some_iff.1 h.pbox).1 (by have := h.pl; have := h.b.pl; omega)).trans h.pbox, h.pl⟩
theorem InX.keep {w0 w W W' rb ao n cap B f fb sb xb pb X next} (h : InX w0 w W rb ao n cap B f fb sb xb pb X next) (b : Below W.heap.size W W') : InX w0 w W' rb ao n cap B f fb sb xb pb X next :=
  h.moved (h.b.rd.keep b) (Only.of_below b _)
theorem InX.set {w0 w W rb ao n cap B f fb sb xb pb X next} (h : InX w0 w W rb ao n cap B f fb sb xb pb X next) (i : Nat) (u : Value) : InX w0 w (W.setCell ⟨xb, i, none⟩ u) rb ao n cap B f fb sb xb pb (X.setIfInBounds i u) next := by
  have o : Only (fun q => q = xb) W (W.setCell ⟨xb, i, none⟩ u) := Only.of_set W ⟨xb, i, none⟩ u
  have p1 := h.pl
  have p2 := h.b.pl
  have p3 := h.b.rd.ge
  refine ⟨⟨h.b.rd.only o (by omega) (fun k hk => by have hk : k = xb := hk; omega), h.b.only.trans o (fun q hq e => by have e : q = xb := e; omega), (o.block _ (Array.getElem?_eq_some_iff.1 h.b.fbox).1 (by omega)).trans h.b.fbox, (o.block _ (Array.getElem?_eq_some_iff.1 h.b.sbox).1 (by omega)).trans h.b.sbox, h.b.pl⟩, heap_set_at (i := i) (v := u) h.xbox, (o.block _ (Array.getElem?_eq_some_iff.1 h.pbox).1 (by omega)).trans h.pbox, h.pl⟩
theorem InB.start {w0 w rb ao n cap B next} (f : Rf) (h : Rd w0 w rb ao n cap B next) : InB w0 w ((w.alloc (.cells (fnA f) 40)).alloc (.cells zIn 55)) rb ao n cap B f w.heap.size (w.heap.size + 1) next := by
  have s1 : (w.alloc (.cells (fnA f) 40)).heap.size = w.heap.size + 1 := Array.size_push _
  have b : Below w.heap.size w ((w.alloc (.cells (fnA f) 40)).alloc (.cells zIn 55)) := (below_newX w _).alloc (by rw [s1]; exact Nat.le_succ _) _
  refine ⟨h.keep b, Only.of_below b _, ?_, ?_, (Array.getElem?_eq_some_iff.1 h.box).1, Nat.le_refl _, Nat.le_succ _, by omega⟩
  · exact ((below_newX (w.alloc (.cells (fnA f) 40)) _).block w.heap.size (by rw [s1]; exact Nat.lt_succ_self _)).trans (heap_alloc_new _ _)
  · have := heap_alloc_new (w.alloc (.cells (fnA f) 40)) (.cells zIn 55)
    rwa [s1] at this
theorem InB.x {w0 w W rb ao n cap B f fb sb next} (h : InB w0 w W rb ao n cap B f fb sb next) (X : Array Value) : InX w0 w ((W.alloc (.cells X 55)).alloc (.cells (ptA W.heap.size) 93)) rb ao n cap B f fb sb W.heap.size (W.heap.size + 1) X next := by
  have s1 : (W.alloc (.cells X 55)).heap.size = W.heap.size + 1 := Array.size_push _
  have b : Below W.heap.size W ((W.alloc (.cells X 55)).alloc (.cells (ptA W.heap.size) 93)) := (below_newX W _).alloc (by rw [s1]; exact Nat.le_succ _) _
  refine ⟨h.keep b, ?_, ?_, (Array.getElem?_eq_some_iff.1 h.fbox).1, (Array.getElem?_eq_some_iff.1 h.sbox).1, Nat.lt_succ_self _⟩
  · exact ((below_newX (W.alloc (.cells X 55)) _).block W.heap.size (by rw [s1]; exact Nat.lt_succ_self _)).trans (heap_alloc_new _ _)
  · have := heap_alloc_new (W.alloc (.cells X 55)) (.cells (ptA W.heap.size) 93)
    rwa [s1] at this
/-- The next register's cell. -/
theorem insA_next (op : Int) {R : List Int} {i : Nat} (h : R.length = i) (hi : i < 3) : (insA op R 0)[i + 1]? = some (.int .i64 0) ∧ ∀ r, (insA op R 0).setIfInBounds (i + 1) (.int .i64 r) = insA op (R ++ [r]) 0 := by
  subst h
  match R, hi with
  | [], _ => exact ⟨rfl, fun r => rfl⟩
  | [a], _ => exact ⟨rfl, fun r => rfl⟩
  | [a, b], _ => exact ⟨rfl, fun r => rfl⟩
  | _ :: _ :: _ :: _, hi => exact absurd hi (by simp)
theorem InX.res {w0 w W rb ao n cap B f fb sb xb pb X next} (h : InX w0 w W rb ao n cap B f fb sb xb pb X next) (u0 u1 u2 u3 u4 : Value) :
    Rd w0 (((((W.setCell ⟨sb, 0, none⟩ u0).setCell ⟨sb, 1, none⟩ u1).setCell ⟨sb, 2, none⟩ u2).setCell ⟨sb, 3, none⟩ u3).setCell ⟨sb, 4, none⟩ u4) rb ao n cap B next ∧ Only (fun q => q = rb) w (((((W.setCell ⟨sb, 0, none⟩ u0).setCell ⟨sb, 1, none⟩ u1).setCell ⟨sb, 2, none⟩ u2).setCell ⟨sb, 3, none⟩ u3).setCell ⟨sb, 4, none⟩ u4) ∧ (((((W.setCell ⟨sb, 0, none⟩ u0).setCell ⟨sb, 1, none⟩ u1).setCell ⟨sb, 2, none⟩ u2).setCell ⟨sb, 3, none⟩ u3).setCell ⟨sb, 4, none⟩ u4).heap[sb]? = some (.cells #[u0, u1, u2, u3, u4] 55 (0, 0)) := by
  have p2 := h.b.pl
  have p3 := h.b.rd.ge
  have o1 : ∀ (V : World) (i : Nat) (u : Value), Only (fun q => q = sb) V (V.setCell ⟨sb, i, none⟩ u) := fun V i u => Only.of_set V ⟨sb, i, none⟩ u
  have o : Only (fun q => q = sb) W (((((W.setCell ⟨sb, 0, none⟩ u0).setCell ⟨sb, 1, none⟩ u1).setCell ⟨sb, 2, none⟩ u2).setCell ⟨sb, 3, none⟩ u3).setCell ⟨sb, 4, none⟩ u4) := ((((o1 _ _ _).on (o1 _ _ _)).on (o1 _ _ _)).on (o1 _ _ _)).on (o1 _ _ _)
  refine ⟨h.b.rd.only o (by omega) (fun k hk => by have hk : k = sb := hk; omega), h.b.only.trans o (fun q hq e => by have e : q = sb := e; omega), ?_⟩
  have a0 := heap_set_at (i := 0) (v := u0) h.b.sbox
  have a1 := heap_set_at (i := 1) (v := u1) a0
  have a2 := heap_set_at (i := 2) (v := u2) a1
  have a3 := heap_set_at (i := 3) (v := u3) a2
  exact heap_set_at (i := 4) (v := u4) a3
set_option maxRecDepth 100000 in
theorem slice3 (W : World) (pb : Nat) {m : Nat} (hm : m ≤ 3) : (Instr.sliceAt 93 (.pointer (some ⟨pb, 0, none⟩)) none (some (.int .i64 (m : Int))) none).run Tryd.prog W = .ok (.slice (some ⟨pb, 0, none⟩) m 3) W := by
  match m, hm with
  | 0, _ => rfl
  | 1, _ => rfl
  | 2, _ => rfl
  | 3, _ => rfl
set_option maxRecDepth 100000 in
set_option maxHeartbeats 4000000 in
theorem rInstruction_any {w0 w : World} {rb : Nat} {ao : Option Addr} {n cap next : Nat} {B : List Int} (h : Rd w0 w rb ao n cap B next) (f : Rf) (h1 : 2 ≤ f.fr ∧ f.fr ≤ 1099511627776) (h2 : 0 ≤ f.fi ∧ 0 ≤ f.ct ∧ f.fi + f.ct ≤ 100000000000000000) (k : Nat) (h3 : k ≤ 100000000000000000) (last : Bool) :
    Calls Tryd.prog 46 #[.pointer (some ⟨rb, 0, none⟩), .agg #[.string f.name, .int .i64 f.fr, .int .i64 f.fi, .int .i64 f.ct, .int .i64 f.pa], .int .i64 k, .bool last] w fun e w' => InsP w0 w w' rb ao n cap B f k last next e := by
  have HF : Hid ((2 ≤ f.fr ∧ f.fr ≤ 1099511627776) ∧ (0 ≤ f.fi ∧ 0 ≤ f.ct ∧ f.fi + f.ct ≤ 100000000000000000) ∧ k ≤ 100000000000000000) := ⟨h1, h2, h3⟩
  obtain ⟨fb, hfb⟩ : ∃ fb, fb = w.heap.size := ⟨_, rfl⟩
  obtain ⟨sb, hsb⟩ : ∃ sb, sb = w.heap.size + 1 := ⟨_, rfl⟩
  obtain ⟨W1, hW1⟩ : ∃ W1, W1 = (w.alloc (.cells #[.string f.name, .int .i64 f.fr, .int .i64 f.fi, .int .i64 f.ct, .int .i64 f.pa] 40)).alloc (.cells #[.int .i64 0, .int .i64 0, .int .i64 0, .int .i64 0, .int .i64 0] 55) := ⟨_, rfl⟩
  have HB1 : Hid (InB w0 w W1 rb ao n cap B f fb sb next) := by rw [hW1, hsb, hfb]; exact InB.start f h
  have HN : Hid (Calls Tryd.prog 53 #[.pointer (some ⟨rb, 0, none⟩), .bool last] W1 fun e w' => ValP w0 W1 w' rb ao n cap B (rdOp B last next) next 1 e) := rOp_any HB1.out.rd last
  clear h h1 h2 h3
  cases hr : rdOp B last next with
  | error p =>
    have HE : Hid (rdIn B f k last next = .error p) := by show _ = _; unfold rdIn; rw [hr]
    rw [hr] at HN
    clear hr
    go_enter Tryd.func46, Tryd.ntmps46
    go_upto_region 1 with fail
    rw [← hW1]
    clear hW1
    go_wp2_with fail
    refine Calls.mono HN.out ?_
    intro e w2 q
    have HB : Hid _ := q.low
    have HO : Hid (Only (fun q => q = rb) w w2) := HB1.out.only.on q.on
    have hq := q.bad p rfl
    subst hq
    clear q HN
    unfold thrC
    go_wp2_with fail
    exact ⟨rfl, InsP.thr HE.out HB.out HO.out⟩
  | ok op =>
    have HG : Hid _ := rdOp_rng hr
    have HE : Hid (rdIn B f k last next = match rdRg B (rcnt op).toNat (next + 1) with
      | .error p => .error p
      | .ok L => if hasNC op = true then
        match rdN B 8 (loN op f.fi) (hiN op f.fr f.fi f.ct k) (next + 1 + (rcnt op).toNat) with
        | .error p => .error p
        | .ok v => .ok (⟨op, L.getD 0 0, L.getD 1 0, L.getD 2 0, v⟩, next + 1 + (rcnt op).toNat + 8)
      else .ok (⟨op, L.getD 0 0, L.getD 1 0, L.getD 2 0, 0⟩, next + 1 + (rcnt op).toNat)) := by show _ = _; unfold rdIn; rw [hr]; rfl
    rw [hr] at HN
    clear hr
    go_enter Tryd.func46, Tryd.ntmps46
    go_upto_region 1 with fail
    rw [← hW1, ← hsb, ← hfb]
    clear hW1 hfb hsb
    go_wp2_with fail
    refine Calls.mono HN.out ?_
    intro e w2 q
    have hq := q.ok op rfl
    have HB2 : Hid (InB w0 w w2 rb ao n cap B f fb sb (next + 1)) := HB1.out.moved hq.2 (only_rb (q.far op rfl))
    have hq := hq.1
    subst hq
    clear q HN HB1
    obtain ⟨m, hm⟩ : ∃ m : Nat, rcnt op = (m : Int) := ⟨(rcnt op).toNat, by have := HG.out; omega⟩
    have hm3 : m ≤ 3 := by have := HG.out.2; omega
    have HM : Hid (rcnt op = (m : Int)) := hm
    have HRG : Hid (∀ W, Calls Tryd.prog 22 #[.int .i64 op] W fun e w' => e = .returned (.int .i64 (m : Int)) ∧ w' = W) := fun W => regsOf_any W op hm
    clear hm
    go_upto_region 3 with fail
    obtain ⟨xb, hxb⟩ : ∃ xb, xb = w2.heap.size := ⟨_, rfl⟩
    obtain ⟨pb, hpb⟩ : ∃ pb, pb = w2.heap.size + 1 := ⟨_, rfl⟩
    obtain ⟨W3, hW3⟩ : ∃ W3, W3 = (w2.alloc (.cells #[.int .i64 op, .int .i64 0, .int .i64 0, .int .i64 0, .int .i64 0] 55)).alloc (.cells #[.pointer (some ⟨w2.heap.size, 1, none⟩), .pointer (some ⟨w2.heap.size, 2, none⟩), .pointer (some ⟨w2.heap.size, 3, none⟩)] 93) := ⟨_, rfl⟩
    have HX3 : Hid (InX w0 w W3 rb ao n cap B f fb sb xb pb (insA op [] 0) (next + 1)) := by rw [hW3, hpb, hxb]; exact HB2.out.x _
    rw [← hW3, ← hpb, ← hxb]
    clear hW3 hpb hxb HB2
    have x0 : W3.cell? ⟨xb, 0, none⟩ = some (.int .i64 op) := cell_arr HX3.out.xbox rfl
    have lx := (Array.getElem?_eq_some_iff.1 HX3.out.xbox).1
    have lp := (Array.getElem?_eq_some_iff.1 HX3.out.pbox).1
    go_wp2_with fail
    refine Calls.mono (HRG.out _) ?_
    rintro e w4 ⟨rfl, rfl⟩
    clear HRG x0
    have hsl : ∀ W, (Instr.sliceAt 93 (.pointer (some ⟨pb, 0, none⟩)) none (some (.int .i64 (m : Int))) none).run Tryd.prog W = .ok (.slice (some ⟨pb, 0, none⟩) m 3) W := by
      exact fun W => slice3 W pb hm3
    go_wp2_with fail
    clear hsl
    go_loopw [12, 28] (fun pv iv wr => ∃ (i : Nat) (R : List Int), i ≤ m ∧ iv = .int .i64 (i : Int) ∧ Hid (R.length = i ∧ InX w0 w wr rb ao n cap B f fb sb xb pb (insA op R 0) (next + 1 + i)) ∧ Hid (rdRg B m (next + 1) = match rdRg B (m - i) (next + 1 + i) with
      | .error p => .error p
      | .ok L => .ok (R ++ L))) (fun _ iv _ => m - (intOf iv).toNat)
    case atStart =>
      refine ⟨0, [], Nat.zero_le _, rfl, ⟨rfl, HX3.out⟩, ?_⟩
      show rdRg B m (next + 1) = match rdRg B m (next + 1) with
        | .error p => .error p
        | .ok L => .ok L
      cases rdRg B m (next + 1) <;> rfl
    case round =>
      clear HX3
      obtain ⟨i, R, hi, rfl, HX, HI⟩ := hrel
      by_cases hlt : i < m
      · have cp : wr.cell? ⟨pb, i, none⟩ = some (.pointer (some ⟨xb, i + 1, none⟩)) := by
          have q : i = 0 ∨ i = 1 ∨ i = 2 := by omega
          rcases q with rfl | rfl | rfl <;> exact cell_arr HX.out.2.pbox rfl
        have lp := (Array.getElem?_eq_some_iff.1 HX.out.2.pbox).1
        have HJ : Hid (m - i = (m - (i + 1)) + 1) := by show _ = _; omega
        have HN : Hid (Calls Tryd.prog 29 #[.pointer (some ⟨rb, 0, none⟩), .int .i64 1, .int .i64 0, .int .i64 15] wr fun e w' => NumP w0 wr w' rb ao n cap B 1 0 15 (next + 1 + i) e) := rNumber_any HX.out.2.b.rd 1 (by omega) 0 15
        cases hr : rdN B 1 0 15 (next + 1 + i) with
        | error p =>
          have HE2 : Hid (rdIn B f k last next = .error p) := by
            show _ = _
            rw [HE.out, HM.out, Int.toNat_natCast, HI.out, HJ.out]
            simp only [rdRg]
            rw [hr]
          have HR : Hid _ := hr
          clear hr
          go_wp2_with fail
          refine Calls.mono HN.out ?_
          intro e w6 q
          have HB : Hid _ := q.low
          have HO : Hid (Only (fun q => q = rb) w w6) := HX.out.2.b.only.on q.on
          have hq := q.bad p HR.out
          subst hq
          clear q HN
          unfold thrC
          go_wp2_with fail
          exact ⟨rfl, InsP.thr HE2.out HB.out HO.out⟩
        | ok r =>
          have HI2 : Hid (rdRg B m (next + 1) = match rdRg B (m - (i + 1)) (next + 1 + (i + 1)) with
            | .error p => .error p
            | .ok L => .ok (R ++ [r] ++ L)) := by
            show _ = _
            rw [HI.out, HJ.out]
            simp only [rdRg]
            rw [hr]
            have e : next + 1 + i + 1 = next + 1 + (i + 1) := by omega
            rw [e]
            cases rdRg B (m - (i + 1)) (next + 1 + (i + 1)) with
            | error p => rfl
            | ok L => simp
          have HR : Hid _ := hr
          have hwi : wrap64 ((i : Int) + 1) = ((i + 1 : Nat) : Int) := by unfold wrap64; omega
          clear hr
          go_wp2_with fail
          refine Calls.mono HN.out ?_
          intro e w6 q
          have hq := q.ok r HR.out
          have HX6 : Hid (InX w0 w w6 rb ao n cap B f fb sb xb pb (insA op R 0) (next + 1 + i + 1)) := HX.out.2.moved hq.2 (only_rb (q.far r HR.out))
          have hq := hq.1
          subst hq
          clear q HN
          have hA := insA_next op HX.out.1 (by omega : i < 3)
          have cx : w6.cell? ⟨xb, i + 1, none⟩ = some (.int .i64 0) := cell_arr HX6.out.xbox hA.1
          have zx : w6.frozen? ⟨xb, i + 1, none⟩ = false := fz_of HX6.out.xbox
          have lx := (Array.getElem?_eq_some_iff.1 HX6.out.xbox).1
          have HX7 : Hid (InX w0 w (w6.setCell ⟨xb, i + 1, none⟩ (.int .i64 r)) rb ao n cap B f fb sb xb pb (insA op (R ++ [r]) 0) (next + 1 + i + 1)) := by
            have q := HX6.out.set (i + 1) (.int .i64 r)
            rw [hA.2 r] at q
            exact q
          have HLN : Hid (R.length = i) := HX.out.1
          clear hA HX6 HX
          go_wp2_with fail
          refine ⟨⟨i + 1, R ++ [r], by omega, by simp, ⟨by rw [List.length_append, HLN.out]; rfl, HX7.out⟩, HI2.out⟩, ?_⟩
          simp [intOf]
          omega
      · have him : i = m := by omega
        have HRD : Hid (rdRg B m (next + 1) = .ok R) := by
          show _ = _
          rw [HI.out, him, Nat.sub_self]
          simp [rdRg]
        have HX2 : Hid (InX w0 w wr rb ao n cap B f fb sb xb pb (insA op R 0) (next + 1 + m)) := by
          have q := HX.out.2
          rw [him] at q
          exact q
        clear HX HI
        have HE2 : Hid (rdIn B f k last next = if hasNC op = true then
          match rdN B 8 (loN op f.fi) (hiN op f.fr f.fi f.ct k) (next + 1 + m) with
          | .error p => .error p
          | .ok v => .ok (⟨op, R.getD 0 0, R.getD 1 0, R.getD 2 0, v⟩, next + 1 + m + 8)
          else .ok (⟨op, R.getD 0 0, R.getD 1 0, R.getD 2 0, 0⟩, next + 1 + m)) := by
          show _ = _
          rw [HE.out, HM.out, Int.toNat_natCast, HRD.out]
        clear HE HRD
        unfold insA at HX2
        generalize R.getD 0 0 = r0 at HX2 HE2
        generalize R.getD 1 0 = r1 at HX2 HE2
        generalize R.getD 2 0 = r2 at HX2 HE2
        have x0 : wr.cell? ⟨xb, 0, none⟩ = some (.int .i64 op) := cell_arr HX2.out.xbox rfl
        have lx := (Array.getElem?_eq_some_iff.1 HX2.out.xbox).1
        obtain ⟨T, hT⟩ : ∃ T, hasNC op = T := ⟨_, rfl⟩
        have HH : Hid (∀ W, Calls Tryd.prog 23 #[.int .i64 op] W fun e w' => e = .returned (.bool T) ∧ w' = W) := fun W => hasNum_any W op hT
        rw [hT] at HE2
        clear hT
        cases T with
        | false =>
          have HE3 : Hid (rdIn B f k last next = .ok (⟨op, r0, r1, r2, 0⟩, next + 1 + m)) := HE2.out
          go_wp2_with fail
          refine Calls.mono (HH.out _) ?_
          rintro e w4 ⟨rfl, rfl⟩
          clear HH x0 lx
          have x0 : w4.cell? ⟨xb, 0, none⟩ = some (.int .i64 op) := cell_arr HX2.out.xbox rfl
          have s0 : w4.cell? ⟨sb, 0, none⟩ = some (.int .i64 0) := cell_arr HX2.out.b.sbox rfl
          have z0 : w4.frozen? ⟨sb, 0, none⟩ = false := fz_of HX2.out.b.sbox
          have x1 : w4.cell? ⟨xb, 1, none⟩ = some (.int .i64 r0) := cell_arr HX2.out.xbox rfl
          have s1 : w4.cell? ⟨sb, 1, none⟩ = some (.int .i64 0) := cell_arr HX2.out.b.sbox rfl
          have z1 : w4.frozen? ⟨sb, 1, none⟩ = false := fz_of HX2.out.b.sbox
          have x2 : w4.cell? ⟨xb, 2, none⟩ = some (.int .i64 r1) := cell_arr HX2.out.xbox rfl
          have s2 : w4.cell? ⟨sb, 2, none⟩ = some (.int .i64 0) := cell_arr HX2.out.b.sbox rfl
          have z2 : w4.frozen? ⟨sb, 2, none⟩ = false := fz_of HX2.out.b.sbox
          have x3 : w4.cell? ⟨xb, 3, none⟩ = some (.int .i64 r2) := cell_arr HX2.out.xbox rfl
          have s3 : w4.cell? ⟨sb, 3, none⟩ = some (.int .i64 0) := cell_arr HX2.out.b.sbox rfl
          have z3 : w4.frozen? ⟨sb, 3, none⟩ = false := fz_of HX2.out.b.sbox
          have x4 : w4.cell? ⟨xb, 4, none⟩ = some (.int .i64 0) := cell_arr HX2.out.xbox rfl
          have s4 : w4.cell? ⟨sb, 4, none⟩ = some (.int .i64 0) := cell_arr HX2.out.b.sbox rfl
          have z4 : w4.frozen? ⟨sb, 4, none⟩ = false := fz_of HX2.out.b.sbox
          have lx := (Array.getElem?_eq_some_iff.1 HX2.out.xbox).1
          have ls := (Array.getElem?_eq_some_iff.1 HX2.out.b.sbox).1
          have HZ : Hid _ := HX2.out.res (.int .i64 op) (.int .i64 r0) (.int .i64 r1) (.int .i64 r2) (.int .i64 0)
          clear HX2
          go_wp2_with fail
          refine bodyPost_ret (v := .agg #[.int .i64 op, .int .i64 r0, .int .i64 r1, .int .i64 r2, .int .i64 0]) ?_ rfl ⟨fun x q hv => ?_, HZ.out.2.1, fun p hp => ?_, HZ.out.1.low⟩
          · exact results_cell_row Tryd.results46 _ _ sb 55 _ (0, 0) _ rfl HZ.out.2.2 Tryd.underlying55 rfl (by kernel_rfl)
          · rw [HE3.out] at hv
            cases hv
            exact ⟨rfl, HZ.out.1⟩
          · rw [HE3.out] at hp
            cases hp
        | true =>
          have HE4 : Hid (rdIn B f k last next = match rdN B 8 (loN op f.fi) (hiN op f.fr f.fi f.ct k) (next + 1 + m) with
            | .error p => .error p
            | .ok v => .ok (⟨op, r0, r1, r2, v⟩, next + 1 + m + 8)) := HE2.out.trans (if_pos rfl)
          clear HE2
          go_wp2_with fail
          refine Calls.mono (HH.out _) ?_
          rintro e w4 ⟨rfl, rfl⟩
          clear HH
          have HNU : Hid (∀ W, Calls Tryd.prog 49 #[.int .i64 op, .agg #[.string f.name, .int .i64 f.fr, .int .i64 f.fi, .int .i64 f.ct, .int .i64 f.pa], .int .i64 k] W fun e w' => e = .returned (.tuple #[.int .i64 (loN op f.fi), .int .i64 (hiN op f.fr f.fi f.ct k)]) ∧ Below W.heap.size W w') := fun W => numbers_any W op f.name f.fr f.fi f.ct f.pa k HF.out.1 HF.out.2.1 (by have := HF.out.2.2; omega)
          have f0 : w4.cell? ⟨fb, 0, none⟩ = some (.string f.name) := cell_arr HX2.out.b.fbox rfl
          have f1 : w4.cell? ⟨fb, 1, none⟩ = some (.int .i64 f.fr) := cell_arr HX2.out.b.fbox rfl
          have f2 : w4.cell? ⟨fb, 2, none⟩ = some (.int .i64 f.fi) := cell_arr HX2.out.b.fbox rfl
          have f3 : w4.cell? ⟨fb, 3, none⟩ = some (.int .i64 f.ct) := cell_arr HX2.out.b.fbox rfl
          have f4 : w4.cell? ⟨fb, 4, none⟩ = some (.int .i64 f.pa) := cell_arr HX2.out.b.fbox rfl
          have lf := (Array.getElem?_eq_some_iff.1 HX2.out.b.fbox).1
          generalize hiN op f.fr f.fi f.ct k = hi at HNU HE4
          generalize loN op f.fi = lo at HNU HE4
          go_wp2_with fail
          refine Calls.mono (HNU.out _) ?_
          rintro e w5 ⟨rfl, b5⟩
          have HX5 : Hid (InX w0 w w5 rb ao n cap B f fb sb xb pb #[.int .i64 op, .int .i64 r0, .int .i64 r1, .int .i64 r2, .int .i64 0] (next + 1 + m)) := HX2.out.keep b5
          clear HNU HX2 b5 f0 f1 f2 f3 f4 lf x0 lx
          have HN : Hid (Calls Tryd.prog 29 #[.pointer (some ⟨rb, 0, none⟩), .int .i64 8, .int .i64 lo, .int .i64 hi] w5 fun e w' => NumP w0 w5 w' rb ao n cap B 8 lo hi (next + 1 + m) e) := rNumber_any HX5.out.b.rd 8 (by omega) lo hi
          cases hr : rdN B 8 lo hi (next + 1 + m) with
          | error p =>
            have HE3 : Hid (rdIn B f k last next = .error p) := by show _ = _; rw [HE4.out, hr]
            have HR : Hid _ := hr
            clear hr
            go_wp2_with fail
            refine Calls.mono HN.out ?_
            intro e w6 q
            have HB : Hid _ := q.low
            have HO : Hid (Only (fun q => q = rb) w w6) := HX5.out.b.only.on q.on
            have hq := q.bad p HR.out
            subst hq
            clear q HN
            unfold thrC
            go_wp2_with fail
            exact ⟨rfl, InsP.thr HE3.out HB.out HO.out⟩
          | ok v =>
            have HE3 : Hid (rdIn B f k last next = .ok (⟨op, r0, r1, r2, v⟩, next + 1 + m + 8)) := by show _ = _; rw [HE4.out, hr]
            have HR : Hid _ := hr
            clear hr
            go_wp2_with fail
            refine Calls.mono HN.out ?_
            intro e w6 q
            have hq := q.ok v HR.out
            have HX6 : Hid (InX w0 w w6 rb ao n cap B f fb sb xb pb #[.int .i64 op, .int .i64 r0, .int .i64 r1, .int .i64 r2, .int .i64 0] (next + 1 + m + 8)) := HX5.out.moved hq.2 (only_rb (q.far v HR.out))
            have hq := hq.1
            subst hq
            clear q HN HX5
            have cx : w6.cell? ⟨xb, 4, none⟩ = some (.int .i64 0) := cell_arr HX6.out.xbox rfl
            have zx : w6.frozen? ⟨xb, 4, none⟩ = false := fz_of HX6.out.xbox
            have lx := (Array.getElem?_eq_some_iff.1 HX6.out.xbox).1
            obtain ⟨W7, hW7⟩ : ∃ W7, W7 = w6.setCell ⟨xb, 4, none⟩ (.int .i64 v) := ⟨_, rfl⟩
            have HX7 : Hid (InX w0 w W7 rb ao n cap B f fb sb xb pb #[.int .i64 op, .int .i64 r0, .int .i64 r1, .int .i64 r2, .int .i64 v] (next + 1 + m + 8)) := by rw [hW7]; exact HX6.out.set 4 _
            go_upto_region 11 with fail
            rw [← hW7]
            clear hW7 cx zx lx HX6
            have x0 : W7.cell? ⟨xb, 0, none⟩ = some (.int .i64 op) := cell_arr HX7.out.xbox rfl
            have s0 : W7.cell? ⟨sb, 0, none⟩ = some (.int .i64 0) := cell_arr HX7.out.b.sbox rfl
            have z0 : W7.frozen? ⟨sb, 0, none⟩ = false := fz_of HX7.out.b.sbox
            have x1 : W7.cell? ⟨xb, 1, none⟩ = some (.int .i64 r0) := cell_arr HX7.out.xbox rfl
            have s1 : W7.cell? ⟨sb, 1, none⟩ = some (.int .i64 0) := cell_arr HX7.out.b.sbox rfl
            have z1 : W7.frozen? ⟨sb, 1, none⟩ = false := fz_of HX7.out.b.sbox
            have x2 : W7.cell? ⟨xb, 2, none⟩ = some (.int .i64 r1) := cell_arr HX7.out.xbox rfl
            have s2 : W7.cell? ⟨sb, 2, none⟩ = some (.int .i64 0) := cell_arr HX7.out.b.sbox rfl
            have z2 : W7.frozen? ⟨sb, 2, none⟩ = false := fz_of HX7.out.b.sbox
            have x3 : W7.cell? ⟨xb, 3, none⟩ = some (.int .i64 r2) := cell_arr HX7.out.xbox rfl
            have s3 : W7.cell? ⟨sb, 3, none⟩ = some (.int .i64 0) := cell_arr HX7.out.b.sbox rfl
            have z3 : W7.frozen? ⟨sb, 3, none⟩ = false := fz_of HX7.out.b.sbox
            have x4 : W7.cell? ⟨xb, 4, none⟩ = some (.int .i64 v) := cell_arr HX7.out.xbox rfl
            have s4 : W7.cell? ⟨sb, 4, none⟩ = some (.int .i64 0) := cell_arr HX7.out.b.sbox rfl
            have z4 : W7.frozen? ⟨sb, 4, none⟩ = false := fz_of HX7.out.b.sbox
            have lx := (Array.getElem?_eq_some_iff.1 HX7.out.xbox).1
            have ls := (Array.getElem?_eq_some_iff.1 HX7.out.b.sbox).1
            have HZ : Hid _ := HX7.out.res (.int .i64 op) (.int .i64 r0) (.int .i64 r1) (.int .i64 r2) (.int .i64 v)
            clear HX7
            go_wp2_with fail
            refine bodyPost_ret (v := .agg #[.int .i64 op, .int .i64 r0, .int .i64 r1, .int .i64 r2, .int .i64 v]) ?_ rfl ⟨fun x q hv => ?_, HZ.out.2.1, fun p hp => ?_, HZ.out.1.low⟩
            · exact results_cell_row Tryd.results46 _ _ sb 55 _ (0, 0) _ rfl HZ.out.2.2 Tryd.underlying55 rfl (by kernel_rfl)
            · rw [HE3.out] at hv
              cases hv
              exact ⟨rfl, HZ.out.1⟩
            · rw [HE3.out] at hp
              cases hp
end Go.Proofs.YtjiaedckecfjbaaDoor
