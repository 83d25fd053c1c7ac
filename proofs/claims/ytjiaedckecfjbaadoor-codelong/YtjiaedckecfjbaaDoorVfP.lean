import Derived.Test.YtjiaedckecfjbaaDoorVfO
set_option linter.unusedVariables false
set_option linter.unusedSimpArgs false
namespace Go.Proofs.YtjiaedckecfjbaaDoor
open Go.ChangeShapes Go.WideShapes Go.ChangeAt Go.RowKit Go.Maps Go.WideMaps

theorem Rd.only {w0 W W' rb ao n cap B next} {F : Nat → Prop} (h : Rd w0 W rb ao n cap B next) (o : Only F W W') (hr : ¬ F rb) (hF : ∀ k, F k → w0.heap.size ≤ k) : Rd w0 W' rb ao n cap B next :=
  ⟨(o.block rb (Array.getElem?_eq_some_iff.1 h.box).1 hr).trans h.box, h.by_, h.low.trans (o.below h.low.size hF), h.ge, h.cap, h.le⟩
theorem Met.only {w w' : World} {mb k M} {F : Nat → Prop} (h : Met w mb k M) (o : Only F w w') (hm : ¬ F mb) : Met w' mb k M := by
  obtain ⟨D, d1, d2⟩ := h.out
  exact ⟨D, own_map_moveN d1 (o.block _ d1.lt hm), d2⟩
/-- A function is read: its name, frame, count and parameters, or the place of the fault. -/
def rdFn (B : List Int) (M : List (List UInt8)) (params : Int) (next : Nat) : Except Nat (List UInt8 × Int × Int × Int) :=
  match rdNm B M next with
  | .error p => .error p
  | .ok T => match rdN B 8 2 1099511627776 (next + 1 + T.length) with
    | .error p => .error p
    | .ok fr => match rdN B 4 1 4294967295 (next + 1 + T.length + 8) with
      | .error p => .error p
      | .ok ct => match rdN B 1 0 params (next + 1 + T.length + 8 + 4) with
        | .error p => .error p
        | .ok pa => .ok (T, fr, ct, pa)
/-- What function answers. -/
structure FunP (w0 w w' : World) (rb : Nat) (ao : Option Addr) (n cap : Nat) (B : List Int) (mb c : Nat) (M : List (List UInt8)) (params : Int) (next : Nat) (e : Ending) : Prop where
  ok : ∀ T fr ct pa, rdFn B M params next = .ok (T, fr, ct, pa) → e = .returned (.agg #[.string (bs T), .int .i64 fr, .int .i64 0, .int .i64 ct, .int .i64 pa]) ∧ Rd w0 w' rb ao n cap B (next + 1 + T.length + 8 + 4 + 1) ∧ Met w' mb (c + 1) (M ++ [T]) ∧ Only (fun q => q = rb ∨ q = mb) w w'
  bad : ∀ p, rdFn B M params next = .error p → e = thrC (p : Int)
  low : Below w0.heap.size w0 w'
theorem FunP.thr {w0 w w' rb ao n cap B mb c M params next p} (h : rdFn B M params next = .error p) (b : Below w0.heap.size w0 w') : FunP w0 w w' rb ao n cap B mb c M params next (thrC (p : Int)) :=
  ⟨fun _ _ _ _ hv => (by rw [h] at hv; cases hv), fun q hq => (by rw [h] at hq; cases hq; rfl), b⟩
/-- The reader while a function is read: its box, the map, the function's own memory. -/
structure FSt (w0 w W : World) (rb : Nat) (ao : Option Addr) (n cap : Nat) (B : List Int) (mb c : Nat) (M : List (List UInt8)) (sb lb : Nat) (Z L : Array Value) (next : Nat) : Prop where
  rd : Rd w0 W rb ao n cap B next
  met : Met W mb c M
  only : Only (fun q => q = rb ∨ q = mb) w W
  loc : W.heap[lb]? = some (.cells L 40 (0, 0))
  res : W.heap[sb]? = some (.cells Z 40 (0, 0))
/-- The places of these. -/
structure FPl (w0 w : World) (rb mb sb lb : Nat) : Prop where
  low : w0.heap.size ≤ mb ∧ w0.heap.size ≤ w.heap.size
  rm : mb ≠ rb
  old : rb < w.heap.size ∧ mb < w.heap.size
  new : w.heap.size ≤ sb ∧ w.heap.size ≤ lb ∧ sb ≠ lb
theorem FSt.set {w0 w W rb ao n cap B mb c M sb lb Z L next} (h : FSt w0 w W rb ao n cap B mb c M sb lb Z L next) (p : FPl w0 w rb mb sb lb) (i : Nat) (u : Value) : FSt w0 w (W.setCell ⟨lb, i, none⟩ u) rb ao n cap B mb c M sb lb Z (L.setIfInBounds i u) next := by
  have o : Only (fun q => q = lb) W (W.setCell ⟨lb, i, none⟩ u) := Only.of_set W ⟨lb, i, none⟩ u
  have p1 := p.old
  have p2 := p.new
  have p3 := p.low
  refine ⟨h.rd.only o (by omega) (fun k hk => by have hk : k = lb := hk; omega), h.met.only o (by omega), h.only.trans o fun q hq e => ?_, heap_set_at (i := i) (v := u) h.loc, (o.block sb (Array.getElem?_eq_some_iff.1 h.res).1 (by omega)).trans h.res⟩
  have e : q = lb := e
  omega
theorem FSt.moved {w0 w W W' rb ao n cap B mb c M sb lb Z L next next'} {u : Value} (h : FSt w0 w W rb ao n cap B mb c M sb lb Z L next) (p : FPl w0 w rb mb sb lb) (r : Rd w0 W' rb ao n cap B next') (b : Below W.heap.size (W.setCell ⟨rb, 1, none⟩ u) W') : FSt w0 w W' rb ao n cap B mb c M sb lb Z L next' := by
  have p1 := p.old
  have p2 := p.new
  have o := only_moved mb b
  exact ⟨r, h.met.moved p.rm b, h.only.on o, (o.block lb (Array.getElem?_eq_some_iff.1 h.loc).1 (by omega)).trans h.loc, (o.block sb (Array.getElem?_eq_some_iff.1 h.res).1 (by omega)).trans h.res⟩
theorem FSt.named {w0 w W W' rb ao n cap B mb c c' M M' sb lb Z L next next'} (h : FSt w0 w W rb ao n cap B mb c M sb lb Z L next) (p : FPl w0 w rb mb sb lb) (r : Rd w0 W' rb ao n cap B next') (m : Met W' mb c' M') (o : Only (fun q => q = rb ∨ q = mb) W W') : FSt w0 w W' rb ao n cap B mb c' M' sb lb Z L next' := by
  have p1 := p.old
  have p2 := p.new
  exact ⟨r, m, h.only.on o, (o.block lb (Array.getElem?_eq_some_iff.1 h.loc).1 (by omega)).trans h.loc, (o.block sb (Array.getElem?_eq_some_iff.1 h.res).1 (by omega)).trans h.res⟩
theorem FSt.swap {w0 w W rb ao n cap B mb c M sb lb Z L next} (h : FSt w0 w W rb ao n cap B mb c M sb lb Z L next) : FSt w0 w W rb ao n cap B mb c M lb sb L Z next := ⟨h.rd, h.met, h.only, h.res, h.loc⟩
theorem FPl.swap {w0 w rb mb sb lb} (p : FPl w0 w rb mb sb lb) : FPl w0 w rb mb lb sb := ⟨p.low, p.rm, p.old, p.new.2.1, p.new.1, fun e => p.new.2.2 e.symm⟩
/-- A function that is not yet. -/
def zF : Array Value := #[.string ⟨#[]⟩, .int .i64 0, .int .i64 0, .int .i64 0, .int .i64 0]
theorem FSt.start {w0 w rb ao n cap B mb c M next} (h : Rd w0 w rb ao n cap B next) (hm : Met w mb c M) : FSt w0 w ((w.alloc (.cells zF 40)).alloc (.cells zF 40)) rb ao n cap B mb c M w.heap.size (w.heap.size + 1) zF zF next := by
  have b : Below w.heap.size w ((w.alloc (.cells zF 40)).alloc (.cells zF 40)) := (below_newX w _).alloc (Nat.le_of_lt (by rw [show (w.alloc (.cells zF 40)).heap.size = w.heap.size + 1 from Array.size_push _]; exact Nat.lt_succ_self _)) _
  refine ⟨h.keep b, hm.keep b, Only.of_below b _, ?_, ?_⟩
  · have := heap_alloc_new (w.alloc (.cells zF 40)) (.cells zF 40)
    rwa [show (w.alloc (.cells zF 40)).heap.size = w.heap.size + 1 from Array.size_push _] at this
  · have q := (below_newX (w.alloc (.cells zF 40)) (.cells zF 40)).block w.heap.size (by rw [show (w.alloc (.cells zF 40)).heap.size = w.heap.size + 1 from Array.size_push _]; exact Nat.lt_succ_self _)
    exact q.trans (heap_alloc_new _ _)
set_option maxRecDepth 100000 in
set_option maxHeartbeats 4000000 in
theorem rFunction_any {w0 w : World} {rb : Nat} {ao : Option Addr} {n cap next mb c : Nat} {B : List Int} {M : List (List UInt8)} (params : Int) (h : Rd w0 w rb ao n cap B next) (hm : Met w mb c M) (hmb : w0.heap.size ≤ mb) (hne : mb ≠ rb) (hT : Tab w0) (hc : c < 10000000000000) :
    Calls Tryd.prog 44 #[.pointer (some ⟨rb, 0, none⟩), .map (some mb), .int .i64 params] w fun e w' => FunP w0 w w' rb ao n cap B mb c M params next e := by
  have HI : Hid (Rd w0 w rb ao n cap B next ∧ Met w mb c M) := ⟨h, hm⟩
  have HM : Hid (w0.heap.size ≤ mb ∧ mb ≠ rb ∧ Tab w0 ∧ c < 10000000000000) := ⟨hmb, hne, hT, hc⟩
  clear h hm hmb hne hT hc
  obtain ⟨sb, hsb⟩ : ∃ sb, sb = w.heap.size := ⟨_, rfl⟩
  obtain ⟨lb, hlb⟩ : ∃ lb, lb = w.heap.size + 1 := ⟨_, rfl⟩
  obtain ⟨W1, hW1⟩ : ∃ W1, W1 = (w.alloc (.cells #[.string ⟨#[]⟩, .int .i64 0, .int .i64 0, .int .i64 0, .int .i64 0] 40)).alloc (.cells #[.string ⟨#[]⟩, .int .i64 0, .int .i64 0, .int .i64 0, .int .i64 0] 40) := ⟨_, rfl⟩
  have HF1 : Hid (FSt w0 w W1 rb ao n cap B mb c M sb lb zF zF next) := by rw [hW1, hsb, hlb]; exact FSt.start HI.out.1 HI.out.2
  have HP : Hid (FPl w0 w rb mb sb lb) := ⟨⟨HM.out.1, HI.out.1.low.size⟩, HM.out.2.1, ⟨(Array.getElem?_eq_some_iff.1 HI.out.1.box).1, HI.out.2.lt⟩, by omega⟩
  have HN : Hid (Calls Tryd.prog 52 #[.pointer (some ⟨rb, 0, none⟩), .map (some mb)] W1 fun e w' => NamP w0 W1 w' rb ao n cap B mb c M next e) := rName_any HF1.out.rd HF1.out.met HM.out.1 HM.out.2.1 HM.out.2.2.1 HM.out.2.2.2
  go_enter Tryd.func44, Tryd.ntmps44
  go_upto_region 2 with fail
  rw [← hW1, ← hlb, ← hsb]
  clear hW1 hlb hsb
  cases hr1 : rdNm B M next with
  | error p =>
    have HE : Hid (rdFn B M params next = .error p) := by show _ = _; unfold rdFn; rw [hr1]
    have HR : Hid _ := hr1
    clear hr1
    go_wp2_with fail
    refine Calls.mono HN.out ?_
    intro e w2 q
    have HB : Hid _ := q.low
    have hq := q.bad p HR.out
    subst hq
    clear q HN
    unfold thrC
    go_wp2_with fail
    exact ⟨rfl, FunP.thr HE.out HB.out⟩
  | ok T =>
    have HR : Hid _ := hr1
    have HE : Hid (rdFn B M params next = match rdN B 8 2 1099511627776 (next + 1 + T.length) with
    | .error p => .error p
    | .ok fr => match rdN B 4 1 4294967295 (next + 1 + T.length + 8) with
      | .error p => .error p
      | .ok ct => match rdN B 1 0 params (next + 1 + T.length + 8 + 4) with
        | .error p => .error p
        | .ok pa => .ok (T, fr, ct, pa)) := by show _ = _; unfold rdFn; rw [hr1]
    clear hr1
    go_wp2_with fail
    refine Calls.mono HN.out ?_
    intro e w2 q
    have hq := q.ok T HR.out
    have HF2 : Hid (FSt w0 w w2 rb ao n cap B mb (c + 1) (M ++ [T]) sb lb zF zF (next + 1 + T.length)) := HF1.out.named HP.out hq.2.1 hq.2.2 (q.only _ HR.out)
    have hq := hq.1
    subst hq
    clear q HN HF1
    have x0 : w2.cell? ⟨lb, 0, none⟩ = some (.string ⟨#[]⟩) := cell_arr HF2.out.loc rfl
    have z0 : w2.frozen? ⟨lb, 0, none⟩ = false := fz_of HF2.out.loc
    have ll := (Array.getElem?_eq_some_iff.1 HF2.out.loc).1
    obtain ⟨W3, hW3⟩ : ∃ W3, W3 = w2.setCell ⟨lb, 0, none⟩ (.string (bs T)) := ⟨_, rfl⟩
    have HW3 : Hid (FSt w0 w W3 rb ao n cap B mb (c + 1) (M ++ [T]) sb lb zF #[.string (bs T), .int .i64 0, .int .i64 0, .int .i64 0, .int .i64 0] (next + 1 + T.length)) := by rw [hW3]; exact HF2.out.set HP.out 0 _
    go_upto_region 3 with fail
    rw [← hW3]
    clear hW3 x0 z0 ll HF2
    have HN : Hid (Calls Tryd.prog 29 #[.pointer (some ⟨rb, 0, none⟩), .int .i64 8, .int .i64 2, .int .i64 1099511627776] W3 fun e w' => NumP w0 W3 w' rb ao n cap B 8 2 1099511627776 (next + 1 + T.length) e) := rNumber_any HW3.out.rd 8 (by omega) 2 1099511627776
    cases hr : rdN B 8 2 1099511627776 (next + 1 + T.length) with
    | error p =>
      have HE2 : Hid (rdFn B M params next = .error p) := by show _ = _; rw [HE.out, hr]
      have HR : Hid _ := hr
      clear hr
      go_wp2_with fail
      refine Calls.mono HN.out ?_
      intro e w9 q
      have HB : Hid _ := q.low
      have hq := q.bad p HR.out
      subst hq
      clear q HN
      unfold thrC
      go_wp2_with fail
      exact ⟨rfl, FunP.thr HE2.out HB.out⟩
    | ok fr =>
      have HE : Hid (rdFn B M params next = match rdN B 4 1 4294967295 (next + 1 + T.length + 8) with
      | .error p => .error p
      | .ok ct => match rdN B 1 0 params (next + 1 + T.length + 8 + 4) with
        | .error p => .error p
        | .ok pa => .ok (T, fr, ct, pa)) := by show _ = _; rw [HE.out, hr]
      have HR : Hid _ := hr
      clear hr
      go_wp2_with fail
      refine Calls.mono HN.out ?_
      intro e w7 q
      have hq := q.ok _ HR.out
      have HG0 : Hid (FSt w0 w w7 rb ao n cap B mb (c + 1) (M ++ [T]) sb lb zF #[.string (bs T), .int .i64 0, .int .i64 0, .int .i64 0, .int .i64 0] (next + 1 + T.length + 8)) := HW3.out.moved HP.out hq.2 (q.far _ HR.out)
      have hq := hq.1
      subst hq
      clear q HN HW3
      have x0 : w7.cell? ⟨lb, 1, none⟩ = some (.int .i64 0) := cell_arr HG0.out.loc rfl
      have z0 : w7.frozen? ⟨lb, 1, none⟩ = false := fz_of HG0.out.loc
      have ll := (Array.getElem?_eq_some_iff.1 HG0.out.loc).1
      obtain ⟨W4, hW4⟩ : ∃ W4, W4 = w7.setCell ⟨lb, 1, none⟩ (.int .i64 fr) := ⟨_, rfl⟩
      have HW4 : Hid (FSt w0 w W4 rb ao n cap B mb (c + 1) (M ++ [T]) sb lb zF #[.string (bs T), .int .i64 fr, .int .i64 0, .int .i64 0, .int .i64 0] (next + 1 + T.length + 8)) := by rw [hW4]; exact HG0.out.set HP.out 1 _
      go_upto_region 4 with fail
      rw [← hW4]
      clear hW4 x0 z0 ll HG0
      have HN : Hid (Calls Tryd.prog 29 #[.pointer (some ⟨rb, 0, none⟩), .int .i64 4, .int .i64 1, .int .i64 4294967295] W4 fun e w' => NumP w0 W4 w' rb ao n cap B 4 1 4294967295 (next + 1 + T.length + 8) e) := rNumber_any HW4.out.rd 4 (by omega) 1 4294967295
      cases hr : rdN B 4 1 4294967295 (next + 1 + T.length + 8) with
      | error p =>
        have HE2 : Hid (rdFn B M params next = .error p) := by show _ = _; rw [HE.out, hr]
        have HR : Hid _ := hr
        clear hr
        go_wp2_with fail
        refine Calls.mono HN.out ?_
        intro e w9 q
        have HB : Hid _ := q.low
        have hq := q.bad p HR.out
        subst hq
        clear q HN
        unfold thrC
        go_wp2_with fail
        exact ⟨rfl, FunP.thr HE2.out HB.out⟩
      | ok ct =>
        have HE : Hid (rdFn B M params next = match rdN B 1 0 params (next + 1 + T.length + 8 + 4) with
        | .error p => .error p
        | .ok pa => .ok (T, fr, ct, pa)) := by show _ = _; rw [HE.out, hr]
        have HR : Hid _ := hr
        clear hr
        go_wp2_with fail
        refine Calls.mono HN.out ?_
        intro e w8 q
        have hq := q.ok _ HR.out
        have HG1 : Hid (FSt w0 w w8 rb ao n cap B mb (c + 1) (M ++ [T]) sb lb zF #[.string (bs T), .int .i64 fr, .int .i64 0, .int .i64 0, .int .i64 0] (next + 1 + T.length + 8 + 4)) := HW4.out.moved HP.out hq.2 (q.far _ HR.out)
        have hq := hq.1
        subst hq
        clear q HN HW4
        have x0 : w8.cell? ⟨lb, 3, none⟩ = some (.int .i64 0) := cell_arr HG1.out.loc rfl
        have z0 : w8.frozen? ⟨lb, 3, none⟩ = false := fz_of HG1.out.loc
        have ll := (Array.getElem?_eq_some_iff.1 HG1.out.loc).1
        obtain ⟨W5, hW5⟩ : ∃ W5, W5 = w8.setCell ⟨lb, 3, none⟩ (.int .i64 ct) := ⟨_, rfl⟩
        have HW5 : Hid (FSt w0 w W5 rb ao n cap B mb (c + 1) (M ++ [T]) sb lb zF #[.string (bs T), .int .i64 fr, .int .i64 0, .int .i64 ct, .int .i64 0] (next + 1 + T.length + 8 + 4)) := by rw [hW5]; exact HG1.out.set HP.out 3 _
        go_upto_region 5 with fail
        rw [← hW5]
        clear hW5 x0 z0 ll HG1
        have HN : Hid (Calls Tryd.prog 29 #[.pointer (some ⟨rb, 0, none⟩), .int .i64 1, .int .i64 0, .int .i64 params] W5 fun e w' => NumP w0 W5 w' rb ao n cap B 1 0 params (next + 1 + T.length + 8 + 4) e) := rNumber_any HW5.out.rd 1 (by omega) 0 params
        cases hr : rdN B 1 0 params (next + 1 + T.length + 8 + 4) with
        | error p =>
          have HE2 : Hid (rdFn B M params next = .error p) := by show _ = _; rw [HE.out, hr]
          have HR : Hid _ := hr
          clear hr
          go_wp2_with fail
          refine Calls.mono HN.out ?_
          intro e w9 q
          have HB : Hid _ := q.low
          have hq := q.bad p HR.out
          subst hq
          clear q HN
          unfold thrC
          go_wp2_with fail
          exact ⟨rfl, FunP.thr HE2.out HB.out⟩
        | ok pa =>
          have HE : Hid (rdFn B M params next = .ok (T, fr, ct, pa)) := by show _ = _; rw [HE.out, hr]
          have HR : Hid _ := hr
          clear hr
          go_wp2_with fail
          refine Calls.mono HN.out ?_
          intro e w9 q
          have hq := q.ok _ HR.out
          have HG2 : Hid (FSt w0 w w9 rb ao n cap B mb (c + 1) (M ++ [T]) sb lb zF #[.string (bs T), .int .i64 fr, .int .i64 0, .int .i64 ct, .int .i64 0] (next + 1 + T.length + 8 + 4 + 1)) := HW5.out.moved HP.out hq.2 (q.far _ HR.out)
          have hq := hq.1
          subst hq
          clear q HN HW5
          have x0 : w9.cell? ⟨lb, 4, none⟩ = some (.int .i64 0) := cell_arr HG2.out.loc rfl
          have z0 : w9.frozen? ⟨lb, 4, none⟩ = false := fz_of HG2.out.loc
          have ll := (Array.getElem?_eq_some_iff.1 HG2.out.loc).1
          obtain ⟨W6, hW6⟩ : ∃ W6, W6 = w9.setCell ⟨lb, 4, none⟩ (.int .i64 pa) := ⟨_, rfl⟩
          have HW6 : Hid (FSt w0 w W6 rb ao n cap B mb (c + 1) (M ++ [T]) sb lb zF #[.string (bs T), .int .i64 fr, .int .i64 0, .int .i64 ct, .int .i64 pa] (next + 1 + T.length + 8 + 4 + 1)) := by rw [hW6]; exact HG2.out.set HP.out 4 _
          go_upto_region 6 with fail
          rw [← hW6]
          clear hW6 x0 z0 ll HG2
          have l0 : W6.cell? ⟨lb, 0, none⟩ = some (.string (bs T)) := cell_arr HW6.out.loc rfl
          have s0 : W6.cell? ⟨sb, 0, none⟩ = some (.string ⟨#[]⟩) := cell_arr HW6.out.res rfl
          have z0 : W6.frozen? ⟨sb, 0, none⟩ = false := fz_of HW6.out.res
          have l1 : W6.cell? ⟨lb, 1, none⟩ = some (.int .i64 fr) := cell_arr HW6.out.loc rfl
          have s1 : W6.cell? ⟨sb, 1, none⟩ = some (.int .i64 0) := cell_arr HW6.out.res rfl
          have z1 : W6.frozen? ⟨sb, 1, none⟩ = false := fz_of HW6.out.res
          have l2 : W6.cell? ⟨lb, 2, none⟩ = some (.int .i64 0) := cell_arr HW6.out.loc rfl
          have s2 : W6.cell? ⟨sb, 2, none⟩ = some (.int .i64 0) := cell_arr HW6.out.res rfl
          have z2 : W6.frozen? ⟨sb, 2, none⟩ = false := fz_of HW6.out.res
          have l3 : W6.cell? ⟨lb, 3, none⟩ = some (.int .i64 ct) := cell_arr HW6.out.loc rfl
          have s3 : W6.cell? ⟨sb, 3, none⟩ = some (.int .i64 0) := cell_arr HW6.out.res rfl
          have z3 : W6.frozen? ⟨sb, 3, none⟩ = false := fz_of HW6.out.res
          have l4 : W6.cell? ⟨lb, 4, none⟩ = some (.int .i64 pa) := cell_arr HW6.out.loc rfl
          have s4 : W6.cell? ⟨sb, 4, none⟩ = some (.int .i64 0) := cell_arr HW6.out.res rfl
          have z4 : W6.frozen? ⟨sb, 4, none⟩ = false := fz_of HW6.out.res
          have ll := (Array.getElem?_eq_some_iff.1 HW6.out.loc).1
          have ls := (Array.getElem?_eq_some_iff.1 HW6.out.res).1
          have HZ : Hid (FSt w0 w (((((W6.setCell ⟨sb, 0, none⟩ (.string (bs T))).setCell ⟨sb, 1, none⟩ (.int .i64 fr)).setCell ⟨sb, 2, none⟩ (.int .i64 0)).setCell ⟨sb, 3, none⟩ (.int .i64 ct)).setCell ⟨sb, 4, none⟩ (.int .i64 pa)) rb ao n cap B mb (c + 1) (M ++ [T]) lb sb #[.string (bs T), .int .i64 fr, .int .i64 0, .int .i64 ct, .int .i64 pa] #[.string (bs T), .int .i64 fr, .int .i64 0, .int .i64 ct, .int .i64 pa] (next + 1 + T.length + 8 + 4 + 1)) := (((((HW6.out.swap.set HP.out.swap 0 _).set HP.out.swap 1 _).set HP.out.swap 2 _).set HP.out.swap 3 _).set HP.out.swap 4 _)
          clear HW6
          go_wp2_with fail
          refine bodyPost_ret (v := .agg #[.string (bs T), .int .i64 fr, .int .i64 0, .int .i64 ct, .int .i64 pa]) ?_ rfl ⟨fun T2 fr2 ct2 pa2 hv => ?_, fun p hp => ?_, HZ.out.rd.low⟩
          · exact results_cell_row Tryd.results44 _ _ sb 40 _ (0, 0) _ rfl HZ.out.loc Tryd.underlying40 rfl (by kernel_rfl)
          · rw [HE.out] at hv
            cases hv
            exact ⟨rfl, HZ.out.rd, HZ.out.met, HZ.out.only⟩
          · rw [HE.out] at hp
            cases hp
end Go.Proofs.YtjiaedckecfjbaaDoor
