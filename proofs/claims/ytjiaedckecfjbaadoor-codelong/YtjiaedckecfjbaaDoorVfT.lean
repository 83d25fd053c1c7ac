import Derived.Test.YtjiaedckecfjbaaDoorVfS
import Derived.RangeFuncRecord
import Derived.RangeFuncSeq
import Derived.WalkKit
import Derived.TacticsIn
import Derived.BigFrameIn
set_option linter.unusedVariables false
set_option linter.unusedSimpArgs false
namespace Go.Proofs.YtjiaedckecfjbaaDoor
open Go.ChangeShapes Go.WideShapes Go.ChangeAt Go.RowKit Go.Maps Go.WideMaps

set_option maxRecDepth 100000 in
set_option maxHeartbeats 4000000 in
theorem rInstructions_any (w : World) (rb : Nat) (fa : Option Addr) (fn fc : Nat) :
    Calls Tryd.prog 31 #[.pointer (some ⟨rb, 0, none⟩), .slice fa fn fc] w fun e w' => e = .returned (.func (.func 45) #[] #[.pointer (some ⟨w.heap.size + 1, 0, none⟩), .pointer (some ⟨w.heap.size, 0, none⟩)]) ∧ w' = (w.alloc (.cells #[.pointer (some ⟨rb, 0, none⟩)] 63)).alloc (.cells #[.slice fa fn fc] 23) := by
  go_enter Tryd.func31, Tryd.ntmps31
  go_wp2_with fail
  go_ret
  exact ⟨rfl, rfl⟩
/-- The reader, and what its closure has captured, while instructions are read: between two rounds only F is written. -/
structure SqS (w0 w W : World) (rb : Nat) (ao : Option Addr) (n cap : Nat) (B : List Int) (gb hb : Nat) (fa : Option Addr) (fc : Nat) (FS : List Rf) (F : Nat → Prop) (next : Nat) : Prop where
  rd : Rd w0 W rb ao n cap B next
  gbx : W.heap[gb]? = some (.cells #[.slice fa FS.length fc] 23 (0, 0))
  hbx : W.heap[hb]? = some (.cells #[.pointer (some ⟨rb, 0, none⟩)] 63 (0, 0))
  fs : StsG W fa fc 5 (FS.map rfv)
  pl : rb ≠ gb ∧ rb ≠ hb ∧ ∀ b o, fa = some ⟨b, o, none⟩ → b ≠ rb
  nf : ¬ F rb ∧ ¬ F gb ∧ ¬ F hb ∧ ∀ b o, fa = some ⟨b, o, none⟩ → ¬ F b
  fl : ∀ q, F q → w0.heap.size ≤ q ∧ q < w.heap.size
  only : Only (fun q => q = rb ∨ F q) w W
theorem SqS.moved {w0 w W W' rb ao n cap B gb hb fa fc FS F next next'} (h : SqS w0 w W rb ao n cap B gb hb fa fc FS F next) (r : Rd w0 W' rb ao n cap B next') (o : Only (fun q => q = rb) W W') : SqS w0 w W' rb ao n cap B gb hb fa fc FS F next' := by
  have p := h.pl
  refine ⟨r, (o.block _ (Array.getElem?_eq_some_iff.1 h.gbx).1 (fun e => p.1 (Eq.symm e))).trans h.gbx, (o.block _ (Array.getElem?_eq_some_iff.1 h.hbx).1 (fun e => p.2.1 (Eq.symm e))).trans h.hbx, h.fs.move fun b o' e hl => o.block b hl (p.2.2 b o' e), h.pl, h.nf, h.fl, h.only.trans o fun i _ e => .inl e⟩
theorem SqS.keep {w0 w W W' rb ao n cap B gb hb fa fc FS F next} (h : SqS w0 w W rb ao n cap B gb hb fa fc FS F next) (b : Below W.heap.size W W') : SqS w0 w W' rb ao n cap B gb hb fa fc FS F next := h.moved (h.rd.keep b) (Only.of_below b _)
theorem SqS.round {w0 w W W' rb ao n cap B gb hb fa fc FS F next} (h : SqS w0 w W rb ao n cap B gb hb fa fc FS F next) (o : Only F W W') : SqS w0 w W' rb ao n cap B gb hb fa fc FS F next := by
  have p := h.nf
  refine ⟨h.rd.only o p.1 (fun q hq => (h.fl q hq).1), (o.block _ (Array.getElem?_eq_some_iff.1 h.gbx).1 p.2.1).trans h.gbx, (o.block _ (Array.getElem?_eq_some_iff.1 h.hbx).1 p.2.2.1).trans h.hbx, h.fs.move fun b o' e hl => o.block b hl (p.2.2.2 b o' e), h.pl, h.nf, h.fl, h.only.trans o fun i _ e => .inr e⟩
/-- What the closure answers. -/
structure SeqP (w0 w w' : World) (rb : Nat) (ao : Option Addr) (n cap : Nat) (B : List Int) (FS : List Rf) (F : Nat → Prop) (J : List Ri → World → Prop) (next : Nat) (e : Ending) : Prop where
  ok : ∀ L q, rdIns B FS.length FS next = .ok (L, q) → (∃ v, e = .returned v) ∧ J L w' ∧ Rd w0 w' rb ao n cap B q
  on : Only (fun q => q = rb ∨ F q) w w'
  bad : ∀ p, rdIns B FS.length FS next = .error p → e = thrC (p : Int)
  low : Below w0.heap.size w0 w'
theorem SeqP.thr {w0 w w' rb ao n cap B FS F J next p} (h : rdIns B FS.length FS next = .error p) (b : Below w0.heap.size w0 w') (o : Only (fun q => q = rb ∨ F q) w w') : SeqP w0 w w' rb ao n cap B FS F J next (thrC (p : Int)) :=
  ⟨fun _ _ hv => (by rw [h] at hv; cases hv), o, fun q hq => (by rw [h] at hq; cases hq; rfl), b⟩
/-- An instruction as a value. -/
def insV (x : Ri) : Value := .agg #[.int .i64 x.op, .int .i64 x.a, .int .i64 x.b, .int .i64 x.c, .int .i64 x.n]
/-- The ranges of what was read. -/
def GoodF (f : Rf) : Prop := (2 ≤ f.fr ∧ f.fr ≤ 1099511627776) ∧ (0 ≤ f.fi ∧ 1 ≤ f.ct ∧ f.ct ≤ 4294967295 ∧ f.fi + f.ct ≤ 100000000000000000)
theorem rdIn_more {B f k last next x q} (h : rdIn B f k last next = .ok (x, q)) : next < q := by
  unfold rdIn at h
  split at h
  · cases h
  · split at h
    · cases h
    · split at h
      · split at h
        · cases h
        · cases h
          omega
      · cases h
        omega
set_option maxRecDepth 100000 in
set_option maxHeartbeats 4000000 in
theorem insSeq_any {w0 w : World} {rb : Nat} {ao : Option Addr} {n cap next gb hb : Nat} {B : List Int} {fa : Option Addr} {fc : Nat} {FS : List Rf} {F : Nat → Prop} (h : SqS w0 w w rb ao n cap B gb hb fa fc FS F next) (hn : n ≤ 900000000) (hfl : FS.length ≤ 900000000) (hg : ∀ f ∈ FS, GoodF f) (l : Nat) (J : List Ri → World → Prop)
    (hJ : ∀ pre A A', J pre A → Only (fun q => q = rb) A A' → J pre A')
    (hY : ∀ pre x A, J pre A → pre.length < n → (∀ L q, rdIns B FS.length FS next = .ok (L, q) → ∃ R, L = pre ++ x :: R) → YieldAt Fence.wide 3 Tryd.prog l #[insV x] A fun e A' => e = .returned (.bool true) ∧ J (pre ++ [x]) A' ∧ Only F A A')
    (h0 : J [] w) :
    Calls Tryd.prog 45 #[.func (.yield l) #[] #[], .pointer (some ⟨gb, 0, none⟩), .pointer (some ⟨hb, 0, none⟩)] w fun e w' => SeqP w0 w w' rb ao n cap B FS F J next e := by
  have HS : Hid (SqS w0 w w rb ao n cap B gb hb fa fc FS F next ∧ J [] w) := ⟨h, h0⟩
  have HG : Hid (n ≤ 900000000 ∧ FS.length ≤ 900000000 ∧ ∀ f ∈ FS, GoodF f) := ⟨hn, hfl, hg⟩
  have HJ : Hid (∀ pre A A', J pre A → Only (fun q => q = rb) A A' → J pre A') := hJ
  have HY : Hid (∀ pre x A, J pre A → pre.length < n → (∀ L q, rdIns B FS.length FS next = .ok (L, q) → ∃ R, L = pre ++ x :: R) → YieldAt Fence.wide 3 Tryd.prog l #[insV x] A fun e A' => e = .returned (.bool true) ∧ J (pre ++ [x]) A' ∧ Only F A A') := hY
  have g0 : w.cell? ⟨gb, 0, none⟩ = some (.slice fa FS.length fc) := cell_arr h.gbx rfl
  have lg := (Array.getElem?_eq_some_iff.1 h.gbx).1
  clear h hn hg hJ hY h0
  obtain ⟨fn, hfn⟩ : ∃ fn, fn = FS.length := ⟨_, rfl⟩
  have HFN : Hid (fn = FS.length) := hfn
  have hfs : fn ≤ 900000000 := by omega
  rw [← hfn] at g0
  clear hfn hfl
  go_enter Tryd.func45, Tryd.ntmps45
  go_wp2_with fail
  go_loopw [9] (fun iv wr => ∃ (i : Nat) (pre : List Ri) (nx : Nat), i ≤ fn ∧ iv = .int .i64 (i : Int) ∧ Hid (SqS w0 w wr rb ao n cap B gb hb fa fc FS F nx ∧ J pre wr ∧ pre.length ≤ nx) ∧ Hid (rdIns B FS.length FS next = match rdIns B FS.length (FS.drop i) nx with
      | .error p => .error p
      | .ok (L, q) => .ok (pre ++ L, q))) (fun iv _ => fn - (intOf iv).toNat)
  case atStart =>
    refine ⟨0, [], next, Nat.zero_le _, rfl, ⟨HS.out.1, HS.out.2, Nat.zero_le _⟩, ?_⟩
    show rdIns B FS.length FS next = match rdIns B FS.length FS next with
      | .error p => .error p
      | .ok (L, q) => .ok (L, q)
    cases rdIns B FS.length FS next with
    | error p => rfl
    | ok X => rfl
  case round =>
    clear g0 lg HS
    obtain ⟨i, pre, nx, hi, rfl, HS, HE⟩ := hrel
    by_cases hlt : i < fn
    · have hi2 : i < FS.length := by have := HFN.out; omega
      obtain ⟨b, o, hfa, hlb, hqa⟩ := HS.out.1.fs.at (j := i) (by simpa using hi2)
      obtain ⟨f, hf⟩ : ∃ f, f = FS[i] := ⟨_, rfl⟩
      have eg : (FS.map rfv).getD i [] = rfv f := by simp [List.getD, hi2, hf]
      rw [eg] at hqa
      have c0 : wr.cell? ⟨b, o + i * 5, none⟩ = some (.string f.name) := hqa 0 _ rfl
      have c1 : wr.cell? ⟨b, o + i * 5 + 1, none⟩ = some (.int .i64 f.fr) := hqa 1 _ rfl
      have c2 : wr.cell? ⟨b, o + i * 5 + 2, none⟩ = some (.int .i64 f.fi) := hqa 2 _ rfl
      have c3 : wr.cell? ⟨b, o + i * 5 + 3, none⟩ = some (.int .i64 f.ct) := hqa 3 _ rfl
      have c4 : wr.cell? ⟨b, o + i * 5 + 4, none⟩ = some (.int .i64 f.pa) := hqa 4 _ rfl
      have HGF : Hid (GoodF f) := HG.out.2.2 f (by rw [hf]; exact List.getElem_mem hi2)
      obtain ⟨ct, hct⟩ : ∃ ct : Nat, f.ct = (ct : Int) := ⟨f.ct.toNat, by have := HGF.out.2; omega⟩
      have HD : Hid (FS.drop i = f :: FS.drop (i + 1)) := by
        show _ = _
        rw [hf]
        exact List.drop_eq_getElem_cons hi2
      have HCT : Hid (f.ct = (ct : Int)) := hct
      rw [hct] at c3
      clear hqa eg hf hi2 hct
      subst hfa
      have hcs : fn ≤ fc := by have q := HS.out.1.fs.le; have := HFN.out; rw [List.length_map] at q; omega
      have hcm : fc ≤ 9223372036854775807 := HS.out.1.fs.mx
      obtain ⟨fx, hfx⟩ : ∃ fx, fx = wr.heap.size := ⟨_, rfl⟩
      obtain ⟨W5, hW5⟩ : ∃ W5, W5 = wr.alloc (.cells #[.string f.name, .int .i64 f.fr, .int .i64 f.fi, .int .i64 (ct : Int), .int .i64 f.pa] 40) := ⟨_, rfl⟩
      have HX : Hid (fx ≠ rb ∧ ¬ F fx) := by
        have q1 := (Array.getElem?_eq_some_iff.1 HS.out.1.rd.box).1
        refine ⟨by omega, fun e => ?_⟩
        have := (HS.out.1.fl _ e).2
        have := HS.out.1.only.size
        omega
      have HS5 : Hid (SqS w0 w W5 rb ao n cap B gb hb (some ⟨b, o, none⟩) fc FS F nx ∧ J pre W5 ∧ pre.length ≤ nx ∧ W5.heap[fx]? = some (.cells #[.string f.name, .int .i64 f.fr, .int .i64 f.fi, .int .i64 (ct : Int), .int .i64 f.pa] 40 (0, 0))) := by
        have b5 : Below wr.heap.size wr W5 := by rw [hW5]; exact below_newX _ _
        exact ⟨HS.out.1.keep b5, HJ.out _ _ _ HS.out.2.1 (Only.of_below b5 _), HS.out.2.2, by rw [hW5, hfx]; exact heap_alloc_new _ _⟩
      go_upto_region 3 with fail
      rw [← hW5, ← hfx]
      clear hW5 hfx c0 c1 c2 c3 c4 hlb HS
      have c3 : W5.cell? ⟨fx, 3, none⟩ = some (.int .i64 (ct : Int)) := cell_arr HS5.out.2.2.2 rfl
      have lf := (Array.getElem?_eq_some_iff.1 HS5.out.2.2.2).1
      go_wp2_with fail
      go_loopw [15] (fun jv wr => ∃ (j : Nat) (pre : List Ri) (nx : Nat), j ≤ ct ∧ jv = .int .i64 (j : Int) ∧ Hid (SqS w0 w wr rb ao n cap B gb hb (some ⟨b, o, none⟩) fc FS F nx ∧ J pre wr ∧ pre.length ≤ nx ∧ wr.heap[fx]? = some (.cells #[.string f.name, .int .i64 f.fr, .int .i64 f.fi, .int .i64 (ct : Int), .int .i64 f.pa] 40 (0, 0))) ∧ Hid (rdIns B FS.length FS next = match rdIns1 B f FS.length (ct - j) nx with
        | .error p => .error p
        | .ok (L, q) => match rdIns B FS.length (FS.drop (i + 1)) q with
          | .error p => .error p
          | .ok (L2, q2) => .ok (pre ++ (L ++ L2), q2))) (fun jv _ => ct - (intOf jv).toNat)
      case atStart =>
        refine ⟨0, pre, nx, Nat.zero_le _, rfl, HS5.out, ?_⟩
        show _ = _
        rw [HE.out, HD.out]
        simp only [rdIns]
        rw [HCT.out, Int.toNat_natCast, Nat.sub_zero]
        cases rdIns1 B f FS.length ct nx with
        | error p => rfl
        | ok X =>
          obtain ⟨L, q⟩ := X
          dsimp only
          generalize rdIns B FS.length (FS.drop (i + 1)) q = Z
          cases Z with
          | error p => rfl
          | ok Y => rfl
      case round =>
        clear c3 lf HS5 HE
        obtain ⟨j, pre, nx, hj, rfl, HS, HE⟩ := hrel
        by_cases hlj : j < ct
        · obtain ⟨T, hT⟩ : ∃ T, T = decide (ct - (j + 1) = 0) := ⟨_, rfl⟩
          have hws : wrap64 ((ct : Int) - 1) = ((ct - 1 : Nat) : Int) := by
            have q := HGF.out.2
            rw [HCT.out] at q
            unfold wrap64
            omega
          have hte : ((j : Int) == ((ct - 1 : Nat) : Int)) = T := by
            rw [hT]
            by_cases q : j = ct - 1
            · subst q
              simp
              omega
            · have q2 : ¬ (ct - (j + 1) = 0) := by omega
              have q3 : ¬ ((j : Int) = ((ct - 1 : Nat) : Int)) := by omega
              simp [q2, q3]
          have HT : Hid (T = decide (ct - (j + 1) = 0)) := hT
          have HJJ : Hid (ct - j = (ct - (j + 1)) + 1) := by show _ = _; omega
          have HN : Hid (Calls Tryd.prog 46 #[.pointer (some ⟨rb, 0, none⟩), .agg #[.string f.name, .int .i64 f.fr, .int .i64 f.fi, .int .i64 (ct : Int), .int .i64 f.pa], .int .i64 (fn : Int), .bool T] wr fun e w' => InsP w0 wr w' rb ao n cap B f fn T nx e) := by
            have q := rInstruction_any HS.out.1.rd f HGF.out.1 (by have := HGF.out.2; omega) fn (by omega) T
            rw [HCT.out] at q
            exact q
          have g0 : wr.cell? ⟨gb, 0, none⟩ = some (.slice (some ⟨b, o, none⟩) fn fc) := by
            rw [HFN.out]
            exact cell_arr HS.out.1.gbx rfl
          have h0 : wr.cell? ⟨hb, 0, none⟩ = some (.pointer (some ⟨rb, 0, none⟩)) := cell_arr HS.out.1.hbx rfl
          have f0 : wr.cell? ⟨fx, 0, none⟩ = some (.string f.name) := cell_arr HS.out.2.2.2 rfl
          have f1 : wr.cell? ⟨fx, 1, none⟩ = some (.int .i64 f.fr) := cell_arr HS.out.2.2.2 rfl
          have f2 : wr.cell? ⟨fx, 2, none⟩ = some (.int .i64 f.fi) := cell_arr HS.out.2.2.2 rfl
          have f3 : wr.cell? ⟨fx, 3, none⟩ = some (.int .i64 (ct : Int)) := cell_arr HS.out.2.2.2 rfl
          have f4 : wr.cell? ⟨fx, 4, none⟩ = some (.int .i64 f.pa) := cell_arr HS.out.2.2.2 rfl
          have lf := (Array.getElem?_eq_some_iff.1 HS.out.2.2.2).1
          have lg := (Array.getElem?_eq_some_iff.1 HS.out.1.gbx).1
          have lh := (Array.getElem?_eq_some_iff.1 HS.out.1.hbx).1
          clear hT
          go_upto_region 6 with fail
          refine (wpIn_wide (n := 4)).1 ?_
          gi_wp2_with fail
          refine ⟨trivial, (callsIn_wide.2 HN.out).mono ?_⟩
          cases hr : rdIn B f fn T nx with
          | error p =>
            have HE2 : Hid (rdIns B FS.length FS next = .error p) := by
              show _ = _
              rw [HE.out, HJJ.out]
              simp only [rdIns1]
              rw [← HT.out, ← HFN.out, hr]
            have HR : Hid _ := hr
            clear hr
            intro e w6 q
            have HB : Hid _ := q.low
            have HO : Hid (Only (fun q => q = rb ∨ F q) w w6) := HS.out.1.only.trans q.on fun i _ e => .inl e
            have hq := q.bad p HR.out
            subst hq
            clear q HN
            unfold thrC
            gi_wp2_with fail
            exact ⟨rfl, SeqP.thr HE2.out HB.out HO.out⟩
          | ok X =>
            obtain ⟨x, q1⟩ := X
            have HR : Hid _ := hr
            clear hr
            intro e w6 q
            have hq := q.ok x q1 HR.out
            have HS6 : Hid (SqS w0 w w6 rb ao n cap B gb hb (some ⟨b, o, none⟩) fc FS F q1 ∧ J pre w6 ∧ pre.length + 1 ≤ q1 ∧ w6.heap[fx]? = some (.cells #[.string f.name, .int .i64 f.fr, .int .i64 f.fi, .int .i64 (ct : Int), .int .i64 f.pa] 40 (0, 0))) :=
              ⟨HS.out.1.moved hq.2 q.on, HJ.out _ _ _ HS.out.2.1 q.on, by have := HS.out.2.2.1; have := rdIn_more HR.out; omega, (q.on.block _ (Array.getElem?_eq_some_iff.1 HS.out.2.2.2).1 HX.out.1).trans HS.out.2.2.2⟩
            have hq := hq.1
            subst hq
            clear q HN f0 f1 f2 f3 f4 lf lg lh g0 h0
            have HE2 : Hid (rdIns B FS.length FS next = match rdIns1 B f FS.length (ct - (j + 1)) q1 with
              | .error p => .error p
              | .ok (L, q) => match rdIns B FS.length (FS.drop (i + 1)) q with
                | .error p => .error p
                | .ok (L2, q2) => .ok ((pre ++ [x]) ++ (L ++ L2), q2)) := by
              show _ = _
              rw [HE.out, HJJ.out]
              simp only [rdIns1]
              rw [← HT.out, ← HFN.out, HR.out]
              dsimp only
              cases rdIns1 B f fn (ct - (j + 1)) q1 with
              | error p => rfl
              | ok X =>
                obtain ⟨L, q⟩ := X
                dsimp only
                generalize rdIns B fn (FS.drop (i + 1)) q = Z
                cases Z with
                | error p => rfl
                | ok Y =>
                  obtain ⟨L2, q2⟩ := Y
                  simp
            have hY := HY.out pre x w6 HS6.out.2.1 (by have := HS6.out.2.2.1; have := HS6.out.1.rd.le; omega) (fun L q hL => by
              rw [HE2.out] at hL
              split at hL
              · cases hL
              · split at hL
                · cases hL
                · next L1 _ _ _ L2 _ _ =>
                  cases hL
                  exact ⟨L1 ++ L2, by simp⟩)
            obtain ⟨yf, yt, ya, yb, hy, hR⟩ := hY
            unfold insV at hy
            have HRR : Hid _ := hR
            clear hR
            gi_wp2_with fail
            refine RoundIn.mono HRR.out ?_
            rintro e w7 ⟨rfl, hJ7, o7⟩
            have HS7 : Hid (SqS w0 w w7 rb ao n cap B gb hb (some ⟨b, o, none⟩) fc FS F q1 ∧ J (pre ++ [x]) w7 ∧ (pre ++ [x]).length ≤ q1 ∧ w7.heap[fx]? = some (.cells #[.string f.name, .int .i64 f.fr, .int .i64 f.fi, .int .i64 (ct : Int), .int .i64 f.pa] 40 (0, 0))) :=
              ⟨HS6.out.1.round o7, hJ7, by rw [List.length_append]; exact HS6.out.2.2.1, (o7.block _ (Array.getElem?_eq_some_iff.1 HS6.out.2.2.2).1 HX.out.2).trans HS6.out.2.2.2⟩
            have hwj : wrap64 ((j : Int) + 1) = ((j + 1 : Nat) : Int) := by
              have q := HGF.out.2
              rw [HCT.out] at q
              unfold wrap64
              omega
            clear hJ7 o7 HRR hy HS6 HS HE
            gi_wp2_with fail
            go_wp2_with fail
            rw [hwj]
            refine ⟨⟨j + 1, pre ++ [x], q1, hlj, rfl, HS7.out, HE2.out⟩, ?_⟩
            show ct - (((j + 1 : Nat) : Int)).toNat < ct - ((j : Int)).toNat
            rw [Int.toNat_natCast, Int.toNat_natCast]
            exact Nat.sub_lt_sub_left hlj (Nat.lt_succ_self j)
        · have hjc : j = ct := by omega
          subst hjc
          have HE2 : Hid (rdIns B FS.length FS next = match rdIns B FS.length (FS.drop (i + 1)) nx with
            | .error p => .error p
            | .ok (L, q) => .ok (pre ++ L, q)) := by
            show _ = _
            rw [HE.out, Nat.sub_self]
            simp only [rdIns1]
            cases rdIns B FS.length (FS.drop (i + 1)) nx with
            | error p => rfl
            | ok X => rfl
          have hwi : wrap64 ((i : Int) + 1) = ((i + 1 : Nat) : Int) := by unfold wrap64; omega
          go_wp2_with fail
          refine ⟨⟨i + 1, pre, nx, by omega, by simp, ⟨HS.out.1, HS.out.2.1, HS.out.2.2.1⟩, HE2.out⟩, ?_⟩
          simp [intOf]
          omega
    · have hif : i = fn := by omega
      subst hif
      have HE2 : Hid (rdIns B FS.length FS next = .ok (pre, nx)) := by
        show _ = _
        rw [HE.out]
        have e : FS.drop i = [] := List.drop_eq_nil_of_le (by have := HFN.out; omega)
        rw [e]
        simp [rdIns]
      go_wp2_with fail
      refine bodyPost_end (v := .tuple #[]) (by simp [results, Tryd.results45, go_sem]) rfl ⟨fun L q hv => ?_, HS.out.1.only, fun p hp => ?_, HS.out.1.rd.low⟩
      · rw [HE2.out] at hv
        cases hv
        exact ⟨⟨_, rfl⟩, HS.out.2.1, HS.out.1.rd⟩
      · rw [HE2.out] at hp
        cases hp
end Go.Proofs.YtjiaedckecfjbaaDoor
