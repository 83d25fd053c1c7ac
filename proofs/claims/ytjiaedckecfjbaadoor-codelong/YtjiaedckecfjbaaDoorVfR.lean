import Derived.Test.YtjiaedckecfjbaaDoorVfQ
set_option linter.unusedVariables false
set_option linter.unusedSimpArgs false
namespace Go.Proofs.YtjiaedckecfjbaaDoor
open Go.ChangeShapes Go.WideShapes Go.ChangeAt Go.RowKit Go.Maps Go.WideMaps

/-- append(list, f). -/
theorem wpList_append_rf {w0 : World} {ops : Array Oper} {rest : List Oper} {op : Oper} {a : Act} {Q : Exit → Act → World → Prop} (hgd : op.guard = none) (s x : Operand)
    (ho : op.op = .call { callee := .builtin .append, args := #[s, x], argTypes := #[23, 23] })
    (B : Nat) (v : Value) (xs : List (List Value)) (hs : a.eval s = v) (hown : Row w0 B 40 5 v xs) (g : Nat) (cs : List Value) (hcl : cs.length = 5) (hx : a.eval x = .slice (some ⟨g, 0, none⟩) 1 1) (hc : ∀ j u, cs[j]? = some u → w0.cell? ((⟨g, 0, none⟩ : Addr).add j) = some u) (h1 : ∀ u ∈ cs, u.oneCell' = true)
    (hl : xs.length + 1 ≤ 1000000000) (hB : B ≤ w0.heap.size)
    (h : ∀ v' w', Row w' B 40 5 v' (xs ++ [cs]) → GI B w0 w' v v' → wpList Tryd.prog ops Q rest (a.put op.dst v') w') : wpList Tryd.prog ops Q (op :: rest) a w0 := by
  obtain ⟨i0, hi, hz0, hz1, hz2⟩ := info_parts (show (Tryd.prog.info? 40).map (fun i => (i.zero, i.size, i.bytes)) = some (some (.agg #[.string ⟨#[]⟩, .int .i64 0, .int .i64 0, .int .i64 0, .int .i64 0]), 5, 48) by kernel_rfl)
  refine wpList_append_where hgd s x 23 ho B 40 i0 _ 5 48 Tryd.underlying23 hi hz0 hz1 hz2 rfl (by decide) v xs.length xs.flatten hs hown.out ⟨g, 0, none⟩ 1 1 (by omega) cs hx (by omega) hc h1 (by unfold maxLen; omega) (by omega) hB ?_
  intro v' w' h2 h3 h4
  refine h v' w' ⟨by simpa using h2, fun y hy => ?_⟩ ⟨?_, fun b h5 h6 => grown_at h3 h5 h6, fun b hb => ?_⟩
  · rcases List.mem_append.1 hy with q | q
    · exact hown.len y q
    · simp at q; rw [q]; exact hcl
  · exact (Below.refl _ _).grown h3 hB (fun k hk => (own_block hown.out hk).1)
  · rcases h4.out with ⟨g', cap, e1, e2⟩ | ⟨e1, _⟩
    · subst e1 e2; exact .inl hb
    · rw [e1] at hb; cases hb; right; exact Nat.le_refl _
theorem GI.only {B w0 w' v v'} (h : GI B w0 w' v v') : Only (fun q => v.ownBlock = some q) w0 w' := ⟨h.bel.os, h.bel.tape, h.bel.output, h.bel.size, fun k hk hn => h.blk k hk hn⟩
theorem rdFn_rng {B M params next T fr ct pa} (h : rdFn B M params next = .ok (T, fr, ct, pa)) : (2 ≤ fr ∧ fr ≤ 1099511627776) ∧ (1 ≤ ct ∧ ct ≤ 4294967295) ∧ (0 ≤ pa ∧ pa ≤ params) := by
  unfold rdFn at h
  split at h
  · cases h
  · split at h
    · cases h
    · next e1 =>
      split at h
      · cases h
      · next e2 =>
        split at h
        · cases h
        · next e3 =>
          cases h
          exact ⟨rdN_range e1, rdN_range e2, rdN_range e3⟩
/-- The functions while they are read. -/
structure FnS (w0 w W : World) (rb : Nat) (ao : Option Addr) (n cap : Nat) (B : List Int) (k : Nat) (v : Value) (A : List Rf) (next : Nat) : Prop where
  rd : Rd w0 W rb ao n cap B next
  met : Met W w.heap.size k (A.map fun f : Rf => nml f.name)
  row : Row W (w.heap.size + 1) 40 5 v (A.map rfv)
  only : Only (fun q => q = rb) w W
  rb : rb < w.heap.size
  len : A.length = k
  ge : k ≤ next
theorem FnS.mbW {w0 w W rb ao n cap B k v A next} (h : FnS w0 w W rb ao n cap B k v A next) : w.heap.size < W.heap.size := h.met.lt
theorem FnS.low {w0 w W rb ao n cap B k v A next} (h : FnS w0 w W rb ao n cap B k v A next) : w0.heap.size ≤ w.heap.size := Nat.le_trans h.rd.ge (Nat.le_of_lt h.rb)
theorem FnS.own {w0 w W rb ao n cap B k v A next} (h : FnS w0 w W rb ao n cap B k v A next) {g : Nat} (hg : v.ownBlock = some g) : w.heap.size + 1 ≤ g ∧ g < W.heap.size := own_block h.row.out hg
theorem FnS.keep {w0 w W W' rb ao n cap B k v A next} (h : FnS w0 w W rb ao n cap B k v A next) (b : Below W.heap.size W W') : FnS w0 w W' rb ao n cap B k v A next :=
  ⟨h.rd.keep b, h.met.keep b, h.row.keep b, h.only.on (Only.of_below b _), h.rb, h.len, h.ge⟩
/-- While a function is read: the list has not got it yet. -/
structure FnT (w0 w W : World) (rb : Nat) (ao : Option Addr) (n cap : Nat) (B : List Int) (k : Nat) (v : Value) (A : List Rf) (T : List UInt8) (next : Nat) : Prop where
  rd : Rd w0 W rb ao n cap B next
  met : Met W w.heap.size (k + 1) ((A.map fun f : Rf => nml f.name) ++ [T])
  row : Row W (w.heap.size + 1) 40 5 v (A.map rfv)
  only : Only (fun q => q = rb) w W
  rb : rb < w.heap.size
  len : A.length = k
  ge : k + 1 ≤ next
theorem FnT.keep {w0 w W W' rb ao n cap B k v A T next} (h : FnT w0 w W rb ao n cap B k v A T next) (b : Below W.heap.size W W') : FnT w0 w W' rb ao n cap B k v A T next :=
  ⟨h.rd.keep b, h.met.keep b, h.row.keep b, h.only.on (Only.of_below b _), h.rb, h.len, h.ge⟩
theorem FnS.read {w0 w W W' rb ao n cap B k v A T next next'} (h : FnS w0 w W rb ao n cap B k v A next) (r : Rd w0 W' rb ao n cap B next') (m : Met W' w.heap.size (k + 1) ((A.map fun f : Rf => nml f.name) ++ [T])) (o : Only (fun q => q = rb ∨ q = w.heap.size) W W') (hn : next + 1 ≤ next') : FnT w0 w W' rb ao n cap B k v A T next' := by
  refine ⟨r, m, h.row.move fun g hg => ?_, h.only.trans o fun i hi e => ?_, h.rb, h.len, by have := h.ge; omega⟩
  · have := h.own hg
    have := h.rb
    exact o.block g (by omega) (by omega)
  · have : i = rb ∨ i = w.heap.size := e
    show i = rb
    omega
theorem FnT.app {w0 w W W' rb ao n cap B k v v' A T fr fi ct pa next} (h : FnT w0 w W rb ao n cap B k v A T next) (r : Row W' (w.heap.size + 1) 40 5 v' (A.map rfv ++ [[.string (bs T), .int .i64 fr, .int .i64 fi, .int .i64 ct, .int .i64 pa]])) (g : GI (w.heap.size + 1) W W' v v') : FnS w0 w W' rb ao n cap B (k + 1) v' (A ++ [⟨bs T, fr, fi, ct, pa⟩]) next := by
  have o := g.only
  have hb : ∀ q, v.ownBlock = some q → w.heap.size + 1 ≤ q := fun q hq => (own_block h.row.out hq).1
  have lo : w0.heap.size ≤ w.heap.size := Nat.le_trans h.rd.ge (Nat.le_of_lt h.rb)
  refine ⟨h.rd.only o (fun e => by have := hb _ e; have := h.rb; omega) (fun q hq => by have := hb _ hq; omega), ?_, ?_, h.only.trans o fun i hi e => ?_, h.rb, by simp [h.len], by have := h.ge; omega⟩
  · have q := h.met.only o (fun e => by have := hb _ e; omega)
    rw [List.map_append]
    have e : [(⟨bs T, fr, fi, ct, pa⟩ : Rf)].map (fun f : Rf => nml f.name) = [T] := by simp [nml, bs]
    rw [e]
    exact q
  · rw [List.map_append]
    exact r
  · have := hb i e
    omega
/-- What functions answers. -/
structure FnsP (w0 w w' : World) (rb : Nat) (ao : Option Addr) (n cap : Nat) (B : List Int) (main : Int) (m next : Nat) (e : Ending) : Prop where
  ok : ∀ FS q, rdFns B main m 0 0 [] next = .ok (FS, q) → ∃ v, e = .returned v ∧ Row w' (w.heap.size + 1) 40 5 v (FS.map rfv) ∧ Rd w0 w' rb ao n cap B q ∧ Only (fun q => q = rb) w w'
  bad : ∀ p, rdFns B main m 0 0 [] next = .error p → e = thrC (p : Int)
  low : Below w0.heap.size w0 w'
theorem FnsP.thr {w0 w w' rb ao n cap B main m next p} (h : rdFns B main m 0 0 [] next = .error p) (b : Below w0.heap.size w0 w') : FnsP w0 w w' rb ao n cap B main m next (thrC (p : Int)) :=
  ⟨fun _ _ hv => (by rw [h] at hv; cases hv), fun q hq => (by rw [h] at hq; cases hq; rfl), b⟩
set_option maxRecDepth 100000 in
set_option maxHeartbeats 4000000 in
theorem rFunctions_any {w0 w : World} {rb : Nat} {ao : Option Addr} {n cap next : Nat} {B : List Int} (m : Nat) (main : Int) (h : Rd w0 w rb ao n cap B next) (hT : Tab w0) (hn : n ≤ 900000000) (hm : m ≤ 4294967295) :
    Calls Tryd.prog 30 #[.pointer (some ⟨rb, 0, none⟩), .int .i64 m, .int .i64 main] w fun e w' => FnsP w0 w w' rb ao n cap B main m next e := by
  have hmm := @run_makeMap Tryd.prog
  have HT : Hid (Tab w0 ∧ n ≤ 900000000) := ⟨hT, hn⟩
  obtain ⟨W0, hW0⟩ : ∃ W0, W0 = w.alloc (.map #[] 0) := ⟨_, rfl⟩
  obtain ⟨mb, hmb⟩ : ∃ mb, mb = w.heap.size := ⟨_, rfl⟩
  have HMB : Hid (mb = w.heap.size) := hmb
  have HS : Hid (FnS w0 w W0 rb ao n cap B 0 (.slice none 0 0) [] next) := by
    have b : Below w.heap.size w W0 := by rw [hW0]; exact below_newX _ _
    exact ⟨h.keep b, by rw [hW0]; exact Met.start w, Row.nil _ _ _ _, Only.of_below b _, (Array.getElem?_eq_some_iff.1 h.box).1, rfl, Nat.zero_le _⟩
  clear h hT hn
  go_enter Tryd.func30, Tryd.ntmps30
  go_upto_region 3 with fail
  rw [← hW0, ← hmb]
  clear hW0 hmb
  go_wp2_with fail
  go_loopw [7, 9, 10, 11, 12, 15] (fun lv fv iv pv sv cv wr => ∃ (k : Nat) (A : List Rf) (first : Int) (nx : Nat), k ≤ m ∧ cv = .int .i64 (k : Int) ∧ fv = .int .i64 first ∧ (0 ≤ first ∧ first ≤ 4294967295 * (k : Int)) ∧ Hid (FnS w0 w wr rb ao n cap B k lv A nx) ∧ Hid (rdFns B main m 0 0 [] next = rdFns B main (m - k) (k : Int) first A nx)) (fun _ _ _ _ _ cv _ => m - (intOf cv).toNat)
  case atStart => exact ⟨0, [], 0, next, Nat.zero_le _, rfl, rfl, by omega, HS.out, rfl⟩
  case round =>
    clear HS hmm
    obtain ⟨k, A, first, nx, hk, rfl, rfl, hf, HF, HE⟩ := hrel
    by_cases hlt : k < m
    · have HJ : Hid (m - k = (m - (k + 1)) + 1) := by show _ = _; omega
      by_cases hq : (k : Int) = main
      · have ht : ((k : Int) == main) = true := by simp [hq]
        have HQ : Hid ((k : Int) = main) := hq
        clear hq
        have HN : Hid (Calls Tryd.prog 44 #[.pointer (some ⟨rb, 0, none⟩), .map (some mb), .int .i64 0] wr fun e w' => FunP w0 wr w' rb ao n cap B mb k (A.map fun f : Rf => nml f.name) 0 nx e) := by
          rw [HMB.out]
          exact rFunction_any 0 HF.out.rd HF.out.met HF.out.low (by have := HF.out.rb; omega) HT.out.1 (by have := HF.out.ge; have := HF.out.rd.le; have := HT.out.2; omega)
        cases hr : rdFn B (A.map fun f : Rf => nml f.name) 0 nx with
        | error q =>
          have HE2 : Hid (rdFns B main m 0 0 [] next = .error q) := by
            show _ = _
            rw [HE.out, HJ.out]
            simp only [rdFns]
            rw [if_pos HQ.out, hr]
          have HR : Hid _ := hr
          clear hr
          go_wp2_with fail
          refine Calls.mono HN.out ?_
          intro e w2 q
          have HB : Hid _ := q.low
          have hq := q.bad _ HR.out
          subst hq
          clear q HN
          unfold thrC
          go_wp2_with fail
          exact ⟨rfl, FnsP.thr HE2.out HB.out⟩
        | ok X =>
          obtain ⟨T, fr, ct, pa⟩ := X
          have hg := rdFn_rng hr
          have hw : wrap64 (first + ct) = first + ct := by
            have := HF.out.ge
            have := HF.out.rd.le
            have := HT.out.2
            unfold wrap64
            omega
          have hwk : wrap64 ((k : Int) + 1) = ((k + 1 : Nat) : Int) := by unfold wrap64; omega
          have HE2 : Hid (rdFns B main m 0 0 [] next = rdFns B main (m - (k + 1)) ((k + 1 : Nat) : Int) (first + ct) (A ++ [⟨bs T, fr, first, ct, pa⟩]) (nx + 1 + T.length + 8 + 4 + 1)) := by
            show _ = _
            rw [HE.out, HJ.out]
            simp only [rdFns]
            rw [if_pos HQ.out, hr]
            rfl
          have HR : Hid _ := hr
          have HG : Hid (1 ≤ ct ∧ ct ≤ 4294967295) := hg.2.1
          have HWF : Hid (wrap64 (first + ct) = first + ct) := hw
          clear hr hg
          go_wp2_with fail
          refine Calls.mono HN.out ?_
          intro e w2 q
          have hq := q.ok _ _ _ _ HR.out
          have HF2 : Hid (FnT w0 w w2 rb ao n cap B k u7 A T (nx + 1 + T.length + 8 + 4 + 1)) := by
            have q2 := hq.2
            rw [HMB.out] at q2
            exact HF.out.read q2.1 q2.2.1 q2.2.2 (by omega)
          have hq := hq.1
          subst hq
          clear q HN
          go_upto_region 13 with fail
          rw [hw]
          obtain ⟨sb, hsb⟩ : ∃ sb, sb = w2.heap.size := ⟨_, rfl⟩
          obtain ⟨W3, hW3⟩ : ∃ W3, W3 = w2.alloc (.cells #[.string (bs T), .int .i64 fr, .int .i64 first, .int .i64 ct, .int .i64 pa] 40) := ⟨_, rfl⟩
          have HF3 : Hid (FnT w0 w W3 rb ao n cap B k u7 A T (nx + 1 + T.length + 8 + 4 + 1)) := by rw [hW3]; exact HF2.out.keep (below_newX _ _)
          have hS : W3.heap[sb]? = some (.cells #[.string (bs T), .int .i64 fr, .int .i64 first, .int .i64 ct, .int .i64 pa] 40 (0, 0)) := by rw [hW3, hsb]; exact heap_alloc_new _ _
          rw [← hW3, ← hsb]
          clear hW3 hsb HF2
          have c0 : W3.cell? ⟨sb, 0, none⟩ = some (.string (bs T)) := cell_arr hS rfl
          have c1 : W3.cell? ⟨sb, 1, none⟩ = some (.int .i64 fr) := cell_arr hS rfl
          have c2 : W3.cell? ⟨sb, 2, none⟩ = some (.int .i64 first) := cell_arr hS rfl
          have c3 : W3.cell? ⟨sb, 3, none⟩ = some (.int .i64 ct) := cell_arr hS rfl
          have c4 : W3.cell? ⟨sb, 4, none⟩ = some (.int .i64 pa) := cell_arr hS rfl
          have ls := (Array.getElem?_eq_some_iff.1 hS).1
          clear hS
          have HF4 : Hid (FnT w0 w (W3.alloc (.cells #[.string (bs T), .int .i64 fr, .int .i64 first, .int .i64 ct, .int .i64 pa] 40)) rb ao n cap B k u7 A T (nx + 1 + T.length + 8 + 4 + 1)) := HF3.out.keep (below_newX _ _)
          have HL : Hid ((A.map rfv).length + 1 ≤ 1000000000 ∧ w.heap.size + 1 ≤ (W3.alloc (.cells #[.string (bs T), .int .i64 fr, .int .i64 first, .int .i64 ct, .int .i64 pa] 40)).heap.size) := by
            have := HF.out.ge
            have := HF.out.rd.le
            have := HT.out.2
            refine ⟨by rw [List.length_map, HF.out.len]; omega, HF4.out.met.lt⟩
          go_wp2_with (at_builtin; refine wpList_append_rf rfl _ _ rfl (w.heap.size + 1) u7 (A.map rfv) rfl HF4.out.row W3.heap.size [.string (bs T), .int .i64 fr, .int .i64 first, .int .i64 ct, .int .i64 pa] rfl rfl (cell_list_new _ _ _) (fun u hu => by simp at hu; rcases hu with rfl | rfl | rfl | rfl | rfl <;> rfl) HL.out.1 HL.out.2 ?_; intro v' w4 h2 g2)
          have hG := HG.out
          refine ⟨⟨k + 1, A ++ [(⟨bs T, fr, first, ct, pa⟩ : Rf)], first + ct, nx + 1 + T.length + 8 + 4 + 1, by omega, by simp, rfl, by omega, HF4.out.app h2 g2, HE2.out⟩, ?_⟩
          simp [intOf]
          omega
      · have ht : ((k : Int) == main) = false := by simp [hq]
        have HQ : Hid (¬ (k : Int) = main) := hq
        clear hq
        have HN : Hid (Calls Tryd.prog 44 #[.pointer (some ⟨rb, 0, none⟩), .map (some mb), .int .i64 8] wr fun e w' => FunP w0 wr w' rb ao n cap B mb k (A.map fun f : Rf => nml f.name) 8 nx e) := by
          rw [HMB.out]
          exact rFunction_any 8 HF.out.rd HF.out.met HF.out.low (by have := HF.out.rb; omega) HT.out.1 (by have := HF.out.ge; have := HF.out.rd.le; have := HT.out.2; omega)
        cases hr : rdFn B (A.map fun f : Rf => nml f.name) 8 nx with
        | error q =>
          have HE2 : Hid (rdFns B main m 0 0 [] next = .error q) := by
            show _ = _
            rw [HE.out, HJ.out]
            simp only [rdFns]
            rw [if_neg HQ.out, hr]
          have HR : Hid _ := hr
          clear hr
          go_wp2_with fail
          refine Calls.mono HN.out ?_
          intro e w2 q
          have HB : Hid _ := q.low
          have hq := q.bad _ HR.out
          subst hq
          clear q HN
          unfold thrC
          go_wp2_with fail
          exact ⟨rfl, FnsP.thr HE2.out HB.out⟩
        | ok X =>
          obtain ⟨T, fr, ct, pa⟩ := X
          have hg := rdFn_rng hr
          have hw : wrap64 (first + ct) = first + ct := by
            have := HF.out.ge
            have := HF.out.rd.le
            have := HT.out.2
            unfold wrap64
            omega
          have hwk : wrap64 ((k : Int) + 1) = ((k + 1 : Nat) : Int) := by unfold wrap64; omega
          have HE2 : Hid (rdFns B main m 0 0 [] next = rdFns B main (m - (k + 1)) ((k + 1 : Nat) : Int) (first + ct) (A ++ [⟨bs T, fr, first, ct, pa⟩]) (nx + 1 + T.length + 8 + 4 + 1)) := by
            show _ = _
            rw [HE.out, HJ.out]
            simp only [rdFns]
            rw [if_neg HQ.out, hr]
            rfl
          have HR : Hid _ := hr
          have HG : Hid (1 ≤ ct ∧ ct ≤ 4294967295) := hg.2.1
          have HWF : Hid (wrap64 (first + ct) = first + ct) := hw
          clear hr hg
          go_wp2_with fail
          refine Calls.mono HN.out ?_
          intro e w2 q
          have hq := q.ok _ _ _ _ HR.out
          have HF2 : Hid (FnT w0 w w2 rb ao n cap B k u7 A T (nx + 1 + T.length + 8 + 4 + 1)) := by
            have q2 := hq.2
            rw [HMB.out] at q2
            exact HF.out.read q2.1 q2.2.1 q2.2.2 (by omega)
          have hq := hq.1
          subst hq
          clear q HN
          go_upto_region 13 with fail
          rw [hw]
          obtain ⟨sb, hsb⟩ : ∃ sb, sb = w2.heap.size := ⟨_, rfl⟩
          obtain ⟨W3, hW3⟩ : ∃ W3, W3 = w2.alloc (.cells #[.string (bs T), .int .i64 fr, .int .i64 first, .int .i64 ct, .int .i64 pa] 40) := ⟨_, rfl⟩
          have HF3 : Hid (FnT w0 w W3 rb ao n cap B k u7 A T (nx + 1 + T.length + 8 + 4 + 1)) := by rw [hW3]; exact HF2.out.keep (below_newX _ _)
          have hS : W3.heap[sb]? = some (.cells #[.string (bs T), .int .i64 fr, .int .i64 first, .int .i64 ct, .int .i64 pa] 40 (0, 0)) := by rw [hW3, hsb]; exact heap_alloc_new _ _
          rw [← hW3, ← hsb]
          clear hW3 hsb HF2
          have c0 : W3.cell? ⟨sb, 0, none⟩ = some (.string (bs T)) := cell_arr hS rfl
          have c1 : W3.cell? ⟨sb, 1, none⟩ = some (.int .i64 fr) := cell_arr hS rfl
          have c2 : W3.cell? ⟨sb, 2, none⟩ = some (.int .i64 first) := cell_arr hS rfl
          have c3 : W3.cell? ⟨sb, 3, none⟩ = some (.int .i64 ct) := cell_arr hS rfl
          have c4 : W3.cell? ⟨sb, 4, none⟩ = some (.int .i64 pa) := cell_arr hS rfl
          have ls := (Array.getElem?_eq_some_iff.1 hS).1
          clear hS
          have HF4 : Hid (FnT w0 w (W3.alloc (.cells #[.string (bs T), .int .i64 fr, .int .i64 first, .int .i64 ct, .int .i64 pa] 40)) rb ao n cap B k u7 A T (nx + 1 + T.length + 8 + 4 + 1)) := HF3.out.keep (below_newX _ _)
          have HL : Hid ((A.map rfv).length + 1 ≤ 1000000000 ∧ w.heap.size + 1 ≤ (W3.alloc (.cells #[.string (bs T), .int .i64 fr, .int .i64 first, .int .i64 ct, .int .i64 pa] 40)).heap.size) := by
            have := HF.out.ge
            have := HF.out.rd.le
            have := HT.out.2
            refine ⟨by rw [List.length_map, HF.out.len]; omega, HF4.out.met.lt⟩
          go_wp2_with (at_builtin; refine wpList_append_rf rfl _ _ rfl (w.heap.size + 1) u7 (A.map rfv) rfl HF4.out.row W3.heap.size [.string (bs T), .int .i64 fr, .int .i64 first, .int .i64 ct, .int .i64 pa] rfl rfl (cell_list_new _ _ _) (fun u hu => by simp at hu; rcases hu with rfl | rfl | rfl | rfl | rfl <;> rfl) HL.out.1 HL.out.2 ?_; intro v' w4 h2 g2)
          have hG := HG.out
          refine ⟨⟨k + 1, A ++ [(⟨bs T, fr, first, ct, pa⟩ : Rf)], first + ct, nx + 1 + T.length + 8 + 4 + 1, by omega, by simp, rfl, by omega, HF4.out.app h2 g2, HE2.out⟩, ?_⟩
          simp [intOf]
          omega
    · have hkm : k = m := by omega
      subst hkm
      have HE2 : Hid (rdFns B main k 0 0 [] next = .ok (A, nx)) := by
        show _ = _
        rw [HE.out, Nat.sub_self]
        rfl
      go_wp2_with fail
      refine bodyPost_ret (v := u7) (by simp [results, Tryd.results30, go_sem]) rfl ⟨fun FS q hv => ?_, fun p hp => ?_, HF.out.rd.low⟩
      · rw [HE2.out] at hv
        cases hv
        exact ⟨u7, rfl, HF.out.row, HF.out.rd, HF.out.only⟩
      · rw [HE2.out] at hp
        cases hp
end Go.Proofs.YtjiaedckecfjbaaDoor
