import Derived.Test.YtegoemeefmjnoaaGreatDoorJas
set_option linter.unusedVariables false
set_option linter.unusedSimpArgs false
namespace Go.Proofs.YtegoemeefmjnoaaGreatDoor
open Go.ChangeShapes Go.WideShapes Go.ChangeAt Go.RowKit Go.Maps
def pad3 (A : List Int) (i : Nat) : List Int := A.take i ++ List.replicate (3 - i) 0
structure DoS (w : World) (cb : Nat) (A : List Int) (i : Nat) (wr : World) : Prop where
 box : wr.heap[cb]? = some (.cells ((pad3 A i).map (Value.int .i64)).toArray 118 (0, 0))
 low : Below w.heap.size w wr
 cb : w.heap.size <= cb
theorem pad3_len {A : List Int} {i : Nat} (hi : i <= A.length) (h3 : A.length <= 3) : (pad3 A i).length = 3 := by simp [pad3]; omega
theorem pad3_next {A : List Int} {i : Nat} (hi : i < A.length) (h3 : A.length <= 3) : (pad3 A i).set i A[i] = pad3 A (i + 1) := by
 unfold pad3
 have hl : (A.take i).length = i := by simp; omega
 rw [List.set_append_right _ _ (by omega), hl, Nat.sub_self]
 obtain ⟨q, hq⟩ : ∃ q, 3 - i = q + 1 := ⟨2 - i, by omega⟩
 have hq2 : 3 - (i + 1) = q := by omega
 rw [hq, hq2, List.replicate_succ, List.set_cons_zero]
 have e : List.take (i + 1) A = List.take i A ++ [A[i]] := by rw [List.take_add_one, List.getElem?_eq_getElem hi]; rfl
 rw [e, List.append_assoc]
 rfl
theorem pad3_all {A : List Int} (h3 : A.length <= 3) : pad3 A A.length = [A.getD 0 0, A.getD 1 0, A.getD 2 0] := by
 match A, h3 with
 | [], _ => rfl
 | [a], _ => rfl
 | [a, b], _ => rfl
 | [a, b, c], _ => rfl
theorem DoS.set {w cb A i wr} (h : DoS w cb A i wr) (hi : i < A.length) (h3 : A.length <= 3) {w5 : World} (b5 : Below wr.heap.size wr w5) {x : Int} (hx : A[i]? = some x) : (∃ v, w5.cell? ⟨cb, i, none⟩ = some (.int .i64 v)) /\ w5.frozen? ⟨cb, i, none⟩ = false /\ cb < w5.heap.size /\ DoS w cb A (i + 1) (w5.setCell ⟨cb, i, none⟩ (.int .i64 x)) := by
 have hl := pad3_len (Nat.le_of_lt hi) h3
 have hb : w5.heap[cb]? = some (.cells ((pad3 A i).map (Value.int .i64)).toArray 118 (0, 0)) := (b5.block cb (gl h.box)).trans h.box
 have ex : A[i] = x := by rw [List.getElem?_eq_getElem hi] at hx; exact Option.some.inj hx
 refine ⟨⟨(pad3 A i)[i]'(by omega), cell_arr hb (by simp [hl, show i < 3 by omega])⟩, fz_of hb, (gl hb), ⟨box_set hb ?_, (h.low.trans (b5.mono h.low.size)).setCell h.cb _, h.cb⟩⟩
 rw [<- ex, <- pad3_next hi h3, List.map_set]
set_option maxRecDepth 100000 in
set_option maxHeartbeats 8000000 in
theorem mDo_any {FS s d w M} (h : Mca FS s d w M) (hl : M.wait.length <= 900000000) {ib ip : Nat} {x : Ai} (hI : InsAt s.ws ib ip x) (M' : Ma) (hM : M.doI FS x = some M') :
 Calls Tryz.prog 45 #[.pointer (some ⟨s.ws.mb, 0, none⟩), .pointer (some ⟨ib, ip, none⟩)] w fun e w' => e = .returned (.tuple #[]) /\ ∃ d', Mca FS s d' w' M' /\ FooA s d d' w w' := by
 obtain ⟨xa, xc, sa, sc, hst, hc, hL, hS⟩ := hI.out
 obtain ⟨lib, x0, x1, x2, x3, x4, x5⟩ := hc w h.agr
 have hlt := h.cells.lt
 unfold Ma.doI at hM
 by_cases o25 : x.op = 25
 ·rw [if_pos o25] at hM
  rw [o25] at x0
  have HCA : Hid _ := mCall_any h hl hI M' hM
  generalize s.ws.mb = mb at *
  clear h hI hc hL hS hst x1 x2 x3 x4 x5 hM
  go_enter Tryz.func45, Tryz.ntmps45
  go_wp2_with (go_at_call 55; refine Calls.mono HCA.out ?_; rintro e w2 ⟨rfl, h2⟩; have H2 : Hid _ := h2; clear h2)
  exact bodyPost_ret (v := .tuple #[]) (by simp [results, Tryz.results45, go_sem]) rfl ⟨rfl, H2.out⟩
 rw [if_neg o25] at hM
 by_cases h3 : 3 < x.args.length
 ·rw [if_pos h3] at hM; cases hM
 rw [if_neg h3] at hM
 cases hg : M.gets x.args with
 | none => rw [hg] at hM; cases hM
 | some A =>
 rw [hg] at hM
 simp only at hM
 obtain ⟨hAl, hgv⟩ := gets_at hg
 have hA3 : A.length <= 3 := by omega
 have t25 : (x.op == 25) = false := by simp [o25]
 have hB : ∀ W, Below w.heap.size w W -> Mca FS s d W M := fun W hW => h.below hW
 obtain ⟨W0, hW0⟩ : ∃ W0, W0 = w.alloc (.cells #[.int .i64 0, .int .i64 0, .int .i64 0] 118) := ⟨_, rfl⟩
 obtain ⟨cb, hcb⟩ : ∃ cb, cb = w.heap.size := ⟨_, rfl⟩
 have HD0 : Hid (DoS w cb A 0 W0) := by
  refine ⟨?_, by rw [hW0]; exact below_newA w _, by omega⟩
  rw [hW0, hcb, heap_alloc_new]
  rfl
 have b0 : Below w.heap.size w W0 := HD0.out.low
 obtain ⟨mb, hmb⟩ : ∃ b, b = s.ws.mb := ⟨_, rfl⟩
 obtain ⟨an, han⟩ : ∃ an, an = x.args.length := ⟨_, rfl⟩
 have HRD : Hid (∀ W i, Below w.heap.size w W -> i < an -> ∃ ab ao, xa = some ⟨ab, ao, none⟩ /\ ab < W.heap.size /\ mb < W.heap.size /\ ∃ l : Int × Int, W.cell? ⟨ab, ao + i * 2, none⟩ = some (.int .i64 l.1) /\ W.cell? ⟨ab, ao + i * 2 + 1, none⟩ = some (.int .i64 l.2) /\ ∃ v, A[i]? = some v /\ ∀ W5, Below w.heap.size w W5 -> Calls Tryz.prog 52 #[.pointer (some ⟨mb, 0, none⟩), .agg #[.int .i64 l.1, .int .i64 l.2]] W5 fun e w' => e = .returned (.int .i64 v) /\ Below W5.heap.size W5 w') := fun W i hW hi => by
  have hix : i < x.args.length := by omega
  obtain ⟨ab, ao, f1, f2, f3, f4⟩ := (hL W (hB W hW).agr).at hix
  have hv := hgv i hix
  refine ⟨ab, ao, f1, f2, by rw [hmb]; exact (hB W hW).cells.lt, x.args[i], f3, f4, A[i]'(by omega), by simp [hAl, hix], fun W5 hW5 => ?_⟩
  rw [hmb]
  exact fGet_any (hB W5 hW5).fb x.args[i] _ (show M.get x.args[i] = _ by rw [hv]; simp [hAl, hix])
 have HX4 : Hid (∀ W, Below w.heap.size w W -> W.cell? ⟨ib, ip, none⟩ = some (.int .i64 x.op) /\ W.cell? ⟨ib, ip + 1, none⟩ = some (.int .i64 x.imm) /\ W.cell? ⟨ib, ip + 4, none⟩ = some (.slice xa x.args.length xc) /\ mb < W.heap.size /\ ib < W.heap.size) := fun W hW => by
  obtain ⟨z0, z1, z2, z3, z4, z5, z6⟩ := hc W (hB W hW).agr
  exact ⟨z1, z2, z5, by rw [hmb]; exact (hB W hW).cells.lt, z0⟩
 have hxm : x.args.length <= 9223372036854775807 := by omega
 have hLle := (hL w h.agr).le
 have hLmx := (hL w h.agr).mx
 have hxc : x.args.length <= xc /\ xc <= 9223372036854775807 := by simp at hLle; omega
 have ho : s.ws.o + 1 = 15 := by rw [h.rs.ty.2]
 have ho0 : s.ws.o = 14 := h.rs.ty.2
 have HDOK : Hid (∀ V n, M.wv.opr x.op x.imm (A.getD 0 0) (A.getD 1 0) (A.getD 2 0) = some (V, n) -> ∀ W, Below w.heap.size w W -> Calls Tryz.prog 56 #[.pointer (some ⟨mb, 14, none⟩), .int .i64 x.op, .int .i64 x.imm, .agg #[.int .i64 (A.getD 0 0), .int .i64 (A.getD 1 0), .int .i64 (A.getD 2 0)]] W fun e w' => e = .returned (.int .i64 n) /\ ∃ d', Mca FS s d' w' { M with wv := V } /\ FooA s d d' w w') := fun V n hV W hW => by
  have := mDoW (hB W hW).rs.wm x.op x.imm (A.getD 0 0) (A.getD 1 0) (A.getD 2 0) V n hV
  rw [ho0, <- hmb] at this
  refine this.mono ?_
  rintro e w' ⟨rfl, d', q1, q2⟩
  have hc1 := (hB W hW).wv q1 q2
  exact ⟨rfl, _, hc1.1, (FooA.of_below hW).trans hc1.2⟩
 cases hop : M.wv.opr x.op x.imm (A.getD 0 0) (A.getD 1 0) (A.getD 2 0) with
 | none => rw [hop] at hM; cases hM
 | some R =>
 obtain ⟨V, n⟩ := R
 rw [hop] at hM
 simp only at hM
 have HDV : Hid _ := HDOK.out V n hop
 obtain ⟨op, hopx⟩ : ∃ b, b = x.op := ⟨_, rfl⟩
 obtain ⟨imm, himx⟩ : ∃ b, b = x.imm := ⟨_, rfl⟩
 obtain ⟨a0, ha0⟩ : ∃ b, b = A.getD 0 0 := ⟨_, rfl⟩
 obtain ⟨a1, ha1⟩ : ∃ b, b = A.getD 1 0 := ⟨_, rfl⟩
 obtain ⟨a2, ha2⟩ : ∃ b, b = A.getD 2 0 := ⟨_, rfl⟩
 obtain ⟨dk, hdk⟩ : ∃ b, b = x.dst.1 := ⟨_, rfl⟩
 obtain ⟨dn, hdn⟩ : ∃ b, b = x.dst.2 := ⟨_, rfl⟩
 have HOV : Hid (∀ w5, (∃ d', Mca FS s d' w5 { M with wv := V } /\ FooA s d d' w w5) -> mb < w5.heap.size /\ Calls Tryz.prog 29 #[.pointer (some ⟨mb, 15, none⟩)] w5 fun e w' => e = .returned (.bool V.over) /\ w5 = w') := fun w5 ⟨d', q1, q2⟩ => by
  have := mOverW q1.rs.wm
  rw [ho, <- hmb] at this
  exact ⟨by rw [hmb]; exact q1.cells.lt, this.mono fun e w' r => ⟨r.1, r.2.symm⟩⟩
 have HST : Hid (V.over = false -> ∀ w5, (∃ d', Mca FS s d' w5 { M with wv := V } /\ FooA s d d' w w5) -> (fun w' : World => w'.cell? ⟨ib, ip + 2, none⟩ = some (.int .i64 dk) /\ w'.cell? ⟨ib, ip + 2 + 1, none⟩ = some (.int .i64 dn) /\ mb < w'.heap.size /\ ib < w'.heap.size) w5 /\ Calls Tryz.prog 57 #[.pointer (some ⟨mb, 0, none⟩), .agg #[.int .i64 dk, .int .i64 dn], .int .i64 n] w5 fun e w' => e = .returned (.tuple #[]) /\ ∃ d', Mca FS s d' w' M' /\ FooA s d d' w w') := fun hov w5 ⟨d', q1, q2⟩ => by
  obtain ⟨z0, z1, z2, z3, z4, z5, z6⟩ := hc w5 q1.agr
  rw [if_neg (by rw [hov]; simp)] at hM
  unfold Ma.set at hM
  obtain ⟨F', hF', rfl⟩ := Option.map_eq_some_iff.1 hM
  rw [hmb, hdk, hdn]
  refine ⟨⟨z3, z4, q1.cells.lt, z0⟩, (fSet_any q1.fb x.dst n F' hF').mono ?_⟩
  rintro e w' ⟨rfl, m', g1, g2, g3⟩
  have hc1 := q1.here g1 g2 g3
  exact ⟨rfl, _, hc1.1, q2.trans hc1.2⟩
 have HEN : Hid (V.over = true -> ∀ w5, (∃ d', Mca FS s d' w5 { M with wv := V } /\ FooA s d d' w w5) -> ∃ d', Mca FS s d' w5 M' /\ FooA s d d' w w5) := fun hov w5 hw5 => by
  rw [if_pos hov] at hM
  cases hM
  exact hw5
 have HALn : Hid (A.length = an) := by rw [han]; exact hAl
 rw [<- hopx, <- himx, <- ha0, <- ha1, <- ha2] at HDV
 rw [<- hopx, <- himx] at HX4
 rw [<- han] at HX4 hxc hxm
 rw [<- hopx] at t25
 have HP3 : Hid ([A.getD 0 0, A.getD 1 0, A.getD 2 0] = [a0, a1, a2]) := by rw [ha0, ha1, ha2]; exact rfl
 have hk0 := (HX4.out w (Below.refl _ _)).1
 have hlib := (HX4.out w (Below.refl _ _)).2.2.2.2
 obtain ⟨z0, z1, z4, zm, zi⟩ := HX4.out W0 b0
 have lcb : cb < W0.heap.size := (gl HD0.out.box)
 rw [<- hmb]
 clear h hI hc hL hS hst x0 x1 x2 x3 x4 x5 hM hg hgv hAl hB ho ho0 HDOK hop hopx himx ha0 ha1 ha2 hdk hdn hmb han hLle hLmx o25 h3 b0 lib hlt
 go_enter Tryz.func45, Tryz.ntmps45
 go_upto_region 3 with fail
 rw [<- hW0, <- hcb]
 clear hW0 hcb hk0 hlib
 go_wp2_with fail
 go_loopw [21] (fun v wr => ∃ i : Nat, i <= an /\ v = .int .i64 (i : Int) /\ Hid (DoS w cb A i wr)) (fun v _ => an - (intOf v).toNat)
 case atStart => exact ⟨0, by omega, rfl, HD0⟩
 case round =>
  clear HD0 z0 z1 z4 zm zi lcb
  obtain ⟨i, hin, rfl, HC⟩ := hrel
  obtain ⟨wq, rfl⟩ : ∃ wq, wq = wr := ⟨_, rfl⟩
  by_cases hilt : i < an
  ·obtain ⟨ab, ao, exa, lab, lmb, l, y3, y4, xv, hxv, hgx⟩ := HRD.out wq i HC.out.low hilt
   subst exa
   obtain ⟨p1, p2⟩ := l
   simp only at y3 y4 hgx
   obtain ⟨W1, hW1⟩ : ∃ W1, W1 = wq.alloc (.cells #[.int .i64 p1, .int .i64 p2] 24) := ⟨_, rfl⟩
   obtain ⟨lb, hlb⟩ : ∃ lb, lb = wq.heap.size := ⟨_, rfl⟩
   have b1 : Below wq.heap.size wq W1 := by rw [hW1]; exact below_newA wq _
   have hx1 : W1.heap[lb]? = some (.cells #[.int .i64 p1, .int .i64 p2] 24 (0, 0)) := by rw [hW1, hlb]; exact heap_alloc_new wq _
   have b1d : Below wq.heap.size wq W1.drew := b1.trans ((Below.refl _ _).drew.mono b1.size)
   have HGE : Hid _ := hgx W1.drew (HC.out.low.trans (b1d.mono HC.out.low.size))
   have hAi : i < A.length := by rw [HALn.out]; exact hilt
   have HSS : Hid (∀ w5, Below W1.drew.heap.size W1.drew w5 -> (∃ v, w5.cell? ⟨cb, i, none⟩ = some (.int .i64 v)) /\ w5.frozen? ⟨cb, i, none⟩ = false /\ cb < w5.heap.size /\ Hid (DoS w cb A (i + 1) (w5.setCell ⟨cb, i, none⟩ (.int .i64 xv)))) := fun w5 b5 => by
    have b9 : Below wq.heap.size wq w5 := b1d.trans (b5.mono b1d.size)
    exact HC.out.set hAi hA3 b9 hxv
   have Sy : (fun w' : World => w'.cell? ⟨lb, 0, none⟩ = some (.int .i64 p1) /\ w'.cell? ⟨lb, 1, none⟩ = some (.int .i64 p2) /\ lb < w'.heap.size /\ mb < w'.heap.size) W1.drew := ⟨cell_arr hx1 rfl, cell_arr hx1 rfl, (gl hx1), by have := b1.size; show mb < W1.heap.size; omega⟩
   have hii : (i : Int) < (an : Int) := by omega
   have hi3 : (i : Int) < 3 := by have := HALn.out; omega
   have hi3n : i < 3 := by have := HALn.out; omega
   clear HC hxv hgx hx1 b1 b1d
   go_upto_region 6 with fail
   rw [<- hW1, <- hlb]
   clear hW1 hlb
   refine lec_start (S := fun w' : World => w'.cell? ⟨lb, 0, none⟩ = some (.int .i64 p1) /\ w'.cell? ⟨lb, 1, none⟩ = some (.int .i64 p2) /\ lb < w'.heap.size /\ mb < w'.heap.size) (z := 5) (by kernel_rfl) ?_
   show lec _ _ _ _ _ 8 _ _ _
   try simp only [List.size_toArray, List.length_cons, List.length_nil, Array.replicate]
   refine lec_takeP (i := 0) (v := ?v0y) rfl (by kernel_rfl) (by kernel_rfl) (by kernel_rfl) (by kernel_rfl) (fun _ _ _ h => h) (.inl ⟨by rfl, ?hy0y⟩) Sy ?rest0y
   case hy0y =>
    rintro w' _
    go_simp
    all_goals with_reducible rfl
   try simp only [Act.put, List.getElem_toArray, List.getElem_cons_succ, List.getElem_cons_zero, List.setIfInBounds_toArray, List.set_cons_zero, List.set_cons_succ]
   refine lec_takeP (i := 1) (v := ?v1y) rfl (by kernel_rfl) (by kernel_rfl) (by kernel_rfl) (by kernel_rfl) (fun _ _ _ h => h) (.inl ⟨by rfl, ?hy1y⟩) Sy ?rest1y
   case hy1y =>
    rintro w' _
    go_simp
    all_goals with_reducible rfl
   try simp only [Act.put, List.getElem_toArray, List.getElem_cons_succ, List.getElem_cons_zero, List.setIfInBounds_toArray, List.set_cons_zero, List.set_cons_succ]
   refine lec_takeP (i := 2) (v := ?v2y) rfl (by kernel_rfl) (by kernel_rfl) (by kernel_rfl) (by kernel_rfl) (fun _ _ _ h => h) (.inl ⟨by rfl, ?hy2y⟩) Sy ?rest2y
   case hy2y =>
    rintro w' _
    go_simp
    all_goals with_reducible rfl
   try simp only [Act.put, List.getElem_toArray, List.getElem_cons_succ, List.getElem_cons_zero, List.setIfInBounds_toArray, List.set_cons_zero, List.set_cons_succ]
   refine lec_takeP (i := 3) (v := ?v3y) rfl (by kernel_rfl) (by kernel_rfl) (by kernel_rfl) (by kernel_rfl) (fun _ _ _ h => h) (.inl ⟨by rfl, ?hy3y⟩) Sy ?rest3y
   case hy3y =>
    rintro w' _
    go_simp
    all_goals with_reducible rfl
   try simp only [Act.put, List.getElem_toArray, List.getElem_cons_succ, List.getElem_cons_zero, List.setIfInBounds_toArray, List.set_cons_zero, List.set_cons_succ]
   refine lec_takeT [5, 6, 7] (i := 4) (v := ?v4y) rfl (by kernel_rfl) (by kernel_rfl) (by kernel_rfl) (by kernel_rfl) (fun _ _ _ h => h) (.inl ⟨by rfl, ?hy4y⟩) Sy ?rest4y
   case hy4y =>
    rintro w' ⟨h1, h2, h3, h4⟩
    go_simp
    all_goals with_reducible rfl
   try simp only [Act.put, List.getElem_toArray, List.getElem_cons_succ, List.getElem_cons_zero, List.setIfInBounds_toArray, List.set_cons_zero, List.set_cons_succ]
   refine lec_one (i := 5) rfl (by kernel_rfl) ?_
   intro K5 hK5
   rw [if_pos (by rfl)]
   go_simp
   refine Calls.mono HGE.out ?_
   rintro e w5 ⟨rfl, b5⟩
   obtain ⟨⟨v5, y1⟩, y2, y5, HN5⟩ := HSS.out w5 b5
   clear b5
   go_simp
   refine hK5 _ _ (fun h => by cases h) ?_
   clear hK5
   try simp only [Act.put, List.getElem_toArray, List.getElem_cons_succ, List.getElem_cons_zero, List.setIfInBounds_toArray, List.set_cons_zero, List.set_cons_succ]
   refine lec_one (i := 6) rfl (by kernel_rfl) ?_
   intro K6 hK6
   rw [if_pos (by rfl)]
   go_simp
   refine hK6 _ _ (fun h => by cases h) ?_
   clear hK6
   try simp only [Act.put, List.getElem_toArray, List.getElem_cons_succ, List.getElem_cons_zero, List.setIfInBounds_toArray, List.set_cons_zero, List.set_cons_succ]
   refine lec_one (i := 7) rfl (by kernel_rfl) ?_
   intro K7 hK7
   rw [if_pos (by rfl)]
   go_simp
   refine hK7 _ _ (fun h => by cases h) ?_
   clear hK7
   try simp only [Act.put, List.getElem_toArray, List.getElem_cons_succ, List.getElem_cons_zero, List.setIfInBounds_toArray, List.set_cons_zero, List.set_cons_succ]
   refine lec_done (by kernel_rfl) ?_
   clear Sy HGE HSS
   go_wp2_with fail
   go_roundw
   case rel => exact ⟨i + 1, by omega, by first | rfl | go_num, HN5.out⟩
   case measure => simp [intOf]; try omega
  ·obtain rfl : i = an := by omega
   have hbx := HC.out.box
   rw [<- HALn.out, pad3_all hA3, HP3.out] at hbx
   obtain ⟨q0, q1, q4, qm, qi⟩ := HX4.out wq HC.out.low
   have hbd : Below w.heap.size w wq.drew := HC.out.low.trans ((Below.refl _ _).drew.mono HC.out.low.size)
   have HDO : Hid _ := HDV.out wq.drew hbd
   have Sx : (fun w' : World => w'.cell? ⟨ib, ip, none⟩ = some (.int .i64 op) /\ w'.cell? ⟨ib, ip + 1, none⟩ = some (.int .i64 imm) /\ w'.cell? ⟨cb, 0, none⟩ = some (.int .i64 a0) /\ w'.cell? ⟨cb, 1, none⟩ = some (.int .i64 a1) /\ w'.cell? ⟨cb, 2, none⟩ = some (.int .i64 a2) /\ mb < w'.heap.size /\ ib < w'.heap.size /\ cb < w'.heap.size) wq.drew := ⟨q0, q1, cell_arr hbx rfl, cell_arr hbx rfl, cell_arr hbx rfl, qm, qi, (gl hbx)⟩
   clear HC HDV HX4 HRD hbx q0 q1 q4 qm qi hbd
   go_upto_region 8 with fail
   refine lec_start (S := fun w' : World => w'.cell? ⟨ib, ip, none⟩ = some (.int .i64 op) /\ w'.cell? ⟨ib, ip + 1, none⟩ = some (.int .i64 imm) /\ w'.cell? ⟨cb, 0, none⟩ = some (.int .i64 a0) /\ w'.cell? ⟨cb, 1, none⟩ = some (.int .i64 a1) /\ w'.cell? ⟨cb, 2, none⟩ = some (.int .i64 a2) /\ mb < w'.heap.size /\ ib < w'.heap.size /\ cb < w'.heap.size) (z := 12) (by kernel_rfl) ?_
   show lec _ _ _ _ _ 14 _ _ _
   try simp only [List.size_toArray, List.length_cons, List.length_nil, Array.replicate]
   refine lec_takeP (i := 0) (v := ?v0x) rfl (by kernel_rfl) (by kernel_rfl) (by kernel_rfl) (by kernel_rfl) (fun _ _ _ h => h) (.inl ⟨by rfl, ?hy0x⟩) Sx ?rest0x
   case hy0x =>
    rintro w' _
    go_simp
    all_goals with_reducible rfl
   try simp only [Act.put, List.getElem_toArray, List.getElem_cons_succ, List.getElem_cons_zero, List.setIfInBounds_toArray, List.set_cons_zero, List.set_cons_succ]
   refine lec_takeP (i := 1) (v := ?v1x) rfl (by kernel_rfl) (by kernel_rfl) (by kernel_rfl) (by kernel_rfl) (fun _ _ _ h => h) (.inl ⟨by rfl, ?hy1x⟩) Sx ?rest1x
   case hy1x =>
    rintro w' _
    go_simp
    all_goals with_reducible rfl
   try simp only [Act.put, List.getElem_toArray, List.getElem_cons_succ, List.getElem_cons_zero, List.setIfInBounds_toArray, List.set_cons_zero, List.set_cons_succ]
   refine lec_takeP (i := 2) (v := ?v2x) rfl (by kernel_rfl) (by kernel_rfl) (by kernel_rfl) (by kernel_rfl) (fun _ _ _ h => h) (.inl ⟨by rfl, ?hy2x⟩) Sx ?rest2x
   case hy2x =>
    rintro w' _
    go_simp
    all_goals with_reducible rfl
   try simp only [Act.put, List.getElem_toArray, List.getElem_cons_succ, List.getElem_cons_zero, List.setIfInBounds_toArray, List.set_cons_zero, List.set_cons_succ]
   refine lec_takeP (i := 3) (v := ?v3x) rfl (by kernel_rfl) (by kernel_rfl) (by kernel_rfl) (by kernel_rfl) (fun _ _ _ h => h) (.inl ⟨by rfl, ?hy3x⟩) Sx ?rest3x
   case hy3x =>
    rintro w' _
    go_simp
    all_goals with_reducible rfl
   try simp only [Act.put, List.getElem_toArray, List.getElem_cons_succ, List.getElem_cons_zero, List.setIfInBounds_toArray, List.set_cons_zero, List.set_cons_succ]
   refine lec_takeP (i := 4) (v := ?v4x) rfl (by kernel_rfl) (by kernel_rfl) (by kernel_rfl) (by kernel_rfl) (fun _ _ _ h => h) (.inl ⟨by rfl, ?hy4x⟩) Sx ?rest4x
   case hy4x =>
    rintro w' _
    go_simp
    all_goals with_reducible rfl
   try simp only [Act.put, List.getElem_toArray, List.getElem_cons_succ, List.getElem_cons_zero, List.setIfInBounds_toArray, List.set_cons_zero, List.set_cons_succ]
   refine lec_takeP (i := 5) (v := ?v5x) rfl (by kernel_rfl) (by kernel_rfl) (by kernel_rfl) (by kernel_rfl) (fun _ _ _ h => h) (.inl ⟨by rfl, ?hy5x⟩) Sx ?rest5x
   case hy5x =>
    rintro w' _
    go_simp
    all_goals with_reducible rfl
   try simp only [Act.put, List.getElem_toArray, List.getElem_cons_succ, List.getElem_cons_zero, List.setIfInBounds_toArray, List.set_cons_zero, List.set_cons_succ]
   refine lec_takeT [12, 13] (i := 6) (v := ?v6x) rfl (by kernel_rfl) (by kernel_rfl) (by kernel_rfl) (by kernel_rfl) (fun _ _ _ h => h) (.inl ⟨by rfl, ?hy6x⟩) Sx ?rest6x
   case hy6x =>
    rintro w' ⟨h1, h2, h3, h4, h5, h6, h7, h8⟩
    go_simp
    all_goals with_reducible rfl
   try simp only [Act.put, List.getElem_toArray, List.getElem_cons_succ, List.getElem_cons_zero, List.setIfInBounds_toArray, List.set_cons_zero, List.set_cons_succ]
   refine lec_takeP (i := 7) (v := ?v7x) rfl (by kernel_rfl) (by kernel_rfl) (by kernel_rfl) (by kernel_rfl) (fun _ _ _ h => h) (.inl ⟨by rfl, ?hy7x⟩) Sx ?rest7x
   case hy7x =>
    rintro w' _
    go_simp
    all_goals with_reducible rfl
   try simp only [Act.put, List.getElem_toArray, List.getElem_cons_succ, List.getElem_cons_zero, List.setIfInBounds_toArray, List.set_cons_zero, List.set_cons_succ]
   refine lec_takeP (i := 8) (v := ?v8x) rfl (by kernel_rfl) (by kernel_rfl) (by kernel_rfl) (by kernel_rfl) (fun _ _ _ h => h) (.inl ⟨by rfl, ?hy8x⟩) Sx ?rest8x
   case hy8x =>
    rintro w' _
    go_simp
    all_goals with_reducible rfl
   try simp only [Act.put, List.getElem_toArray, List.getElem_cons_succ, List.getElem_cons_zero, List.setIfInBounds_toArray, List.set_cons_zero, List.set_cons_succ]
   refine lec_takeP (i := 9) (v := ?v9x) rfl (by kernel_rfl) (by kernel_rfl) (by kernel_rfl) (by kernel_rfl) (fun _ _ _ h => h) (.inl ⟨by rfl, ?hy9x⟩) Sx ?rest9x
   case hy9x =>
    rintro w' _
    go_simp
    all_goals with_reducible rfl
   try simp only [Act.put, List.getElem_toArray, List.getElem_cons_succ, List.getElem_cons_zero, List.setIfInBounds_toArray, List.set_cons_zero, List.set_cons_succ]
   refine lec_takeT [12, 13] (i := 10) (v := ?v10x) rfl (by kernel_rfl) (by kernel_rfl) (by kernel_rfl) (by kernel_rfl) (fun _ _ _ h => h) (.inl ⟨by rfl, ?hy10x⟩) Sx ?rest10x
   case hy10x =>
    rintro w' ⟨h1, h2, h3, h4, h5, h6, h7, h8⟩
    go_simp
    all_goals with_reducible rfl
   try simp only [Act.put, List.getElem_toArray, List.getElem_cons_succ, List.getElem_cons_zero, List.setIfInBounds_toArray, List.set_cons_zero, List.set_cons_succ]
   refine lec_takeT [12, 13] (i := 11) (v := ?v11x) rfl (by kernel_rfl) (by kernel_rfl) (by kernel_rfl) (by kernel_rfl) (fun _ _ _ h => h) (.inl ⟨by rfl, ?hy11x⟩) Sx ?rest11x
   case hy11x =>
    rintro w' ⟨h1, h2, h3, h4, h5, h6, h7, h8⟩
    go_simp
    all_goals with_reducible rfl
   try simp only [Act.put, List.getElem_toArray, List.getElem_cons_succ, List.getElem_cons_zero, List.setIfInBounds_toArray, List.set_cons_zero, List.set_cons_succ]
   refine lec_one (i := 12) rfl (by kernel_rfl) ?_
   intro K12 hK12
   rw [if_pos (by rfl)]
   go_simp
   refine Calls.mono HDO.out ?_
   rintro e w5 ⟨rfl, h5⟩
   have H5 : Hid _ := h5
   clear h5
   go_simp
   refine hK12 _ _ (fun h => by cases h) ?_
   clear hK12
   try simp only [Act.put, List.getElem_toArray, List.getElem_cons_succ, List.getElem_cons_zero, List.setIfInBounds_toArray, List.set_cons_zero, List.set_cons_succ]
   refine lec_one (i := 13) rfl (by kernel_rfl) ?_
   intro K13 hK13
   rw [if_pos (by rfl)]
   go_simp
   refine hK13 _ _ (fun h => by cases h) ?_
   clear hK13
   try simp only [Act.put, List.getElem_toArray, List.getElem_cons_succ, List.getElem_cons_zero, List.setIfInBounds_toArray, List.set_cons_zero, List.set_cons_succ]
   refine lec_done (by kernel_rfl) ?_
   obtain ⟨lm5, hov⟩ := HOV.out w5 H5.out
   have HO5 : Hid _ := hov
   clear hov HOV HDO Sx
   cases hvo : V.over with
   | true =>
     have HF5 : Hid _ := HEN.out hvo w5 H5.out
     rw [hvo] at HO5
     clear HEN HST H5
     go_wp2_with (go_at_call 29; refine Calls.mono HO5.out ?_; rintro e w6 ⟨rfl, rfl⟩)
     exact bodyPost_end (v := .tuple #[]) (by simp [results, Tryz.results45, go_sem]) rfl ⟨rfl, HF5.out⟩
   | false =>
     have H5d : ∃ d', Mca FS s d' w5.drew { M with wv := V } /\ FooA s d d' w w5.drew := by
      obtain ⟨d', e1, e2⟩ := H5.out
      exact ⟨d', e1.below (Below.refl _ _).drew, e2.trans (FooA.of_below (Below.refl _ _).drew)⟩
     obtain ⟨Sw, hse⟩ := HST.out hvo w5.drew H5d
     have HSE : Hid _ := hse
     rw [hvo] at HO5
     clear HEN HST H5 H5d hse
     go_upto_region 10 with (go_at_call 29; refine Calls.mono HO5.out ?_; rintro e w6 ⟨rfl, rfl⟩)
     refine lec_start (S := fun w' : World => w'.cell? ⟨ib, ip + 2, none⟩ = some (.int .i64 dk) /\ w'.cell? ⟨ib, ip + 2 + 1, none⟩ = some (.int .i64 dn) /\ mb < w'.heap.size /\ ib < w'.heap.size) (z := 8) (by kernel_rfl) ?_
     show lec _ _ _ _ _ 9 _ _ _
     try simp only [List.size_toArray, List.length_cons, List.length_nil, Array.replicate]
     refine lec_takeP (i := 0) (v := ?v0w) rfl (by kernel_rfl) (by kernel_rfl) (by kernel_rfl) (by kernel_rfl) (fun _ _ _ h => h) (.inl ⟨by rfl, ?hy0w⟩) Sw ?rest0w
     case hy0w =>
      rintro w' _
      go_simp
      all_goals with_reducible rfl
     try simp only [Act.put, List.getElem_toArray, List.getElem_cons_succ, List.getElem_cons_zero, List.setIfInBounds_toArray, List.set_cons_zero, List.set_cons_succ]
     refine lec_takeP (i := 1) (v := ?v1w) rfl (by kernel_rfl) (by kernel_rfl) (by kernel_rfl) (by kernel_rfl) (fun _ _ _ h => h) (.inl ⟨by rfl, ?hy1w⟩) Sw ?rest1w
     case hy1w =>
      rintro w' _
      go_simp
      all_goals with_reducible rfl
     try simp only [Act.put, List.getElem_toArray, List.getElem_cons_succ, List.getElem_cons_zero, List.setIfInBounds_toArray, List.set_cons_zero, List.set_cons_succ]
     refine lec_takeP (i := 2) (v := ?v2w) rfl (by kernel_rfl) (by kernel_rfl) (by kernel_rfl) (by kernel_rfl) (fun _ _ _ h => h) (.inl ⟨by rfl, ?hy2w⟩) Sw ?rest2w
     case hy2w =>
      rintro w' _
      go_simp
      all_goals with_reducible rfl
     try simp only [Act.put, List.getElem_toArray, List.getElem_cons_succ, List.getElem_cons_zero, List.setIfInBounds_toArray, List.set_cons_zero, List.set_cons_succ]
     refine lec_takeP (i := 3) (v := ?v3w) rfl (by kernel_rfl) (by kernel_rfl) (by kernel_rfl) (by kernel_rfl) (fun _ _ _ h => h) (.inl ⟨by rfl, ?hy3w⟩) Sw ?rest3w
     case hy3w =>
      rintro w' _
      go_simp
      all_goals with_reducible rfl
     try simp only [Act.put, List.getElem_toArray, List.getElem_cons_succ, List.getElem_cons_zero, List.setIfInBounds_toArray, List.set_cons_zero, List.set_cons_succ]
     refine lec_takeP (i := 4) (v := ?v4w) rfl (by kernel_rfl) (by kernel_rfl) (by kernel_rfl) (by kernel_rfl) (fun _ _ _ h => h) (.inl ⟨by rfl, ?hy4w⟩) Sw ?rest4w
     case hy4w =>
      rintro w' _
      go_simp
      all_goals with_reducible rfl
     try simp only [Act.put, List.getElem_toArray, List.getElem_cons_succ, List.getElem_cons_zero, List.setIfInBounds_toArray, List.set_cons_zero, List.set_cons_succ]
     refine lec_takeP (i := 5) (v := ?v5w) rfl (by kernel_rfl) (by kernel_rfl) (by kernel_rfl) (by kernel_rfl) (fun _ _ _ h => h) (.inl ⟨by rfl, ?hy5w⟩) Sw ?rest5w
     case hy5w =>
      rintro w' _
      go_simp
      all_goals with_reducible rfl
     try simp only [Act.put, List.getElem_toArray, List.getElem_cons_succ, List.getElem_cons_zero, List.setIfInBounds_toArray, List.set_cons_zero, List.set_cons_succ]
     refine lec_takeT [8] (i := 6) (v := ?v6w) rfl (by kernel_rfl) (by kernel_rfl) (by kernel_rfl) (by kernel_rfl) (fun _ _ _ h => h) (.inl ⟨by rfl, ?hy6w⟩) Sw ?rest6w
     case hy6w =>
      rintro w' ⟨h1, h2, h3, h4⟩
      go_simp
      all_goals with_reducible rfl
     try simp only [Act.put, List.getElem_toArray, List.getElem_cons_succ, List.getElem_cons_zero, List.setIfInBounds_toArray, List.set_cons_zero, List.set_cons_succ]
     refine lec_takeP (i := 7) (v := ?v7w) rfl (by kernel_rfl) (by kernel_rfl) (by kernel_rfl) (by kernel_rfl) (fun _ _ _ h => h) (.inl ⟨by rfl, ?hy7w⟩) Sw ?rest7w
     case hy7w =>
      rintro w' _
      go_simp
      all_goals with_reducible rfl
     try simp only [Act.put, List.getElem_toArray, List.getElem_cons_succ, List.getElem_cons_zero, List.setIfInBounds_toArray, List.set_cons_zero, List.set_cons_succ]
     refine lec_one (i := 8) rfl (by kernel_rfl) ?_
     intro K8 hK8
     rw [if_pos (by rfl)]
     go_simp
     refine Calls.mono HSE.out ?_
     rintro e w7 ⟨rfl, h7⟩
     have H7 : Hid _ := h7
     clear h7
     go_simp
     refine hK8 _ _ (fun h => by cases h) ?_
     clear hK8
     try simp only [Act.put, List.getElem_toArray, List.getElem_cons_succ, List.getElem_cons_zero, List.setIfInBounds_toArray, List.set_cons_zero, List.set_cons_succ]
     refine lec_done (by kernel_rfl) ?_
     clear Sw HSE
     go_wp2_with fail
     exact bodyPost_end (v := .tuple #[]) (by simp [results, Tryz.results45, go_sem]) rfl ⟨rfl, H7.out⟩
theorem FB.on {s Q t w b F m} (h : FB s Q t w b F m) : FB s Q t (w.setCell ⟨b, 2, none⟩ (.int .i64 ((F.bh : Int) + 1))) b { F with bh := F.bh + 1 } m /\ Only (fun k => k = b) w (w.setCell ⟨b, 2, none⟩ (.int .i64 ((F.bh : Int) + 1))) :=
 ⟨⟨box_set h.box (by simp [fav]), h.rg, h.sm.move fun g hg => heap_set_other (h.ne hg)⟩, Only.of_set w ⟨b, 2, none⟩ _⟩
set_option maxRecDepth 100000 in
set_option maxHeartbeats 4000000 in
theorem mAdv_any {FS s d w M} (h : Mca FS s d w M) (hl : M.wait.length <= 900000000) (M' : Ma) (hM : M.adv FS = some M') :
 Calls Tryz.prog 30 #[.pointer (some ⟨s.ws.mb, 0, none⟩)] w fun e w' => e = .returned (.tuple #[]) /\ ∃ d', Mca FS s d' w' M' /\ FooA s d d' w w' := by
 unfold Ma.adv at hM
 cases hf : FS[M.here.fi]? with
 | none => rw [hf] at hM; cases hM
 | some f =>
 rw [hf] at hM
 simp only at hM
 cases hb : f.blks[M.here.bk]? with
 | none => rw [hb] at hM; cases hM
 | some b =>
 rw [hb] at hM
 simp only at hM
 obtain ⟨hfi, ef⟩ := List.getElem?_eq_some_iff.1 hf
 subst ef
 obtain ⟨hbi, eb⟩ := List.getElem?_eq_some_iff.1 hb
 obtain ⟨a1, c1, a2, c2, -, hc, hLI, hWI⟩ := h.rs.fns.blk_at hfi hbi
 have hfew := h.rs.fns.few M.here.fi hfi M.here.bk hbi
 rw [eb] at hc hLI hWI hfew
 have k1 := h.cells.c1
 have k2 := h.cells.c2
 have hlt := h.cells.lt
 have f2 := h.cells.fz 2
 obtain ⟨q0, q1, q2, q3, q4, q5⟩ := hc w h.agr
 obtain ⟨bb, ebb⟩ : ∃ bb, bb = s.bb M.here.fi := ⟨_, rfl⟩
 obtain ⟨bp, ebp⟩ : ∃ bp, bp = s.bo M.here.fi + M.here.bk * 5 := ⟨_, rfl⟩
 obtain ⟨mb, emb⟩ : ∃ mb, mb = s.ws.mb := ⟨_, rfl⟩
 obtain ⟨bh, ebh⟩ : ∃ bh, bh = M.here.bh := ⟨_, rfl⟩
 have hBw : ∀ W, Below w.heap.size w W -> Mca FS s d W M := fun W hW => h.below hW
 by_cases hq : M.here.bh = b.body.length
 ·rw [if_pos hq] at hM
  have HLE : Hid (∀ W, Below w.heap.size w W -> (bb < W.heap.size /\ mb < W.heap.size /\ W.cell? ⟨bb, bp + 1, none⟩ = some (.int .i64 b.kind) /\ W.cell? ⟨bb, bp + 1 + 1, none⟩ = some (.int .i64 b.val.1) /\ W.cell? ⟨bb, bp + 1 + 2, none⟩ = some (.int .i64 b.val.2) /\ W.cell? ⟨bb, bp + 1 + 3, none⟩ = some (.slice a2 b.ways.length c2) /\ W.cell? ⟨mb, 1, none⟩ = some (.pointer (some ⟨bb, bp, none⟩))) /\ Calls Tryz.prog 44 #[.pointer (some ⟨mb, 0, none⟩), .agg #[.int .i64 b.kind, .int .i64 b.val.1, .int .i64 b.val.2, .slice a2 b.ways.length c2]] W fun e w' => e = .returned (.tuple #[]) /\ ∃ d', Mca FS s d' w' M' /\ FooA s d d' w w') := fun W hW => by
   have hA := (hBw W hW).agr
   obtain ⟨z0, z1, z2, z3, z4, z5⟩ := hc W hA
   rw [ebb, ebp, emb]
   exact ⟨⟨z0, (hBw W hW).cells.lt, z2, z3, z4, z5, (hBw W hW).cells.c1⟩, (mLeave_any (hBw W hW) (by omega) b (hWI W hA) M' hM).mono fun e w' ⟨r1, d', r2, r3⟩ => ⟨r1, d', r2, (FooA.of_below hW).trans r3⟩⟩
  rw [hq] at k2
  rw [<- ebb, <- ebp, <- emb] at k1
  rw [<- emb] at k2 hlt ⊢
  rw [<- ebb, <- ebp] at q1
  rw [<- ebb] at q0
  clear h hf hb hc hLI hWI hBw hM q2 q3 q4 q5 eb hbi hfi f2 hq ebb ebp emb ebh
  generalize b.body.length = nb at *
  generalize b.ways.length = wn at *
  go_enter Tryz.func30, Tryz.ntmps30
  go_wp2_with fail
  go_quiet (fail)
  go_upto_region 1 with fail
  generalize hwd : World.drewN w nq = wd
  obtain ⟨⟨y0, y1, y2, y3, y4, y5, y6⟩, hle⟩ := HLE.out wd (by rw [<- hwd]; exact below_drawnA (Below.refl _ _) _)
  have HX : Hid _ := hle
  clear hwd HLE k1 k2 hlt q0 q1 hle
  go_wp2_with (go_at_call 44; refine Calls.mono HX.out ?_; rintro e w2 ⟨rfl, h2⟩; have H2 : Hid _ := h2; clear h2)
  exact bodyPost_ret (v := .tuple #[]) (by simp [results, Tryz.results30, go_sem]) rfl ⟨rfl, H2.out⟩
 ·rw [if_neg hq] at hM
  cases hx : b.body[M.here.bh]? with
  | none => rw [hx] at hM; cases hM
  | some x =>
  rw [hx] at hM
  simp only at hM
  have hlx := (List.getElem?_eq_some_iff.1 hx).1
  have hins : insOf FS M.on.here = some x := by
   unfold insOf Ma.on
   simp only
   rw [hf]
   simp only
   rw [hb]
   simp only
   rw [if_neg (by omega)]
   simpa using hx
  have HON : Hid (∀ W, Below w.heap.size w W -> W.cell? ⟨mb, 2, none⟩ = some (.int .i64 (bh : Int)) /\ W.frozen? ⟨mb, 2, none⟩ = false /\ mb < W.heap.size /\ ∀ w1, w1 = W.setCell ⟨mb, 2, none⟩ (.int .i64 ((bh : Int) + 1)) -> mb < w1.heap.size /\ Hid (Calls Tryz.prog 46 #[.pointer (some ⟨mb, 0, none⟩)] w1 fun e w' => ∃ ib p, e = .returned (.pointer (some ⟨ib, p, none⟩)) /\ Hid (Calls Tryz.prog 45 #[.pointer (some ⟨mb, 0, none⟩), .pointer (some ⟨ib, p, none⟩)] w' fun e w' => e = .returned (.tuple #[]) /\ ∃ d', Mca FS s d' w' M' /\ FooA s d d' w w'))) := fun W hW => by
   have hW2 := hBw W hW
   rw [emb, ebh]
   refine ⟨hW2.cells.c2, hW2.cells.fz 2, hW2.cells.lt, fun w1 hw1 => ?_⟩
   have hon := hW2.fb.on
   rw [<- hw1] at hon
   have hc1 := hW2.here hon.1 (hon.2.mono fun _ _ e => .inl e) (.inl rfl)
   refine ⟨hc1.1.cells.lt, (fLast_any hc1.1.rs.fns hc1.1.fb hc1.1.agr hins).mono ?_⟩
   rintro e w2 ⟨⟨ib, p, rfl, hIA⟩, b2⟩
   refine ⟨ib, p, rfl, (mDo_any (hc1.1.below b2) (by exact hl) hIA M' hM).mono fun e w' ⟨r1, d', r2, r3⟩ => ⟨r1, d', r2, (((FooA.of_below hW).trans hc1.2).trans (FooA.of_below b2)).trans r3⟩⟩
  rw [<- ebb, <- ebp, <- emb] at k1
  rw [<- emb, <- ebh] at k2
  rw [<- emb] at hlt f2 ⊢
  rw [<- ebb, <- ebp] at q1
  rw [<- ebb] at q0
  have hne : ((bh : Int) == ((b.body.length : Nat) : Int)) = false := by
   have : ¬ ((bh : Int) = ((b.body.length : Nat) : Int)) := by rw [ebh]; omega
   simp [this]
  have hne2 : ¬ bh = b.body.length := by omega
  have hbm : bh <= 1000000000 := by omega
  have hwb1 : IntKind.i64.wrap ((bh : Int) + 1) = (bh : Int) + 1 := by rw [IntKind.wrap_i64]; omega
  clear h hf hb hc hLI hWI hBw hM q2 q3 q4 q5 eb hbi hfi hq ebb ebp emb ebh hx hins hlx
  generalize b.body.length = nb at *
  go_enter Tryz.func30, Tryz.ntmps30
  go_wp2_with fail
  go_quiet (fail)
  go_upto_region 2 with fail
  generalize hwd : World.drewN w nq = wd
  obtain ⟨y0, y1, y2, hl1⟩ := HON.out wd (by rw [<- hwd]; exact below_drawnA (Below.refl _ _) _)
  obtain ⟨w1, hw1⟩ : ∃ w1, w1 = wd.setCell ⟨mb, 2, none⟩ (.int .i64 ((bh : Int) + 1)) := ⟨_, rfl⟩
  obtain ⟨y3, HLA⟩ := hl1 w1 hw1
  have HW1 : Hid _ := hw1
  clear hwd HON k1 k2 hlt q0 q1 hl1 hw1 f2
  go_upto_region 3 with fail
  rw [<- HW1.out]
  clear HW1 y0 y1 y2
  go_wp2_with (first
   | (go_at_call 45; refine Calls.mono HDO.out ?_; rintro e w3 ⟨rfl, h3⟩; have H3 : Hid _ := h3; clear h3)
   | (go_at_call 46; refine Calls.mono HLA.out ?_; rintro e w2 ⟨ib, p, rfl, HDO⟩))
  exact bodyPost_end (v := .tuple #[]) (by simp [results, Tryz.results30, go_sem]) rfl ⟨rfl, H3.out⟩
end Go.Proofs.YtegoemeefmjnoaaGreatDoor
