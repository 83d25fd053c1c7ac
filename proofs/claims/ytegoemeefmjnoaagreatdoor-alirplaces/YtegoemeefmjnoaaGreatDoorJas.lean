import Derived.Test.YtegoemeefmjnoaaGreatDoorJar
set_option linter.unusedVariables false
set_option linter.unusedSimpArgs false
namespace Go.Proofs.YtegoemeefmjnoaaGreatDoor
open Go.ChangeShapes Go.WideShapes Go.ChangeAt Go.RowKit Go.Maps
set_option maxRecDepth 100000 in
set_option maxHeartbeats 16000000 in
theorem mCall_any {FS s d w M} (h : Mca FS s d w M) (hl : M.wait.length <= 900000000) {ib ip : Nat} {x : Ai} (hI : InsAt s.ws ib ip x) (M' : Ma) (hM : M.call FS x = some M') :
 Calls Tryz.prog 55 #[.pointer (some ⟨s.ws.mb, 0, none⟩), .pointer (some ⟨ib, ip, none⟩)] w fun e w' => e = .returned (.tuple #[]) /\ ∃ d', Mca FS s d' w' M' /\ FooA s d d' w w' := by
 unfold Ma.call at hM
 by_cases him : x.imm < 0
 ·rw [if_pos him] at hM; cases hM
 rw [if_neg him] at hM
 obtain ⟨k, hk⟩ : ∃ k : Nat, x.imm = (k : Int) := ⟨x.imm.toNat, by omega⟩
 rw [hk, Int.toNat_natCast] at hM
 cases hf : FS[k]? with
 | none => rw [hf] at hM; cases hM
 | some f =>
 rw [hf] at hM
 simp only at hM
 split at hM
 ·cases hM
 next hnp =>
 cases hg : M.gets (x.args.take f.params.length) with
 | none => rw [hg] at hM; cases hM
 | some A =>
 rw [hg] at hM
 simp only at hM
 cases hp : (Fa.new k).puts f.params A with
 | none => rw [hp] at hM; cases hM
 | some F =>
 rw [hp] at hM
 cases hM
 obtain ⟨hkl, ef⟩ := List.getElem?_eq_some_iff.1 hf
 subst ef
 obtain ⟨pa, pc, mc, hstf, hfc, -, -, hPL, -⟩ := h.rs.fns.fn_at hkl
 obtain ⟨xa, xc, sa, sc, hst, hc, hL, hS⟩ := hI.out
 rw [hk] at hc
 obtain ⟨hga, hgv⟩ := gets_at hg
 have hnpl : FS[k].params.length <= x.args.length := by
  by_cases q : FS[k].params.length <= x.args.length
  ·exact q
  ·exact absurd (.inr (by omega)) hnp
 have hAl : A.length = FS[k].params.length := by rw [hga]; simp; omega
 have hlt := h.cells.lt
 have hB : ∀ W, Below w.heap.size w W -> Mca FS s d W M := fun W hW => h.below hW
 have hfn := h.rs.fns.fn
 have c13 := h.cells.c13
 have hki : (k : Int) < (s.fn : Int) := by rw [hfn]; omega
 have hkn : k < s.fn := by rw [hfn]; exact hkl
 have hfl := (h.rs.fns.fus w h.agr).le
 have hfcl : s.fn <= s.fc /\ s.fc <= 9223372036854775807 := by rw [hfn]; exact hfl
 obtain ⟨bbk, hbbk⟩ : ∃ b, b = s.bb k := ⟨_, rfl⟩
 obtain ⟨bok, hbok⟩ : ∃ b, b = s.bo k := ⟨_, rfl⟩
 obtain ⟨fb, hfb⟩ : ∃ b, b = s.fb := ⟨_, rfl⟩
 obtain ⟨fo, hfo⟩ : ∃ b, b = s.fo := ⟨_, rfl⟩
 obtain ⟨mb, hmb⟩ : ∃ b, b = s.ws.mb := ⟨_, rfl⟩
 obtain ⟨fn, hfn2⟩ : ∃ b, b = s.fn := ⟨_, rfl⟩
 obtain ⟨fc, hfc2⟩ : ∃ b, b = s.fc := ⟨_, rfl⟩
 obtain ⟨hi, hhi2⟩ : ∃ b, b = s.ws.hi := ⟨_, rfl⟩
 have efn : fav s (Fa.new k) none = ([.pointer (some ⟨fb, fo + k * 5, none⟩), .pointer (some ⟨bbk, bok, none⟩), .int .i64 0, .int .i64 (-1), .int .i64 (-1), .int .i64 (-1), .int .i64 (-1), .int .i64 (-1), .int .i64 (-1), .int .i64 (-1), .int .i64 (-1), .map none] : List Value) := by rw [frame_new, hfb, hfo, hbbk, hbok]
 have HFO : Hid (∀ W, Below w.heap.size w W -> Calls Tryz.prog 26 #[.pointer (some ⟨fb, fo + k * 5, none⟩)] W fun e w' => e = .returned (.agg #[.pointer (some ⟨fb, fo + k * 5, none⟩), .pointer (some ⟨bbk, bok, none⟩), .int .i64 0, .int .i64 (-1), .int .i64 (-1), .int .i64 (-1), .int .i64 (-1), .int .i64 (-1), .int .i64 (-1), .int .i64 (-1), .int .i64 (-1), .map none]) /\ Below W.heap.size W w') := fun W hW => by
  have := frameOf_any (hB W hW).rs.fns (hB W hW).agr hkl
  rw [efn] at this
  rw [hfb, hfo] at this ⊢
  exact this
 have HS0 : Hid (∀ W, Below w.heap.size w W -> (fun w' : World => w'.cell? ⟨mb, 13, none⟩ = some (.slice (some ⟨fb, fo, none⟩) fn fc) /\ w'.cell? ⟨ib, ip + 1, none⟩ = some (.int .i64 (k : Int)) /\ mb < w'.heap.size /\ ib < w'.heap.size) W) := fun W hW => by
  have q := (hB W hW).cells
  obtain ⟨z0, z1, z2, _⟩ := hc W (hB W hW).agr
  rw [hmb, hfb, hfo, hfn2, hfc2]
  exact ⟨q.c13, z2, q.lt, z0⟩
 have HST : Hid (∀ cb X X2, X.heap[cb]? = some (.cells #[.pointer none, .pointer none, .int .i64 0, .int .i64 0, .int .i64 0, .int .i64 0, .int .i64 0, .int .i64 0, .int .i64 0, .int .i64 0, .int .i64 0, .map none] 80 (0, 0)) -> Below w.heap.size w X -> w.heap.size <= cb -> X2 = X.setRow cb #[.pointer (some ⟨fb, fo + k * 5, none⟩), .pointer (some ⟨bbk, bok, none⟩), .int .i64 0, .int .i64 (-1), .int .i64 (-1), .int .i64 (-1), .int .i64 (-1), .int .i64 (-1), .int .i64 (-1), .int .i64 (-1), .int .i64 (-1), .map none] -> Hid (ClS s w cb k FS[k].params A F 0 X2)) := fun cb X X2 hz hbX hcbl hX2 => by
  refine ⟨⟨Fa.new k, none, ⟨?_, by simp [Fa.new], SlM.start _ _⟩, fun g hg => (by cases hg), by simpa using hp, rfl⟩, ?_, hcbl⟩
  ·rw [List.append_nil, efn, hX2]
   exact setRow_heap X cb _ _ _ _ hz
  ·rw [hX2]; exact below_setRowA hbX hcbl _
 have HFN : Hid (∀ W, Below w.heap.size w W -> W.cell? ⟨fb, fo + k * 5 + 1, none⟩ = some (.slice pa FS[k].params.length pc) /\ fb < W.heap.size) := fun W hW => by
  obtain ⟨z0, z1, z2⟩ := hfc W (hB W hW).agr
  rw [hfb, hfo]
  exact ⟨z1, z0⟩
 have HRD : Hid (∀ W i, Below w.heap.size w W -> (hi : i < FS[k].params.length) -> ∃ pb po ab ao, pa = some ⟨pb, po, none⟩ /\ pb < W.heap.size /\ W.cell? ⟨pb, po + i * 2, none⟩ = some (.int .i64 FS[k].params[i].1) /\ W.cell? ⟨pb, po + i * 2 + 1, none⟩ = some (.int .i64 FS[k].params[i].2) /\ xa = some ⟨ab, ao, none⟩ /\ ab < W.heap.size /\ ∃ l : Int × Int, W.cell? ⟨ab, ao + i * 2, none⟩ = some (.int .i64 l.1) /\ W.cell? ⟨ab, ao + i * 2 + 1, none⟩ = some (.int .i64 l.2) /\ W.cell? ⟨ib, ip + 4, none⟩ = some (.slice xa x.args.length xc) /\ ib < W.heap.size /\ ∃ v, A[i]? = some v /\ M.get l = some v) := fun W i hW hi => by
  have hA := (hB W hW).agr
  obtain ⟨pb, po, e1, e2, e3, e4⟩ := (hPL W hA).at hi
  have hix : i < x.args.length := by omega
  obtain ⟨ab, ao, f1, f2, f3, f4⟩ := (hL W hA).at hix
  obtain ⟨z0, _, _, _, _, z5, _⟩ := hc W hA
  have hv := hgv i (by simp; omega)
  rw [List.getElem_take] at hv
  exact ⟨pb, po, ab, ao, e1, e2, e3, e4, f1, f2, x.args[i], f3, f4, z5, z0, A[i]'(by omega), by simp [hAl, hi], by rw [hv]; simp [hAl, hi]⟩
 have HGT : Hid (∀ W l v, Below w.heap.size w W -> M.get l = some v -> Calls Tryz.prog 52 #[.pointer (some ⟨mb, 0, none⟩), .agg #[.int .i64 l.1, .int .i64 l.2]] W fun e w' => e = .returned (.int .i64 v) /\ Below W.heap.size W w') := fun W l v hW hv => by
  rw [hmb]
  exact fGet_any (hB W hW).fb l v hv
 have hpcm : FS[k].params.length <= 9223372036854775807 := by
  have := (hPL w h.agr).le
  have := (hPL w h.agr).mx
  simp at *
  omega
 have hxm : x.args.length <= 9223372036854775807 := by
  have := (hL w h.agr).le
  have := (hL w h.agr).mx
  simp at *
  omega
 obtain ⟨np, hnp2⟩ : ∃ np, np = FS[k].params.length := ⟨_, rfl⟩
 obtain ⟨an, han⟩ : ∃ an, an = x.args.length := ⟨_, rfl⟩
 obtain ⟨va, vc, evw, -, hvc⟩ := own_slice h.rs.wai.row.out
 have hzl : (List.zipWith (fav s) M.wait d.mw).length = M.wait.length := by simp [h.rs.wai.len]
 rw [hzl] at evw
 obtain ⟨r0, r1, r2, r3, r4, r5, r6, r7, hr⟩ := list8 h.rg
 obtain ⟨hp0, ehp0⟩ : ∃ b, b = s.fo + M.here.fi * 5 := ⟨_, rfl⟩
 obtain ⟨hb1, ehb1⟩ : ∃ b, b = s.bb M.here.fi := ⟨_, rfl⟩
 obtain ⟨hp1, ehp1⟩ : ∃ b, b = s.bo M.here.fi + M.here.bk * 5 := ⟨_, rfl⟩
 obtain ⟨hbh, ehbh⟩ : ∃ b, b = (M.here.bh : Int) := ⟨_, rfl⟩
 obtain ⟨hm, ehm⟩ : ∃ b, b = d.mh := ⟨_, rfl⟩
 obtain ⟨vn, evn⟩ : ∃ b, b = M.wait.length := ⟨_, rfl⟩
 obtain ⟨ZW, eZW⟩ : ∃ b, b = List.zipWith (fav s) M.wait d.mw := ⟨_, rfl⟩
 have efh : fav s M.here d.mh = ([.pointer (some ⟨fb, hp0, none⟩), .pointer (some ⟨hb1, hp1, none⟩), .int .i64 hbh, .int .i64 r0, .int .i64 r1, .int .i64 r2, .int .i64 r3, .int .i64 r4, .int .i64 r5, .int .i64 r6, .int .i64 r7, .map hm] : List Value) := by simp [fav, hr, hfb, ehp0, ehb1, ehp1, ehbh, ehm]
 have HS6 : Hid (∀ W, Below w.heap.size w W -> (fun w' : World => w'.cell? ⟨mb, 12, none⟩ = some (.slice va vn vc) /\ w'.cell? ⟨mb, 0, none⟩ = some (.pointer (some ⟨fb, hp0, none⟩)) /\ w'.cell? ⟨mb, 1, none⟩ = some (.pointer (some ⟨hb1, hp1, none⟩)) /\ w'.cell? ⟨mb, 2, none⟩ = some (.int .i64 hbh) /\ w'.cell? ⟨mb, 3, none⟩ = some (.int .i64 r0) /\ w'.cell? ⟨mb, 4, none⟩ = some (.int .i64 r1) /\ w'.cell? ⟨mb, 5, none⟩ = some (.int .i64 r2) /\ w'.cell? ⟨mb, 6, none⟩ = some (.int .i64 r3) /\ w'.cell? ⟨mb, 7, none⟩ = some (.int .i64 r4) /\ w'.cell? ⟨mb, 8, none⟩ = some (.int .i64 r5) /\ w'.cell? ⟨mb, 9, none⟩ = some (.int .i64 r6) /\ w'.cell? ⟨mb, 10, none⟩ = some (.int .i64 r7) /\ w'.cell? ⟨mb, 11, none⟩ = some (.map hm) /\ mb < w'.heap.size) W) := fun W hW => by
  have q := (hB W hW).boxQ
  rw [efh] at q
  have q12 := (hB W hW).cells.c12
  rw [evw, <- evn] at q12
  rw [hmb]
  exact ⟨q12, cell_arr q rfl, cell_arr q rfl, cell_arr q rfl, cell_arr q rfl, cell_arr q rfl, cell_arr q rfl, cell_arr q rfl, cell_arr q rfl, cell_arr q rfl, cell_arr q rfl, cell_arr q rfl, cell_arr q rfl, (hB W hW).cells.lt⟩
 have HRW0 : Hid (∀ W, Below w.heap.size w W -> Row W hi 80 12 (.slice va vn vc) ZW /\ hi <= W.heap.size) := fun W hW => by
  have q := (hB W hW).rs.wai.row
  rw [evw, <- evn, <- eZW, <- hhi2] at q
  exact ⟨q, by rw [hhi2]; exact (hB W hW).rs.wm.rest.hi.1⟩
 have HPU0 : Hid (∀ wq cb F m, Below w.heap.size w wq -> FB s [] 80 wq cb F m -> (∀ g, m = some g -> w.heap.size <= g) -> w.heap.size <= cb -> ∀ WB w7 v7, Below wq.heap.size wq WB -> Row w7 hi 80 12 v7 (ZW ++ [([.pointer (some ⟨fb, hp0, none⟩), .pointer (some ⟨hb1, hp1, none⟩), .int .i64 hbh, .int .i64 r0, .int .i64 r1, .int .i64 r2, .int .i64 r3, .int .i64 r4, .int .i64 r5, .int .i64 r6, .int .i64 r7, .map hm] : List Value)]) -> GI hi WB w7 (.slice va vn vc) v7 -> w7.cell? ⟨mb, 12, none⟩ = some (.slice va vn vc) /\ w7.frozen? ⟨mb, 12, none⟩ = false /\ mb < w7.heap.size /\ Hid (∀ w8, w8 = w7.setCell ⟨mb, 12, none⟩ v7 -> FB s [] 80 w8 cb F m /\ Calls Tryz.prog 25 #[.pointer (some ⟨mb, 0, none⟩), .agg (fav s F m).toArray] w8 fun e w' => e = .returned (.tuple #[]) /\ ∃ d', Mca FS s d' w' (({ M with wait := M.wait ++ [M.here] } : Ma).begin F) /\ FooA s d d' w w')) := fun wq cb F m bq hFB hmm hcb WB w7 v7 bWB hrow hgi => by
  have bw := bq.trans (bWB.mono bq.size)
  rw [hhi2, eZW, <- efh] at hrow
  rw [evn, <- evw, hhi2] at hgi
  have hbm : w7.heap[s.ws.mb]? = WB.heap[s.ws.mb]? := hgi.bel.block _ (hB WB bw).rs.wm.rest.hi.2.1
  have q12 := (hB WB bw).cells.c12
  rw [evn, <- evw, hmb]
  refine ⟨(World.cell?_of_block (w := WB) hbm).trans q12, fz_of (hbm.trans (hB WB bw).boxQ), by have := (hB WB bw).cells.lt; have := hgi.size; omega, fun w8 hw8 => ?_⟩
  exact h.called hl bw h (FooA.refl _ _ _) (hFB.below bWB) hmm hcb w7 w8 v7 hrow hgi hw8
 have HON : Hid (∀ u ∈ ([.pointer (some ⟨fb, hp0, none⟩), .pointer (some ⟨hb1, hp1, none⟩), .int .i64 hbh, .int .i64 r0, .int .i64 r1, .int .i64 r2, .int .i64 r3, .int .i64 r4, .int .i64 r5, .int .i64 r6, .int .i64 r7, .map hm] : List Value), u.oneCell' = true) := by rw [<- efh]; exact fav_one s M.here d.mh
 have hlx : ZW.length + 1 <= 1000000000 := by rw [eZW, hzl]; omega
 have Sz : (fun w' : World => w'.cell? ⟨mb, 13, none⟩ = some (.slice (some ⟨fb, fo, none⟩) fn fc) /\ w'.cell? ⟨ib, ip + 1, none⟩ = some (.int .i64 (k : Int)) /\ mb < w'.heap.size /\ ib < w'.heap.size) w.drew := HS0.out w.drew (Below.refl _ _).drew
 have HAL : Hid (A.length = np) := by rw [hnp2]; exact hAl
 rw [<- hfn2] at hki hkn
 rw [<- hfn2, <- hfc2] at hfcl
 rw [<- hnp2] at HFN hpcm hnpl
 rw [<- han] at HRD hxm hnpl
 have HNP : Hid (np = FS[k].params.length) := hnp2
 have HFE : Hid (fb = s.fb /\ fo = s.fo) := ⟨hfb, hfo⟩
 rw [<- hmb]
 generalize FS[k].params = PP at *
 clear h hf hg hp hkl hfc hPL hc hL hS hst hstf hI hga hgv hAl hB hfn c13 hfl efn evw hzl hr efh hlt hnp him hk hfb hfo hmb hfn2 hfc2 hhi2 hbbk hbok ehp0 ehb1 ehp1 ehbh ehm evn eZW hnp2 han hvc
 go_enter Tryz.func55, Tryz.ntmps55
 go_upto_region 0 with fail
 refine lec_start (S := fun w' : World => w'.cell? ⟨mb, 13, none⟩ = some (.slice (some ⟨fb, fo, none⟩) fn fc) /\ w'.cell? ⟨ib, ip + 1, none⟩ = some (.int .i64 (k : Int)) /\ mb < w'.heap.size /\ ib < w'.heap.size) (z := 9) (by kernel_rfl) ?_
 show lec _ _ _ _ _ 12 _ _ _
 try simp only [List.size_toArray, List.length_cons, List.length_nil, Array.replicate]
 refine lec_takeP (i := 0) (v := ?v0z) rfl (by kernel_rfl) (by kernel_rfl) (by kernel_rfl) (by kernel_rfl) (fun _ _ _ h => h) (.inl ⟨by rfl, ?hy0z⟩) Sz ?rest0z
 case hy0z =>
  rintro w' _
  go_simp
  all_goals with_reducible rfl
 try simp only [Act.put, List.getElem_toArray, List.getElem_cons_succ, List.getElem_cons_zero, List.setIfInBounds_toArray, List.set_cons_zero, List.set_cons_succ]
 refine lec_takeP (i := 1) (v := ?v1z) rfl (by kernel_rfl) (by kernel_rfl) (by kernel_rfl) (by kernel_rfl) (fun _ _ _ h => h) (.inl ⟨by rfl, ?hy1z⟩) Sz ?rest1z
 case hy1z =>
  rintro w' _
  go_simp
  all_goals with_reducible rfl
 try simp only [Act.put, List.getElem_toArray, List.getElem_cons_succ, List.getElem_cons_zero, List.setIfInBounds_toArray, List.set_cons_zero, List.set_cons_succ]
 refine lec_takeP (i := 2) (v := ?v2z) rfl (by kernel_rfl) (by kernel_rfl) (by kernel_rfl) (by kernel_rfl) (fun _ _ _ h => h) (.inl ⟨by rfl, ?hy2z⟩) Sz ?rest2z
 case hy2z =>
  rintro w' _
  go_simp
  all_goals with_reducible rfl
 try simp only [Act.put, List.getElem_toArray, List.getElem_cons_succ, List.getElem_cons_zero, List.setIfInBounds_toArray, List.set_cons_zero, List.set_cons_succ]
 refine lec_takeT [8, 9, 11] (i := 3) (v := ?v3z) rfl (by kernel_rfl) (by kernel_rfl) (by kernel_rfl) (by kernel_rfl) (fun _ _ _ h => h) (.inl ⟨by rfl, ?hy3z⟩) Sz ?rest3z
 case hy3z =>
  rintro w' ⟨h1, h2, h3, h4⟩
  go_simp
  all_goals with_reducible rfl
 try simp only [Act.put, List.getElem_toArray, List.getElem_cons_succ, List.getElem_cons_zero, List.setIfInBounds_toArray, List.set_cons_zero, List.set_cons_succ]
 refine lec_takeP (i := 4) (v := ?v4z) rfl (by kernel_rfl) (by kernel_rfl) (by kernel_rfl) (by kernel_rfl) (fun _ _ _ h => h) (.inl ⟨by rfl, ?hy4z⟩) Sz ?rest4z
 case hy4z =>
  rintro w' _
  go_simp
  all_goals with_reducible rfl
 try simp only [Act.put, List.getElem_toArray, List.getElem_cons_succ, List.getElem_cons_zero, List.setIfInBounds_toArray, List.set_cons_zero, List.set_cons_succ]
 refine lec_takeP (i := 5) (v := ?v5z) rfl (by kernel_rfl) (by kernel_rfl) (by kernel_rfl) (by kernel_rfl) (fun _ _ _ h => h) (.inl ⟨by rfl, ?hy5z⟩) Sz ?rest5z
 case hy5z =>
  rintro w' _
  go_simp
  all_goals with_reducible rfl
 try simp only [Act.put, List.getElem_toArray, List.getElem_cons_succ, List.getElem_cons_zero, List.setIfInBounds_toArray, List.set_cons_zero, List.set_cons_succ]
 refine lec_takeP (i := 6) (v := ?v6z) rfl (by kernel_rfl) (by kernel_rfl) (by kernel_rfl) (by kernel_rfl) (fun _ _ _ h => h) (.inl ⟨by rfl, ?hy6z⟩) Sz ?rest6z
 case hy6z =>
  rintro w' _
  go_simp
  all_goals with_reducible rfl
 try simp only [Act.put, List.getElem_toArray, List.getElem_cons_succ, List.getElem_cons_zero, List.setIfInBounds_toArray, List.set_cons_zero, List.set_cons_succ]
 refine lec_takeT [8, 9, 11] (i := 7) (v := ?v7z) rfl (by kernel_rfl) (by kernel_rfl) (by kernel_rfl) (by kernel_rfl) (fun _ _ _ h => h) (.inl ⟨by rfl, ?hy7z⟩) Sz ?rest7z
 case hy7z =>
  rintro w' ⟨h1, h2, h3, h4⟩
  go_simp
  all_goals with_reducible rfl
 try simp only [Act.put, List.getElem_toArray, List.getElem_cons_succ, List.getElem_cons_zero, List.setIfInBounds_toArray, List.set_cons_zero, List.set_cons_succ]
 refine lec_takeP (i := 8) (v := ?v8z) rfl (by kernel_rfl) (by kernel_rfl) (by kernel_rfl) (by kernel_rfl) (fun _ _ _ h => h) (.inl ⟨by rfl, ?hy8z⟩) Sz ?rest8z
 case hy8z =>
  rintro w' _
  go_simp
  all_goals with_reducible rfl
 try simp only [Act.put, List.getElem_toArray, List.getElem_cons_succ, List.getElem_cons_zero, List.setIfInBounds_toArray, List.set_cons_zero, List.set_cons_succ]
 apply two_waysA (A := fun cb X => X.heap[cb]? = some (.cells #[.pointer none, .pointer none, .int .i64 0, .int .i64 0, .int .i64 0, .int .i64 0, .int .i64 0, .int .i64 0, .int .i64 0, .int .i64 0, .int .i64 0, .map none] 80 (0, 0)) /\ Below w.heap.size w X /\ w.heap.size <= cb)
 case h =>
  intro key
  refine lec_two (i := 9) (j := 10) rfl rfl (by kernel_rfl) ?_ ?_
  ·intro K9 hK9
   rw [if_pos (by rfl)]
   go_simp
   refine Calls.mono (HFO.out w.drew (Below.refl _ _).drew) ?_
   rintro e w5 ⟨rfl, b5⟩
   have HB5 : Hid _ := b5
   clear b5
   go_simp
   refine hK9 _ _ (fun h => by cases h) ?_
   clear hK9
   try simp only [Act.put, List.getElem_toArray, List.getElem_cons_succ, List.getElem_cons_zero, List.setIfInBounds_toArray, List.set_cons_zero, List.set_cons_succ]
   refine lec_one (i := 10) rfl (by kernel_rfl) ?_
   intro K10 hK10
   rw [if_pos (by rfl)]
   go_simp
   obtain ⟨X, hX⟩ : ∃ X, X = w5.alloc (.cells #[.pointer none, .pointer none, .int .i64 0, .int .i64 0, .int .i64 0, .int .i64 0, .int .i64 0, .int .i64 0, .int .i64 0, .int .i64 0, .int .i64 0, .map none] 80) := ⟨_, rfl⟩
   obtain ⟨cb, hcb⟩ : ∃ cb, cb = w5.heap.size := ⟨_, rfl⟩
   have HA : Hid (X.heap[cb]? = some (.cells #[.pointer none, .pointer none, .int .i64 0, .int .i64 0, .int .i64 0, .int .i64 0, .int .i64 0, .int .i64 0, .int .i64 0, .int .i64 0, .int .i64 0, .map none] 80 (0, 0)) /\ Below w.heap.size w X /\ w.heap.size <= cb) := by
    rw [hX, hcb]
    exact ⟨heap_alloc_new _ _, (show Below w.heap.size w w5 from (Below.refl _ _).drew.trans HB5.out).alloc HB5.out.size _, HB5.out.size⟩
   rw [<- hX]
   refine hK10 _ _ (fun h => by cases h) ?_
   rw [<- hcb]
   clear hK10 hX hcb
   try simp only [Act.put, List.getElem_toArray, List.getElem_cons_succ, List.getElem_cons_zero, List.setIfInBounds_toArray, List.set_cons_zero, List.set_cons_succ]
   refine lec_l (l' := #[true, true, true, true, true, true, true, true, true, true, true, false]) (by kernel_rfl) ?_
   exact key cb X HA.out
  ·intro K10 hK10
   rw [if_pos (by rfl)]
   go_simp
   obtain ⟨X1, hX1⟩ : ∃ X1, X1 = (w.alloc (.cells #[.pointer none, .pointer none, .int .i64 0, .int .i64 0, .int .i64 0, .int .i64 0, .int .i64 0, .int .i64 0, .int .i64 0, .int .i64 0, .int .i64 0, .map none] 80)).drew := ⟨_, rfl⟩
   have HB1 : Hid (Below w.heap.size w X1) := by rw [hX1]; exact (below_newA w _).drew
   have HZ1 : Hid (X1.heap[w.heap.size]? = some (.cells #[.pointer none, .pointer none, .int .i64 0, .int .i64 0, .int .i64 0, .int .i64 0, .int .i64 0, .int .i64 0, .int .i64 0, .int .i64 0, .int .i64 0, .map none] 80 (0, 0)) /\ w.heap.size < X1.heap.size) := by rw [hX1]; exact ⟨heap_alloc_new w _, by show w.heap.size < (w.alloc _).heap.size; simp⟩
   rw [<- hX1]
   have Sx := HS0.out X1 HB1.out
   refine hK10 _ _ (fun _ => Sx) ?_
   obtain ⟨cb, hcb⟩ : ∃ cb, cb = w.heap.size := ⟨_, rfl⟩
   rw [<- hcb]
   have HCB : Hid (cb = w.heap.size) := hcb
   clear hK10 hX1 hcb
   try simp only [Act.put, List.getElem_toArray, List.getElem_cons_succ, List.getElem_cons_zero, List.setIfInBounds_toArray, List.set_cons_zero, List.set_cons_succ]
   refine lec_one (i := 9) rfl (by kernel_rfl) ?_
   intro K9 hK9
   rw [if_pos (by rfl)]
   go_simp
   refine Calls.mono (HFO.out X1 HB1.out) ?_
   rintro e w5 ⟨rfl, b5⟩
   have HB5 : Hid _ := b5
   have HA : Hid (w5.heap[cb]? = some (.cells #[.pointer none, .pointer none, .int .i64 0, .int .i64 0, .int .i64 0, .int .i64 0, .int .i64 0, .int .i64 0, .int .i64 0, .int .i64 0, .int .i64 0, .map none] 80 (0, 0)) /\ Below w.heap.size w w5 /\ w.heap.size <= cb) := by
    rw [HCB.out]
    exact ⟨(b5.block _ HZ1.out.2).trans HZ1.out.1, HB1.out.trans (b5.mono HB1.out.size), Nat.le_refl _⟩
   clear b5
   go_simp
   refine hK9 _ _ (fun h => by cases h) ?_
   clear hK9
   try simp only [Act.put, List.getElem_toArray, List.getElem_cons_succ, List.getElem_cons_zero, List.setIfInBounds_toArray, List.set_cons_zero, List.set_cons_succ]
   refine lec_l (l' := #[true, true, true, true, true, true, true, true, true, true, true, false]) (by kernel_rfl) ?_
   exact key cb w5 HA.out
 case g =>
 intro cb X hAX
 obtain ⟨hz, hbX, hcbl⟩ := hAX
 refine lec_one (i := 11) rfl (by kernel_rfl) ?_
 intro K11 hK11
 rw [if_pos (by rfl)]
 refine wp_store_row _ _ _ rfl cb #[.pointer (some ⟨fb, fo + k * 5, none⟩), .pointer (some ⟨bbk, bok, none⟩), .int .i64 0, .int .i64 (-1), .int .i64 (-1), .int .i64 (-1), .int .i64 (-1), .int .i64 (-1), .int .i64 (-1), .int .i64 (-1), .int .i64 (-1), .map none] rfl rfl 80 _ hz (by kernel_rfl) rfl (by kernel_rfl) ?_
 obtain ⟨X2, hX2⟩ : ∃ X2, X2 = X.setRow cb #[.pointer (some ⟨fb, fo + k * 5, none⟩), .pointer (some ⟨bbk, bok, none⟩), .int .i64 0, .int .i64 (-1), .int .i64 (-1), .int .i64 (-1), .int .i64 (-1), .int .i64 (-1), .int .i64 (-1), .int .i64 (-1), .int .i64 (-1), .map none] := ⟨_, rfl⟩
 rw [<- hX2]
 refine hK11 _ _ (fun h => by cases h) ?_
 have HCL := HST.out cb X X2 hz hbX hcbl hX2
 clear hK11 hz hbX hX2
 refine lec_done (by kernel_rfl) ?_
 clear HFO HS0 HST Sz
 have lcb := HCL.out.lt
 have c0 := HCL.out.fn
 rw [<- HFE.out.1, <- HFE.out.2] at c0
 obtain ⟨c1, lfb⟩ := HFN.out X2 HCL.out.low
 go_wp2_with fail
 go_loopw [23] (fun v wr => ∃ i : Nat, i <= np /\ v = .int .i64 (i : Int) /\ Hid (ClS s w cb k PP A F i wr)) (fun v _ => np - (intOf v).toNat)
 case atStart => exact ⟨0, by omega, rfl, HCL⟩
 case round =>
  clear HCL lcb c0 c1 lfb
  obtain ⟨i, hin, rfl, HC⟩ := hrel
  obtain ⟨wq, rfl⟩ : ∃ wq, wq = wr := ⟨_, rfl⟩
  by_cases hilt : i < np
  ·have hip : i < PP.length := by rw [<- HNP.out]; exact hilt
   obtain ⟨pb, po, ab, ao, epa, lpb, y1, y2, exa, lab, l, y3, y4, y5, lib, xv, hxv, hgx⟩ := HRD.out wq i HC.out.low hip
   subst epa
   subst exa
   obtain ⟨a1, a2⟩ := l
   simp only at y3 y4
   obtain ⟨p1, ep1⟩ : ∃ p1, p1 = PP[i].1 := ⟨_, rfl⟩
   obtain ⟨p2, ep2⟩ : ∃ p2, p2 = PP[i].2 := ⟨_, rfl⟩
   rw [<- ep1] at y1
   rw [<- ep2] at y2
   obtain ⟨W1, hW1⟩ : ∃ W1, W1 = wq.alloc (.cells #[.int .i64 p1, .int .i64 p2] 24) := ⟨_, rfl⟩
   obtain ⟨lb, hlb⟩ : ∃ lb, lb = wq.heap.size := ⟨_, rfl⟩
   have b1 : Below wq.heap.size wq W1 := by rw [hW1]; exact below_newA wq _
   have hx1 : W1.heap[lb]? = some (.cells #[.int .i64 p1, .int .i64 p2] 24 (0, 0)) := by rw [hW1, hlb]; exact heap_alloc_new wq _
   have HSS : Hid (∀ w5, Below W1.drew.heap.size W1.drew w5 -> (fun w' : World => w'.cell? ⟨lb, 0, none⟩ = some (.int .i64 p1) /\ w'.cell? ⟨lb, 1, none⟩ = some (.int .i64 p2) /\ w'.cell? ⟨ib, ip + 4, none⟩ = some (.slice (some ⟨ab, ao, none⟩) an xc) /\ w'.cell? ⟨ab, ao + i * 2, none⟩ = some (.int .i64 a1) /\ w'.cell? ⟨ab, ao + i * 2 + 1, none⟩ = some (.int .i64 a2) /\ lb < w'.heap.size /\ ib < w'.heap.size /\ ab < w'.heap.size /\ mb < w'.heap.size /\ cb < w'.heap.size) w5) := fun w5 b5 => by
    have hs1 : W1.drew.heap.size = W1.heap.size := rfl
    have b9 : Below wq.heap.size wq w5 := b1.trans (((Below.refl _ _).drew.trans (b5.mono (by rw [hs1]; exact Nat.le_refl _))).mono b1.size)
    have cc := fun (q : Addr) (hq : q.block < wq.heap.size) => b9.cell (p := q) hq
    have hl1 : lb < W1.heap.size := (gl hx1)
    have hx5 : w5.heap[lb]? = some (.cells #[.int .i64 p1, .int .i64 p2] 24 (0, 0)) := (b5.block lb hl1).trans hx1
    have hs := b9.size
    have hm := HS6.out wq HC.out.low
    have hlc := HC.out.lt
    refine ⟨cell_arr hx5 rfl, cell_arr hx5 rfl, (cc ⟨ib, ip + 4, none⟩ lib).trans y5, (cc ⟨ab, ao + i * 2, none⟩ lab).trans y3, (cc ⟨ab, ao + i * 2 + 1, none⟩ lab).trans y4, (gl hx5), by omega, by omega, ?_, by omega⟩
    have := hm.2.2.2.2.2.2.2.2.2.2.2.2.2
    omega
   have Sy : (fun w' : World => w'.cell? ⟨lb, 0, none⟩ = some (.int .i64 p1) /\ w'.cell? ⟨lb, 1, none⟩ = some (.int .i64 p2) /\ w'.cell? ⟨ib, ip + 4, none⟩ = some (.slice (some ⟨ab, ao, none⟩) an xc) /\ w'.cell? ⟨ab, ao + i * 2, none⟩ = some (.int .i64 a1) /\ w'.cell? ⟨ab, ao + i * 2 + 1, none⟩ = some (.int .i64 a2) /\ lb < w'.heap.size /\ ib < w'.heap.size /\ ab < w'.heap.size /\ mb < w'.heap.size /\ cb < w'.heap.size) W1.drew := HSS.out W1.drew (Below.refl _ _)
   have bw1 : Below w.heap.size w W1.drew := HC.out.low.trans ((b1.trans ((Below.refl _ _).drew.mono b1.size)).mono HC.out.low.size)
   have HGE : Hid (Calls Tryz.prog 52 #[.pointer (some ⟨mb, 0, none⟩), .agg #[.int .i64 a1, .int .i64 a2]] W1.drew fun e w' => e = .returned (.int .i64 xv) /\ Below W1.drew.heap.size W1.drew w') := HGT.out W1.drew (a1, a2) xv bw1 hgx
   have HSE : Hid (∀ w5, Below W1.drew.heap.size W1.drew w5 -> Calls Tryz.prog 57 #[.pointer (some ⟨cb, 0, none⟩), .agg #[.int .i64 p1, .int .i64 p2], .int .i64 xv] w5 fun e w' => e = .returned (.tuple #[]) /\ ClS s w cb k PP A F (i + 1) w') := fun w5 b5 => by
    have hcl := ((HC.out.below b1).below (Below.refl _ _).drew).below b5
    rw [ep1, ep2]
    exact hcl.set hip hxv
   have hii : (i : Int) < (np : Int) := by omega
   have hia : (i : Int) < (an : Int) := by omega
   have hian : i < an := by omega
   clear HC hxv hgx ep1 ep2 hx1 b1 bw1 hip
   go_upto_region 4 with fail
   rw [<- hW1, <- hlb]
   clear hW1 hlb
   refine lec_start (S := fun w' : World => w'.cell? ⟨lb, 0, none⟩ = some (.int .i64 p1) /\ w'.cell? ⟨lb, 1, none⟩ = some (.int .i64 p2) /\ w'.cell? ⟨ib, ip + 4, none⟩ = some (.slice (some ⟨ab, ao, none⟩) an xc) /\ w'.cell? ⟨ab, ao + i * 2, none⟩ = some (.int .i64 a1) /\ w'.cell? ⟨ab, ao + i * 2 + 1, none⟩ = some (.int .i64 a2) /\ lb < w'.heap.size /\ ib < w'.heap.size /\ ab < w'.heap.size /\ mb < w'.heap.size /\ cb < w'.heap.size) (z := 12) (by kernel_rfl) ?_
   show lec _ _ _ _ _ 13 _ _ _
   try simp only [List.size_toArray, List.length_cons, List.length_nil, Array.replicate]
   refine lec_takeT [12] (i := 0) (v := ?v0y) rfl (by kernel_rfl) (by kernel_rfl) (by kernel_rfl) (by kernel_rfl) (fun _ _ _ h => h) (.inl ⟨by rfl, ?hy0y⟩) Sy ?rest0y
   case hy0y =>
    rintro w' ⟨h1, h2, h3, h4, h5, h6, h7, h8, h9, h10⟩
    go_simp
    all_goals with_reducible rfl
   try simp only [Act.put, List.getElem_toArray, List.getElem_cons_succ, List.getElem_cons_zero, List.setIfInBounds_toArray, List.set_cons_zero, List.set_cons_succ]
   refine lec_takeP (i := 1) (v := ?v1y) rfl (by kernel_rfl) (by kernel_rfl) (by kernel_rfl) (by kernel_rfl) (fun _ _ _ h => h) (.inl ⟨by rfl, ?hy1y⟩) Sy ?rest1y
   case hy1y =>
    rintro w' _
    go_simp
    all_goals with_reducible rfl
   try simp only [Act.put, List.getElem_toArray, List.getElem_cons_succ, List.getElem_cons_zero, List.setIfInBounds_toArray, List.set_cons_zero, List.set_cons_succ]
   refine lec_takeP (i := 2) (v := ?v2y) rfl (by kernel_rfl) (by kernel_rfl) (by kernel_rfl) (by kernel_rfl) (fun _ _ _ h => h) (.inl ⟨by rfl, ?hy2y⟩) Sy ?rest2y
   case hy2y =>
    rintro w' _
    go_simp
    all_goals with_reducible rfl
   try simp only [Act.put, List.getElem_toArray, List.getElem_cons_succ, List.getElem_cons_zero, List.setIfInBounds_toArray, List.set_cons_zero, List.set_cons_succ]
   refine lec_takeP (i := 3) (v := ?v3y) rfl (by kernel_rfl) (by kernel_rfl) (by kernel_rfl) (by kernel_rfl) (fun _ _ _ h => h) (.inl ⟨by rfl, ?hy3y⟩) Sy ?rest3y
   case hy3y =>
    rintro w' _
    go_simp
    all_goals with_reducible rfl
   try simp only [Act.put, List.getElem_toArray, List.getElem_cons_succ, List.getElem_cons_zero, List.setIfInBounds_toArray, List.set_cons_zero, List.set_cons_succ]
   refine lec_takeP (i := 4) (v := ?v4y) rfl (by kernel_rfl) (by kernel_rfl) (by kernel_rfl) (by kernel_rfl) (fun _ _ _ h => h) (.inl ⟨by rfl, ?hy4y⟩) Sy ?rest4y
   case hy4y =>
    rintro w' _
    go_simp
    all_goals with_reducible rfl
   try simp only [Act.put, List.getElem_toArray, List.getElem_cons_succ, List.getElem_cons_zero, List.setIfInBounds_toArray, List.set_cons_zero, List.set_cons_succ]
   refine lec_takeP (i := 5) (v := ?v5y) rfl (by kernel_rfl) (by kernel_rfl) (by kernel_rfl) (by kernel_rfl) (fun _ _ _ h => h) (.inl ⟨by rfl, ?hy5y⟩) Sy ?rest5y
   case hy5y =>
    rintro w' _
    go_simp
    all_goals with_reducible rfl
   try simp only [Act.put, List.getElem_toArray, List.getElem_cons_succ, List.getElem_cons_zero, List.setIfInBounds_toArray, List.set_cons_zero, List.set_cons_succ]
   refine lec_takeP (i := 6) (v := ?v6y) rfl (by kernel_rfl) (by kernel_rfl) (by kernel_rfl) (by kernel_rfl) (fun _ _ _ h => h) (.inl ⟨by rfl, ?hy6y⟩) Sy ?rest6y
   case hy6y =>
    rintro w' _
    go_simp
    all_goals with_reducible rfl
   try simp only [Act.put, List.getElem_toArray, List.getElem_cons_succ, List.getElem_cons_zero, List.setIfInBounds_toArray, List.set_cons_zero, List.set_cons_succ]
   refine lec_takeT [9, 10, 11, 12] (i := 7) (v := ?v7y) rfl (by kernel_rfl) (by kernel_rfl) (by kernel_rfl) (by kernel_rfl) (fun _ _ _ h => h) (.inl ⟨by rfl, ?hy7y⟩) Sy ?rest7y
   case hy7y =>
    rintro w' ⟨h1, h2, h3, h4, h5, h6, h7, h8, h9, h10⟩
    go_simp
    all_goals with_reducible rfl
   try simp only [Act.put, List.getElem_toArray, List.getElem_cons_succ, List.getElem_cons_zero, List.setIfInBounds_toArray, List.set_cons_zero, List.set_cons_succ]
   refine lec_takeP (i := 8) (v := ?v8y) rfl (by kernel_rfl) (by kernel_rfl) (by kernel_rfl) (by kernel_rfl) (fun _ _ _ h => h) (.inl ⟨by rfl, ?hy8y⟩) Sy ?rest8y
   case hy8y =>
    rintro w' _
    go_simp
    all_goals with_reducible rfl
   try simp only [Act.put, List.getElem_toArray, List.getElem_cons_succ, List.getElem_cons_zero, List.setIfInBounds_toArray, List.set_cons_zero, List.set_cons_succ]
   refine lec_takeP (i := 9) (v := ?v9y) rfl (by kernel_rfl) (by kernel_rfl) (by kernel_rfl) (by kernel_rfl) (fun _ _ _ h => h) (.inl ⟨by rfl, ?hy9y⟩) Sy ?rest9y
   case hy9y =>
    rintro w' _
    go_simp
    all_goals with_reducible rfl
   try simp only [Act.put, List.getElem_toArray, List.getElem_cons_succ, List.getElem_cons_zero, List.setIfInBounds_toArray, List.set_cons_zero, List.set_cons_succ]
   refine lec_takeT [11, 12] (i := 10) (v := ?v10y) rfl (by kernel_rfl) (by kernel_rfl) (by kernel_rfl) (by kernel_rfl) (fun _ _ _ h => h) (.inl ⟨by rfl, ?hy10y⟩) Sy ?rest10y
   case hy10y =>
    rintro w' ⟨h1, h2, h3, h4, h5, h6, h7, h8, h9, h10⟩
    go_simp
    all_goals with_reducible rfl
   try simp only [Act.put, List.getElem_toArray, List.getElem_cons_succ, List.getElem_cons_zero, List.setIfInBounds_toArray, List.set_cons_zero, List.set_cons_succ]
   refine lec_one (i := 11) rfl (by kernel_rfl) ?_
   intro K11 hK11
   rw [if_pos (by rfl)]
   go_simp
   refine Calls.mono HGE.out ?_
   rintro e w5 ⟨rfl, b5⟩
   have HB5 : Hid _ := b5
   have Sq := HSS.out w5 b5
   clear b5
   go_simp
   refine hK11 _ _ (fun _ => Sq) ?_
   clear hK11
   try simp only [Act.put, List.getElem_toArray, List.getElem_cons_succ, List.getElem_cons_zero, List.setIfInBounds_toArray, List.set_cons_zero, List.set_cons_succ]
   refine lec_one (i := 12) rfl (by kernel_rfl) ?_
   intro K12 hK12
   rw [if_pos (by rfl)]
   go_simp
   refine Calls.mono (HSE.out w5 HB5.out) ?_
   rintro e w6 ⟨rfl, h6⟩
   have H6 : Hid _ := h6
   clear h6
   go_simp
   refine hK12 _ _ (fun h => by cases h) ?_
   clear hK12
   try simp only [Act.put, List.getElem_toArray, List.getElem_cons_succ, List.getElem_cons_zero, List.setIfInBounds_toArray, List.set_cons_zero, List.set_cons_succ]
   refine lec_done (by kernel_rfl) ?_
   clear Sy HGE HSE HSS
   go_wp2_with fail
   go_roundw
   case rel => exact ⟨i + 1, by omega, by first | rfl | go_num, H6.out⟩
   case measure => simp [intOf]; try omega
  ·obtain rfl : i = np := by omega
   obtain ⟨Fi, mi, hFB, hmi, hput, -⟩ := HC.out.out
   rw [HNP.out, List.drop_of_length_le (Nat.le_refl _)] at hput
   unfold Fa.puts at hput
   cases hput
   have HPU := HPU0.out wq cb F mi HC.out.low hFB hmi HC.out.cb
   have HPU : Hid _ := HPU
   have HLW : Hid (Below w.heap.size w wq) := HC.out.low
   have HS6q : Hid (∀ W, Below wq.heap.size wq W -> (fun w' : World => w'.cell? ⟨mb, 12, none⟩ = some (.slice va vn vc) /\ w'.cell? ⟨mb, 0, none⟩ = some (.pointer (some ⟨fb, hp0, none⟩)) /\ w'.cell? ⟨mb, 1, none⟩ = some (.pointer (some ⟨hb1, hp1, none⟩)) /\ w'.cell? ⟨mb, 2, none⟩ = some (.int .i64 hbh) /\ w'.cell? ⟨mb, 3, none⟩ = some (.int .i64 r0) /\ w'.cell? ⟨mb, 4, none⟩ = some (.int .i64 r1) /\ w'.cell? ⟨mb, 5, none⟩ = some (.int .i64 r2) /\ w'.cell? ⟨mb, 6, none⟩ = some (.int .i64 r3) /\ w'.cell? ⟨mb, 7, none⟩ = some (.int .i64 r4) /\ w'.cell? ⟨mb, 8, none⟩ = some (.int .i64 r5) /\ w'.cell? ⟨mb, 9, none⟩ = some (.int .i64 r6) /\ w'.cell? ⟨mb, 10, none⟩ = some (.int .i64 r7) /\ w'.cell? ⟨mb, 11, none⟩ = some (.map hm) /\ mb < w'.heap.size) W) := fun W hW => HS6.out W (HLW.out.trans (hW.mono HLW.out.size))
   have HRW : Hid (∀ W, Below wq.heap.size wq W -> Hid (Row W hi 80 12 (.slice va vn vc) ZW /\ hi <= W.heap.size)) := fun W hW => HRW0.out W (HLW.out.trans (hW.mono HLW.out.size))
   clear HS6
   have HS6 : Hid (∀ W, Below wq.heap.size wq W -> (fun w' : World => w'.cell? ⟨mb, 12, none⟩ = some (.slice va vn vc) /\ w'.cell? ⟨mb, 0, none⟩ = some (.pointer (some ⟨fb, hp0, none⟩)) /\ w'.cell? ⟨mb, 1, none⟩ = some (.pointer (some ⟨hb1, hp1, none⟩)) /\ w'.cell? ⟨mb, 2, none⟩ = some (.int .i64 hbh) /\ w'.cell? ⟨mb, 3, none⟩ = some (.int .i64 r0) /\ w'.cell? ⟨mb, 4, none⟩ = some (.int .i64 r1) /\ w'.cell? ⟨mb, 5, none⟩ = some (.int .i64 r2) /\ w'.cell? ⟨mb, 6, none⟩ = some (.int .i64 r3) /\ w'.cell? ⟨mb, 7, none⟩ = some (.int .i64 r4) /\ w'.cell? ⟨mb, 8, none⟩ = some (.int .i64 r5) /\ w'.cell? ⟨mb, 9, none⟩ = some (.int .i64 r6) /\ w'.cell? ⟨mb, 10, none⟩ = some (.int .i64 r7) /\ w'.cell? ⟨mb, 11, none⟩ = some (.map hm) /\ mb < w'.heap.size) W) := HS6q.out
   have Sx : (fun w' : World => w'.cell? ⟨mb, 12, none⟩ = some (.slice va vn vc) /\ w'.cell? ⟨mb, 0, none⟩ = some (.pointer (some ⟨fb, hp0, none⟩)) /\ w'.cell? ⟨mb, 1, none⟩ = some (.pointer (some ⟨hb1, hp1, none⟩)) /\ w'.cell? ⟨mb, 2, none⟩ = some (.int .i64 hbh) /\ w'.cell? ⟨mb, 3, none⟩ = some (.int .i64 r0) /\ w'.cell? ⟨mb, 4, none⟩ = some (.int .i64 r1) /\ w'.cell? ⟨mb, 5, none⟩ = some (.int .i64 r2) /\ w'.cell? ⟨mb, 6, none⟩ = some (.int .i64 r3) /\ w'.cell? ⟨mb, 7, none⟩ = some (.int .i64 r4) /\ w'.cell? ⟨mb, 8, none⟩ = some (.int .i64 r5) /\ w'.cell? ⟨mb, 9, none⟩ = some (.int .i64 r6) /\ w'.cell? ⟨mb, 10, none⟩ = some (.int .i64 r7) /\ w'.cell? ⟨mb, 11, none⟩ = some (.map hm) /\ mb < w'.heap.size) wq.drew := HS6.out wq.drew (Below.refl _ _).drew
   have hnlt : decide ((i : Int) < (i : Int)) = false := by simp
   have HRGF : Hid (F.rg.length = 8) := hFB.rg
   clear HC hFB hmi HPU0 HRW0 HS6q HRD HGT HFN
   go_upto_region 6 with fail
   refine lec_start (S := fun w' : World => w'.cell? ⟨mb, 12, none⟩ = some (.slice va vn vc) /\ w'.cell? ⟨mb, 0, none⟩ = some (.pointer (some ⟨fb, hp0, none⟩)) /\ w'.cell? ⟨mb, 1, none⟩ = some (.pointer (some ⟨hb1, hp1, none⟩)) /\ w'.cell? ⟨mb, 2, none⟩ = some (.int .i64 hbh) /\ w'.cell? ⟨mb, 3, none⟩ = some (.int .i64 r0) /\ w'.cell? ⟨mb, 4, none⟩ = some (.int .i64 r1) /\ w'.cell? ⟨mb, 5, none⟩ = some (.int .i64 r2) /\ w'.cell? ⟨mb, 6, none⟩ = some (.int .i64 r3) /\ w'.cell? ⟨mb, 7, none⟩ = some (.int .i64 r4) /\ w'.cell? ⟨mb, 8, none⟩ = some (.int .i64 r5) /\ w'.cell? ⟨mb, 9, none⟩ = some (.int .i64 r6) /\ w'.cell? ⟨mb, 10, none⟩ = some (.int .i64 r7) /\ w'.cell? ⟨mb, 11, none⟩ = some (.map hm) /\ mb < w'.heap.size) (z := 10) (by kernel_rfl) ?_
   show lec _ _ _ _ _ 14 _ _ _
   try simp only [List.size_toArray, List.length_cons, List.length_nil, Array.replicate]
   refine lec_takeP (i := 0) (v := ?v0x) rfl (by kernel_rfl) (by kernel_rfl) (by kernel_rfl) (by kernel_rfl) (fun _ _ _ h => h) (.inl ⟨by rfl, ?hy0x⟩) Sx ?rest0x
   case hy0x =>
    rintro w' _
    go_simp
    all_goals with_reducible rfl
   try simp only [Act.put, List.getElem_toArray, List.getElem_cons_succ, List.getElem_cons_zero, List.setIfInBounds_toArray, List.set_cons_zero, List.set_cons_succ]
   refine lec_takeP (i := 1) (v := ?v1x) rfl (by kernel_rfl) (by kernel_rfl) (by kernel_rfl) (by kernel_rfl) (fun _ _ _ h => h) (.inl ⟨by rfl, ?hy1x⟩) Sx ?rest1x
   case hy1x =>
    rintro w' _
    go_simp
    all_goals with_reducible rfl
   try simp only [Act.put, List.getElem_toArray, List.getElem_cons_succ, List.getElem_cons_zero, List.setIfInBounds_toArray, List.set_cons_zero, List.set_cons_succ]
   refine lec_takeP (i := 2) (v := ?v2x) rfl (by kernel_rfl) (by kernel_rfl) (by kernel_rfl) (by kernel_rfl) (fun _ _ _ h => h) (.inl ⟨by rfl, ?hy2x⟩) Sx ?rest2x
   case hy2x =>
    rintro w' _
    go_simp
    all_goals with_reducible rfl
   try simp only [Act.put, List.getElem_toArray, List.getElem_cons_succ, List.getElem_cons_zero, List.setIfInBounds_toArray, List.set_cons_zero, List.set_cons_succ]
   refine lec_takeP (i := 3) (v := ?v3x) rfl (by kernel_rfl) (by kernel_rfl) (by kernel_rfl) (by kernel_rfl) (fun _ _ _ h => h) (.inl ⟨by rfl, ?hy3x⟩) Sx ?rest3x
   case hy3x =>
    rintro w' _
    go_simp
    all_goals with_reducible rfl
   try simp only [Act.put, List.getElem_toArray, List.getElem_cons_succ, List.getElem_cons_zero, List.setIfInBounds_toArray, List.set_cons_zero, List.set_cons_succ]
   refine lec_takeT [10, 11, 12, 13] (i := 4) (v := ?v4x) rfl (by kernel_rfl) (by kernel_rfl) (by kernel_rfl) (by kernel_rfl) (fun _ _ _ h => h) (.inl ⟨by rfl, ?hy4x⟩) Sx ?rest4x
   case hy4x =>
    rintro w' ⟨g1, g2, g3, g4, g5, g6, g7, g8, g9, g10, g11, g12, g13, g14⟩
    go_simp
    all_goals with_reducible rfl
   try simp only [Act.put, List.getElem_toArray, List.getElem_cons_succ, List.getElem_cons_zero, List.setIfInBounds_toArray, List.set_cons_zero, List.set_cons_succ]
   refine lec_takeP (i := 5) (v := ?v5x) rfl (by kernel_rfl) (by kernel_rfl) (by kernel_rfl) (by kernel_rfl) (fun _ _ _ h => h) (.inl ⟨by rfl, ?hy5x⟩) Sx ?rest5x
   case hy5x =>
    rintro w' _
    go_simp
    all_goals with_reducible rfl
   try simp only [Act.put, List.getElem_toArray, List.getElem_cons_succ, List.getElem_cons_zero, List.setIfInBounds_toArray, List.set_cons_zero, List.set_cons_succ]
   refine lec_takeP (i := 6) (v := ?v6x) rfl (by kernel_rfl) (by kernel_rfl) (by kernel_rfl) (by kernel_rfl) (fun _ _ _ h => h) (.inl ⟨by rfl, ?hy6x⟩) Sx ?rest6x
   case hy6x =>
    rintro w' _
    go_simp
    all_goals with_reducible rfl
   try simp only [Act.put, List.getElem_toArray, List.getElem_cons_succ, List.getElem_cons_zero, List.setIfInBounds_toArray, List.set_cons_zero, List.set_cons_succ]
   refine lec_takeP (i := 7) (v := ?v7x) rfl (by kernel_rfl) (by kernel_rfl) (by kernel_rfl) (by kernel_rfl) (fun _ _ _ h => h) (.inl ⟨by rfl, ?hy7x⟩) Sx ?rest7x
   case hy7x =>
    rintro w' _
    go_simp
    all_goals with_reducible rfl
   try simp only [Act.put, List.getElem_toArray, List.getElem_cons_succ, List.getElem_cons_zero, List.setIfInBounds_toArray, List.set_cons_zero, List.set_cons_succ]
   refine lec_takeT [9, 10, 11, 12, 13] (i := 8) (v := ?v8x) rfl (by kernel_rfl) (by kernel_rfl) (by kernel_rfl) (by kernel_rfl) (fun _ _ _ h => h) (.inl ⟨by rfl, ?hy8x⟩) Sx ?rest8x
   case hy8x =>
    rintro w' ⟨g1, g2, g3, g4, g5, g6, g7, g8, g9, g10, g11, g12, g13, g14⟩
    go_simp
    all_goals with_reducible rfl
   try simp only [Act.put, List.getElem_toArray, List.getElem_cons_succ, List.getElem_cons_zero, List.setIfInBounds_toArray, List.set_cons_zero, List.set_cons_succ]
   refine lec_one (i := 9) rfl (by kernel_rfl) ?_
   intro K9 hK9
   rw [if_pos (by rfl)]
   go_simp
   obtain ⟨WB, hWB⟩ : ∃ WB, WB = (wq.alloc (.cells #[.pointer (some ⟨fb, hp0, none⟩), .pointer (some ⟨hb1, hp1, none⟩), .int .i64 hbh, .int .i64 r0, .int .i64 r1, .int .i64 r2, .int .i64 r3, .int .i64 r4, .int .i64 r5, .int .i64 r6, .int .i64 r7, .map hm] 80)).drew := ⟨_, rfl⟩
   obtain ⟨sb, hsb⟩ : ∃ sb, sb = wq.heap.size := ⟨_, rfl⟩
   have bWB : Below wq.heap.size wq WB := by rw [hWB]; exact (below_newA wq _).drew
   have hcW : WB.heap[sb]? = some (.cells #[.pointer (some ⟨fb, hp0, none⟩), .pointer (some ⟨hb1, hp1, none⟩), .int .i64 hbh, .int .i64 r0, .int .i64 r1, .int .i64 r2, .int .i64 r3, .int .i64 r4, .int .i64 r5, .int .i64 r6, .int .i64 r7, .map hm] 80 (0, 0)) := by rw [hWB, hsb]; exact heap_alloc_new wq _
   rw [<- hWB]
   have Sr := HS6.out WB bWB
   refine hK9 _ _ (fun _ => Sr) ?_
   rw [<- hsb]
   have HBW : Hid _ := bWB
   have HSB : Hid (sb = wq.heap.size) := hsb
   have HR6 := HRW.out WB bWB
   have HCN : Hid (∀ j u, ([.pointer (some ⟨fb, hp0, none⟩), .pointer (some ⟨hb1, hp1, none⟩), .int .i64 hbh, .int .i64 r0, .int .i64 r1, .int .i64 r2, .int .i64 r3, .int .i64 r4, .int .i64 r5, .int .i64 r6, .int .i64 r7, .map hm] : List Value)[j]? = some u -> WB.cell? ((⟨sb, 0, none⟩ : Addr).add j) = some u) := fun j u hu => by
    rw [add_noneR, Nat.zero_add]
    exact cell_arr hcW (by simpa using hu)
   clear hK9 hWB hsb bWB hcW
   try simp only [Act.put, List.getElem_toArray, List.getElem_cons_succ, List.getElem_cons_zero, List.setIfInBounds_toArray, List.set_cons_zero, List.set_cons_succ]
   refine lec_one (i := 10) rfl (by kernel_rfl) ?_
   intro K10 hK10
   refine step_append_row rfl _ _ 81 80 12 _ 96 rfl Tryz.underlying81 info_fr3 rfl (by decide) (by decide) hi (.slice va vn vc) ZW rfl HR6.out.1 sb rfl [.pointer (some ⟨fb, hp0, none⟩), .pointer (some ⟨hb1, hp1, none⟩), .int .i64 hbh, .int .i64 r0, .int .i64 r1, .int .i64 r2, .int .i64 r3, .int .i64 r4, .int .i64 r5, .int .i64 r6, .int .i64 r7, .map hm] rfl HCN.out HON.out hlx HR6.out.2 ?_
   intro v7 w7 h7 g7
   refine hK10 _ _ (fun h => by cases h) ?_
   have HP7 := HPU.out WB w7 v7 HBW.out h7 g7
   obtain ⟨xa7, xc7, ev7, _, _⟩ := own_slice h7.out
   clear hK10 h7 g7
   obtain ⟨n7, hn7⟩ : ∃ n7, n7 = (ZW ++ [([.pointer (some ⟨fb, hp0, none⟩), .pointer (some ⟨hb1, hp1, none⟩), .int .i64 hbh, .int .i64 r0, .int .i64 r1, .int .i64 r2, .int .i64 r3, .int .i64 r4, .int .i64 r5, .int .i64 r6, .int .i64 r7, .map hm] : List Value)]).length := ⟨_, rfl⟩
   rw [<- hn7] at ev7
   clear hn7
   subst ev7
   obtain ⟨y7, z7, t7, HP8⟩ := HP7
   try simp only [Act.put, List.getElem_toArray, List.getElem_cons_succ, List.getElem_cons_zero, List.setIfInBounds_toArray, List.set_cons_zero, List.set_cons_succ]
   refine lec_one (i := 11) rfl (by kernel_rfl) ?_
   intro K11 hK11
   rw [if_pos (by rfl)]
   go_simp
   refine hK11 _ _ (fun h => by cases h) ?_
   clear hK11
   try simp only [Act.put, List.getElem_toArray, List.getElem_cons_succ, List.getElem_cons_zero, List.setIfInBounds_toArray, List.set_cons_zero, List.set_cons_succ]
   refine lec_one (i := 12) rfl (by kernel_rfl) ?_
   intro K12 hK12
   rw [if_pos (by rfl)]
   go_simp
   refine hK12 _ _ (fun h => by cases h) ?_
   clear hK12
   try simp only [Act.put, List.getElem_toArray, List.getElem_cons_succ, List.getElem_cons_zero, List.setIfInBounds_toArray, List.set_cons_zero, List.set_cons_succ]
   refine lec_one (i := 13) rfl (by kernel_rfl) ?_
   intro K13 hK13
   rw [if_pos (by rfl)]
   go_simp
   refine hK13 _ _ (fun h => by cases h) ?_
   clear hK13
   try simp only [Act.put, List.getElem_toArray, List.getElem_cons_succ, List.getElem_cons_zero, List.setIfInBounds_toArray, List.set_cons_zero, List.set_cons_succ]
   refine lec_done (by kernel_rfl) ?_
   obtain ⟨w8, hw8⟩ : ∃ w8, w8 = w7.setCell ⟨mb, 12, none⟩ (.slice xa7 n7 xc7) := ⟨_, rfl⟩
   obtain ⟨hFB8, hbe⟩ := HP8.out w8 hw8
   rw [<- hw8]
   clear hw8 HP8 y7 z7 t7 HRW HS6 Sx HPU HON
   obtain ⟨u0, u1, u2, u3, u4, u5, u6, u7, hu⟩ := list8 HRGF.out
   have efF : fav s F mi = [.pointer (some ⟨s.fb, s.fo + F.fi * 5, none⟩), .pointer (some ⟨s.bb F.fi, s.bo F.fi + F.bk * 5, none⟩), .int .i64 (F.bh : Int), .int .i64 u0, .int .i64 u1, .int .i64 u2, .int .i64 u3, .int .i64 u4, .int .i64 u5, .int .i64 u6, .int .i64 u7, .map mi] := by simp [fav, hu]
   have hbx := hFB8.box
   rw [List.append_nil, efF] at hbx
   rw [efF] at hbe
   have HBE : Hid _ := hbe
   have k0 : w8.cell? ⟨cb, 0, none⟩ = some (.pointer (some ⟨s.fb, s.fo + F.fi * 5, none⟩)) := cell_arr hbx rfl
   have k1 : w8.cell? ⟨cb, 1, none⟩ = some (.pointer (some ⟨s.bb F.fi, s.bo F.fi + F.bk * 5, none⟩)) := cell_arr hbx rfl
   have k2 : w8.cell? ⟨cb, 2, none⟩ = some (.int .i64 (F.bh : Int)) := cell_arr hbx rfl
   have k3 : w8.cell? ⟨cb, 3, none⟩ = some (.int .i64 u0) := cell_arr hbx rfl
   have k4 : w8.cell? ⟨cb, 4, none⟩ = some (.int .i64 u1) := cell_arr hbx rfl
   have k5 : w8.cell? ⟨cb, 5, none⟩ = some (.int .i64 u2) := cell_arr hbx rfl
   have k6 : w8.cell? ⟨cb, 6, none⟩ = some (.int .i64 u3) := cell_arr hbx rfl
   have k7 : w8.cell? ⟨cb, 7, none⟩ = some (.int .i64 u4) := cell_arr hbx rfl
   have k8 : w8.cell? ⟨cb, 8, none⟩ = some (.int .i64 u5) := cell_arr hbx rfl
   have k9 : w8.cell? ⟨cb, 9, none⟩ = some (.int .i64 u6) := cell_arr hbx rfl
   have k10 : w8.cell? ⟨cb, 10, none⟩ = some (.int .i64 u7) := cell_arr hbx rfl
   have k11 : w8.cell? ⟨cb, 11, none⟩ = some (.map mi) := cell_arr hbx rfl
   have lc8 : cb < w8.heap.size := (gl hbx)
   clear hFB8 hbx hbe efF hu
   go_wp2_with (go_at_call 25; refine Calls.mono HBE.out ?_; rintro e w9 ⟨rfl, h9⟩; have H9 : Hid _ := h9; clear h9)
   exact bodyPost_end (v := .tuple #[]) (by simp [results, Tryz.results55, go_sem]) rfl ⟨rfl, H9.out⟩
end Go.Proofs.YtegoemeefmjnoaaGreatDoor
