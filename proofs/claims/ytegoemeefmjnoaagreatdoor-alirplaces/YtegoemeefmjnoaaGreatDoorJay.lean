import Derived.Test.YtegoemeefmjnoaaGreatDoorJax
set_option linter.unusedVariables false
set_option linter.unusedSimpArgs false
namespace Go.Proofs.YtegoemeefmjnoaaGreatDoor
open Go.ChangeShapes Go.WideShapes Go.ChangeAt Go.RowKit Go.Maps
theorem info_lins : (Tryz.prog.info? 147).map (fun i => (i.zero, i.size, i.bytes)) = some (some (.agg #[.int .i64 0, .int .i64 0, .int .i64 0, .slice none 0 0]), 4, 48) := by kernel_rfl
theorem RowE.lower {α : Type} {En : World -> List Value -> α -> Prop} {e z w B B' v} {N : List α} (h : RowE En e z w B v N) (hB : B' <= B) : RowE En e z w B' v N := by
 obtain ⟨xs, h1, h2, h3⟩ := h.out
 exact ⟨xs, row_lower h1 hB, h2, h3⟩
theorem Kp.setRow {T : List TypeId} {B : Nat} {w : World} {g : Nat} {A t} (hg : w.heap[g]? = some (.cells A t (0, 0))) (ht : t ∈ T) (hB : B <= g) (cs : Array Value) : Kp T B w (w.setRow g cs) :=
 ⟨by simp, fun k h1 h2 => heap_setRow_otherA (by
  rintro rfl
  rcases h2 with q | ⟨A', t', q1, q2⟩
  ·omega
  ·rw [hg] at q1
   cases q1
   exact q2 ht)⟩
structure NbS (s : Int) (BD : List Ai) (w : World) (rb cb : Nat) (R : List Value) (v : Value) (k : Nat) (wr : World) : Prop where
 low : Below w.heap.size w wr
 rbx : wr.heap[rb]? = some (.cells #[.slice none 0 0, .int .i64 0, .int .i64 0, .slice none 0 0] 134 (0, 0))
 cbx : wr.heap[cb]? = some (.cells (v :: R).toArray 134 (0, 0))
 row : RowE LiE 147 4 wr w.heap.size v ((BD.take k).map (nuI s))
 ne : rb ≠ cb /\ w.heap.size <= cb
theorem NbS.below {s BD w rb cb R v k wr wr'} (h : NbS s BD w rb cb R v k wr) (hb : Below wr.heap.size wr wr') : NbS s BD w rb cb R v k wr' :=
 ⟨h.low.trans (hb.mono h.low.size), (hb.block _ (gl h.rbx)).trans h.rbx, (hb.block _ (gl h.cbx)).trans h.cbx, h.row.kp (Kp.of_below (T := []) hb) (by simp) (LiE.kp (Kp.of_below (T := []) (B := 0) hb) (by simp)), h.ne⟩
theorem NbS.next {s BD w rb cb R v k wq} (h : NbS s BD w rb cb R v k wq) (hk : k < BD.length) (hm : BD[k].args.length <= 100000000) {xs : List (List Value)} (hxl : xs.length = k) (hxs : ∀ i (hi : i < ((BD.take k).map (nuI s)).length), LiE wq (xs.getD i []) ((BD.take k).map (nuI s))[i]) {wB WB w7 : World} {g : Nat} (bB : Below wq.heap.size wq wB) (hg : Num wB g (BD[k].args.map (numP s))) (bW : Below wB.heap.size wB WB) {v7 : Value} (hR : Row WB w.heap.size 147 4 v xs) (hr : Row w7 w.heap.size 147 4 v7 (xs ++ [[.int .i64 BD[k].op, .int .i64 (numP s BD[k].dst), .int .i64 BD[k].imm, .slice (some ⟨g, 0, none⟩) BD[k].args.length BD[k].args.length]])) (hG : GI w.heap.size WB w7 v v7) :
 w7.cell? ⟨cb, 0, none⟩ = some v /\ w7.frozen? ⟨cb, 0, none⟩ = false /\ cb < w7.heap.size /\ NbS s BD w rb cb R v7 (k + 1) (w7.setCell ⟨cb, 0, none⟩ v7) := by
 have hW := (h.below bB).below bW
 have k7 : Kp [147] w.heap.size WB w7 := Kp.gi hG hR (by simp)
 have c7 : w7.heap[cb]? = some (.cells (v :: R).toArray 134 (0, 0)) := (k7.old cb (gl hW.cbx) (.inr ⟨_, _, hW.cbx, by simp⟩)).trans hW.cbx
 have r7 : w7.heap[rb]? = some (.cells #[.slice none 0 0, .int .i64 0, .int .i64 0, .slice none 0 0] 134 (0, 0)) := (k7.old rb (gl hW.rbx) (.inr ⟨_, _, hW.rbx, by simp⟩)).trans hW.rbx
 have k8 : Kp [134] w.heap.size w7 (w7.setCell ⟨cb, 0, none⟩ v7) := Kp.set c7 (by simp) h.ne.2 _
 have hn7 : Num w7 g (BD[k].args.map (numP s)) := k7.num (by simp) (hg.below bW)
 have hE : ∀ i (hi : i < ((BD.take k).map (nuI s)).length), LiE w7 (xs.getD i []) ((BD.take k).map (nuI s))[i] := fun i hi => LiE.kp k7 (by simp) _ _ (LiE.kp (Kp.of_below (T := []) (B := 0) (bB.trans (bW.mono bB.size))) (by simp) _ _ (hxs i hi))
 have hp := RowE.push (x := nuI s BD[k]) hr (N := (BD.take k).map (nuI s)) (by simp; omega) hE ⟨g, by simp [nuI], by simpa [nuI] using hm, hn7⟩
 have e : (BD.take k).map (nuI s) ++ [nuI s BD[k]] = (BD.take (k + 1)).map (nuI s) := by rw [List.take_succ_eq_append_getElem hk, List.map_append]; rfl
 rw [e] at hp
 refine ⟨cell_arr c7 rfl, fz_of c7, (gl c7), ?_, ?_, ?_, ?_, h.ne⟩
 ·exact (hW.low.trans (hG.bel.mono (Nat.le_refl _))).setCell h.ne.2 _
 ·rw [heap_set_other h.ne.1]; exact r7
 ·exact box_set c7 rfl
 ·exact hp.kp k8 (by simp) (LiE.kp k8 (by simp))
set_option maxRecDepth 100000 in
set_option maxHeartbeats 8000000 in
theorem numberedBlock_any (w : World) (B : Nat) (hB : B <= w.heap.size) (b : Ab) {a1 a2 : Option Addr} {c1 c2 : Nat} (h1 : Lst EnI 6 w a1 c1 b.body) (h2 : OldI B w a2 c2 b.ways) (hlen : b.body.length <= 100000000) (har : ∀ x ∈ b.body, x.args.length <= 100000000) (s : Int) (hs : s <= 1000000) :
 Calls Tryz.prog 65 #[.agg #[.slice a1 b.body.length c1, .int .i64 b.kind, .int .i64 b.val.1, .int .i64 b.val.2, .slice a2 b.ways.length c2], .int .i64 s] w fun e w' => ∃ cs, e = .returned (.agg cs.toArray) /\ LbE B w' cs (nuB s b) /\ Below w.heap.size w w' := by
 obtain ⟨BD, kd, ⟨v1, v2⟩, ways⟩ := b
 simp only at h1 h2 hlen har ⊢
 obtain ⟨nb, hnb⟩ : ∃ n, n = BD.length := ⟨_, rfl⟩
 obtain ⟨nw, hnw⟩ : ∃ n, n = ways.length := ⟨_, rfl⟩
 obtain ⟨nv, hnv⟩ : ∃ n, n = numP s (v1, v2) := ⟨_, rfl⟩
 have HNU : Hid (∀ W, Calls Tryz.prog 83 #[.agg #[.int .i64 v1, .int .i64 v2], .int .i64 s] W fun e w' => e = .returned (.int .i64 nv) /\ Below W.heap.size W w') := fun W => by rw [hnv]; exact numberA_any W (v1, v2) s hs
 rw [<- hnb, <- hnw]
 obtain ⟨W0, hW0⟩ : ∃ W, W = (w.alloc (.cells #[.slice a1 nb c1, .int .i64 kd, .int .i64 v1, .int .i64 v2, .slice a2 nw c2] 34)).alloc (.cells #[.slice none 0 0, .int .i64 0, .int .i64 0, .slice none 0 0] 134) := ⟨_, rfl⟩
 obtain ⟨pb, hpb⟩ : ∃ p, p = w.heap.size := ⟨_, rfl⟩
 obtain ⟨rb, hrb⟩ : ∃ p, p = w.heap.size + 1 := ⟨_, rfl⟩
 have hp0 : W0.heap[pb]? = some (.cells #[.slice a1 nb c1, .int .i64 kd, .int .i64 v1, .int .i64 v2, .slice a2 nw c2] 34 (0, 0)) := by rw [hW0, hpb, heap_alloc_old _ _ (by simp)]; exact heap_alloc_new w _
 have hr0 : W0.heap[rb]? = some (.cells #[.slice none 0 0, .int .i64 0, .int .i64 0, .slice none 0 0] 134 (0, 0)) := by
  have := heap_alloc_new (w.alloc (.cells #[.slice a1 nb c1, .int .i64 kd, .int .i64 v1, .int .i64 v2, .slice a2 nw c2] 34)) (.cells #[.slice none 0 0, .int .i64 0, .int .i64 0, .slice none 0 0] 134)
  rw [hW0, hrb]
  simpa using this
 have b0 : Below w.heap.size w W0 := by rw [hW0]; exact (below_newA w _).alloc (by simp) _
 have hs0 : W0.heap.size = w.heap.size + 2 := by rw [hW0]; simp
 have HS1 : Hid (∀ W, Below W0.heap.size W0 W -> (fun w' : World => w'.cell? ⟨pb, 1, none⟩ = some (.int .i64 kd) /\ w'.cell? ⟨pb, 2, none⟩ = some (.int .i64 v1) /\ w'.cell? ⟨pb, 3, none⟩ = some (.int .i64 v2) /\ w'.cell? ⟨pb, 4, none⟩ = some (.slice a2 nw c2) /\ pb < w'.heap.size) W) := fun W hW => by
  have q := (hW.block pb (gl hp0)).trans hp0
  exact ⟨cell_arr q rfl, cell_arr q rfl, cell_arr q rfl, cell_arr q rfl, (gl q)⟩
 have HST : Hid (∀ cb X X2, X.heap[cb]? = some (.cells #[.slice none 0 0, .int .i64 0, .int .i64 0, .slice none 0 0] 134 (0, 0)) -> Below W0.heap.size W0 X -> W0.heap.size <= cb -> X2 = X.setRow cb #[.slice none 0 0, .int .i64 kd, .int .i64 nv, .slice a2 nw c2] -> Hid ((X2.cell? ⟨pb, 0, none⟩ = some (.slice a1 nb c1) /\ pb < X2.heap.size) /\ NbS s BD w rb cb [.int .i64 kd, .int .i64 nv, .slice a2 nw c2] (.slice none 0 0) 0 X2)) := fun cb X X2 hz hbX hcbl hX2 => by
  have bX2 : Below W0.heap.size W0 X2 := by rw [hX2]; exact below_setRowA hbX hcbl _
  have q := (bX2.block pb (gl hp0)).trans hp0
  refine ⟨⟨cell_arr q rfl, (gl q)⟩, b0.trans (bX2.mono b0.size), (bX2.block rb (gl hr0)).trans hr0, ?_, by simpa using RowE.nil, by omega, by omega⟩
  rw [hX2]
  exact setRow_heap X cb _ _ _ _ hz
 have HRD : Hid (∀ wr k, Below w.heap.size w wr -> (hk : k < BD.length) -> ∃ b o x1 y1 x2 y2, a1 = some ⟨b, o, none⟩ /\ b < wr.heap.size /\ wr.cell? ⟨b, o + k * 6, none⟩ = some (.int .i64 BD[k].op) /\ wr.cell? ⟨b, o + k * 6 + 1, none⟩ = some (.int .i64 BD[k].imm) /\ wr.cell? ⟨b, o + k * 6 + 2, none⟩ = some (.int .i64 BD[k].dst.1) /\ wr.cell? ⟨b, o + k * 6 + 3, none⟩ = some (.int .i64 BD[k].dst.2) /\ wr.cell? ⟨b, o + k * 6 + 4, none⟩ = some (.slice x1 BD[k].args.length y1) /\ wr.cell? ⟨b, o + k * 6 + 5, none⟩ = some (.slice x2 BD[k].saves.length y2) /\ Locs wr x1 y1 BD[k].args /\ Ints wr x2 y2 BD[k].saves /\ BD[k].args.length <= 100000000) := fun wr k hb hk => by
  obtain ⟨b, o, x1, y1, x2, y2, q⟩ := ais_at (h1.below hb (Nat.le_refl _) (enI_below hb (Nat.le_refl _))) hk
  exact ⟨b, o, x1, y1, x2, y2, q.1, q.2.1, q.2.2.1, q.2.2.2.1, q.2.2.2.2.1, q.2.2.2.2.2.1, q.2.2.2.2.2.2.1, q.2.2.2.2.2.2.2.1, q.2.2.2.2.2.2.2.2.1, q.2.2.2.2.2.2.2.2.2, har _ (List.getElem_mem hk)⟩
 have HFI : Hid (∀ cb v wr, NbS s BD w rb cb [.int .i64 kd, .int .i64 nv, .slice a2 nw c2] v nb wr -> LbE B (wr.setRow rb #[v, .int .i64 kd, .int .i64 nv, .slice a2 nw c2]) [v, .int .i64 kd, .int .i64 nv, .slice a2 nw c2] (nuB s ⟨BD, kd, (v1, v2), ways⟩) /\ Below w.heap.size w (wr.setRow rb #[v, .int .i64 kd, .int .i64 nv, .slice a2 nw c2])) := fun cb v wr hN => by
  have hb9 : Below w.heap.size w (wr.setRow rb #[v, .int .i64 kd, .int .i64 nv, .slice a2 nw c2]) := below_setRowA hN.low (by omega) _
  have hk9 : Kp [134] w.heap.size wr (wr.setRow rb #[v, .int .i64 kd, .int .i64 nv, .slice a2 nw c2]) := Kp.setRow hN.rbx (by simp) (by omega) _
  refine ⟨⟨v, a2, c2, by simp [nuB, hnv, hnw], ?_, ?_⟩, hb9⟩
  ·have := hN.row
   rw [hnb, List.take_of_length_le (Nat.le_refl _)] at this
   exact (this.kp hk9 (by simp) (LiE.kp hk9 (by simp))).lower hB
  ·exact fun W q1 q2 => h2 W (Nat.le_trans hb9.size q1) fun g hg => (q2 g hg).trans (hb9.block g (Nat.lt_of_lt_of_le hg hB))
 have Sz : (fun w' : World => w'.cell? ⟨pb, 1, none⟩ = some (.int .i64 kd) /\ w'.cell? ⟨pb, 2, none⟩ = some (.int .i64 v1) /\ w'.cell? ⟨pb, 3, none⟩ = some (.int .i64 v2) /\ w'.cell? ⟨pb, 4, none⟩ = some (.slice a2 nw c2) /\ pb < w'.heap.size) W0.drew := HS1.out W0.drew (Below.refl _ _).drew
 have HNB : Hid (nb = BD.length) := hnb
 have HSL : Hid (s <= 1000000) := hs
 have hnbm : nb <= 100000000 := by omega
 have HZ0 : Hid _ := hr0
 clear h1 h2 har hlen hs hp0 hr0 b0 hs0 hnb hnw hnv
 go_enter Tryz.func65, Tryz.ntmps65
 go_upto_region 1 with fail
 rw [<- hW0, <- hrb, <- hpb]
 clear hW0 hpb hrb
 refine lec_start (S := fun w' : World => w'.cell? ⟨pb, 1, none⟩ = some (.int .i64 kd) /\ w'.cell? ⟨pb, 2, none⟩ = some (.int .i64 v1) /\ w'.cell? ⟨pb, 3, none⟩ = some (.int .i64 v2) /\ w'.cell? ⟨pb, 4, none⟩ = some (.slice a2 nw c2) /\ pb < w'.heap.size) (z := 14) (by kernel_rfl) ?_
 show lec _ _ _ _ _ 15 _ _ _
 try simp only [List.size_toArray, List.length_cons, List.length_nil, Array.replicate]
 refine lec_takeP (i := 0) (v := ?v0z) rfl (by kernel_rfl) (by kernel_rfl) (by kernel_rfl) (by kernel_rfl) (fun _ _ _ h => h) (.inl ⟨by rfl, ?hy0z⟩) Sz ?rest0z
 case hy0z =>
  rintro w' _
  go_simp
  all_goals with_reducible rfl
 try simp only [Act.put, List.getElem_toArray, List.getElem_cons_succ, List.getElem_cons_zero, List.setIfInBounds_toArray, List.set_cons_zero, List.set_cons_succ]
 refine lec_takeP (i := 1) (v := ?v1z) rfl (by kernel_rfl) (by kernel_rfl) (by kernel_rfl) (by kernel_rfl) (fun _ _ _ h => h) (.inl ⟨by rfl, ?hy1z⟩) Sz ?rest1z
 case hy1z =>
  rintro w' _
  go_simp
  all_goals with_reducible rfl
 try simp only [Act.put, List.getElem_toArray, List.getElem_cons_succ, List.getElem_cons_zero, List.setIfInBounds_toArray, List.set_cons_zero, List.set_cons_succ]
 refine lec_takeT [11, 12, 14] (i := 2) (v := ?v2z) rfl (by kernel_rfl) (by kernel_rfl) (by kernel_rfl) (by kernel_rfl) (fun _ _ _ h => h) (.inl ⟨by rfl, ?hy2z⟩) Sz ?rest2z
 case hy2z =>
  rintro w' ⟨h1, h2, h3, h4, h5⟩
  go_simp
  all_goals with_reducible rfl
 try simp only [Act.put, List.getElem_toArray, List.getElem_cons_succ, List.getElem_cons_zero, List.setIfInBounds_toArray, List.set_cons_zero, List.set_cons_succ]
 refine lec_takeP (i := 3) (v := ?v3z) rfl (by kernel_rfl) (by kernel_rfl) (by kernel_rfl) (by kernel_rfl) (fun _ _ _ h => h) (.inl ⟨by rfl, ?hy3z⟩) Sz ?rest3z
 case hy3z =>
  rintro w' _
  go_simp
  all_goals with_reducible rfl
 try simp only [Act.put, List.getElem_toArray, List.getElem_cons_succ, List.getElem_cons_zero, List.setIfInBounds_toArray, List.set_cons_zero, List.set_cons_succ]
 refine lec_takeP (i := 4) (v := ?v4z) rfl (by kernel_rfl) (by kernel_rfl) (by kernel_rfl) (by kernel_rfl) (fun _ _ _ h => h) (.inl ⟨by rfl, ?hy4z⟩) Sz ?rest4z
 case hy4z =>
  rintro w' _
  go_simp
  all_goals with_reducible rfl
 try simp only [Act.put, List.getElem_toArray, List.getElem_cons_succ, List.getElem_cons_zero, List.setIfInBounds_toArray, List.set_cons_zero, List.set_cons_succ]
 refine lec_takeT [7, 11, 12, 14] (i := 5) (v := ?v5z) rfl (by kernel_rfl) (by kernel_rfl) (by kernel_rfl) (by kernel_rfl) (fun _ _ _ h => h) (.inl ⟨by rfl, ?hy5z⟩) Sz ?rest5z
 case hy5z =>
  rintro w' ⟨h1, h2, h3, h4, h5⟩
  go_simp
  all_goals with_reducible rfl
 try simp only [Act.put, List.getElem_toArray, List.getElem_cons_succ, List.getElem_cons_zero, List.setIfInBounds_toArray, List.set_cons_zero, List.set_cons_succ]
 refine lec_takeP (i := 6) (v := ?v6z) rfl (by kernel_rfl) (by kernel_rfl) (by kernel_rfl) (by kernel_rfl) (fun _ _ _ h => h) (.inl ⟨by rfl, ?hy6z⟩) Sz ?rest6z
 case hy6z =>
  rintro w' _
  go_simp
  all_goals with_reducible rfl
 try simp only [Act.put, List.getElem_toArray, List.getElem_cons_succ, List.getElem_cons_zero, List.setIfInBounds_toArray, List.set_cons_zero, List.set_cons_succ]
 refine lec_takeP (i := 8) (v := ?v8z) rfl (by kernel_rfl) (by kernel_rfl) (by kernel_rfl) (by kernel_rfl) (fun _ _ _ h => h) (.inl ⟨by rfl, ?hy8z⟩) Sz ?rest8z
 case hy8z =>
  rintro w' _
  go_simp
  all_goals with_reducible rfl
 try simp only [Act.put, List.getElem_toArray, List.getElem_cons_succ, List.getElem_cons_zero, List.setIfInBounds_toArray, List.set_cons_zero, List.set_cons_succ]
 refine lec_takeP (i := 9) (v := ?v9z) rfl (by kernel_rfl) (by kernel_rfl) (by kernel_rfl) (by kernel_rfl) (fun _ _ _ h => h) (.inl ⟨by rfl, ?hy9z⟩) Sz ?rest9z
 case hy9z =>
  rintro w' _
  go_simp
  all_goals with_reducible rfl
 try simp only [Act.put, List.getElem_toArray, List.getElem_cons_succ, List.getElem_cons_zero, List.setIfInBounds_toArray, List.set_cons_zero, List.set_cons_succ]
 refine lec_takeT [11, 12, 14] (i := 10) (v := ?v10z) rfl (by kernel_rfl) (by kernel_rfl) (by kernel_rfl) (by kernel_rfl) (fun _ _ _ h => h) (.inl ⟨by rfl, ?hy10z⟩) Sz ?rest10z
 case hy10z =>
  rintro w' ⟨h1, h2, h3, h4, h5⟩
  go_simp
  all_goals with_reducible rfl
 try simp only [Act.put, List.getElem_toArray, List.getElem_cons_succ, List.getElem_cons_zero, List.setIfInBounds_toArray, List.set_cons_zero, List.set_cons_succ]
 apply two_waysA (A := fun cb X => X.heap[cb]? = some (.cells #[.slice none 0 0, .int .i64 0, .int .i64 0, .slice none 0 0] 134 (0, 0)) /\ Below W0.heap.size W0 X /\ W0.heap.size <= cb)
 case h =>
  intro key
  refine lec_two (i := 7) (j := 13) rfl rfl (by kernel_rfl) ?_ ?_
  ·intro K9 hK9
   rw [if_pos (by rfl)]
   go_simp
   refine Calls.mono (HNU.out W0.drew) ?_
   rintro e w5 ⟨rfl, b5⟩
   have HB5 : Hid _ := b5
   have Sq := HS1.out w5 ((Below.refl _ _).drew.trans b5)
   clear b5
   go_simp
   refine hK9 _ _ (fun _ => Sq) ?_
   clear hK9
   try simp only [Act.put, List.getElem_toArray, List.getElem_cons_succ, List.getElem_cons_zero, List.setIfInBounds_toArray, List.set_cons_zero, List.set_cons_succ]
   refine lec_takeP (i := 11) (v := ?v11a) rfl (by kernel_rfl) (by kernel_rfl) (by kernel_rfl) (by kernel_rfl) (fun _ _ _ h => h) (.inl ⟨by rfl, ?hy11a⟩) Sq ?rest11a
   case hy11a =>
    rintro w' _
    go_simp
    all_goals with_reducible rfl
   try simp only [Act.put, List.getElem_toArray, List.getElem_cons_succ, List.getElem_cons_zero, List.setIfInBounds_toArray, List.set_cons_zero, List.set_cons_succ]
   refine lec_takeP (i := 12) (v := ?v12a) rfl (by kernel_rfl) (by kernel_rfl) (by kernel_rfl) (by kernel_rfl) (fun _ _ _ h => h) (.inl ⟨by rfl, ?hy12a⟩) Sq ?rest12a
   case hy12a =>
    rintro w' _
    go_simp
    all_goals with_reducible rfl
   try simp only [Act.put, List.getElem_toArray, List.getElem_cons_succ, List.getElem_cons_zero, List.setIfInBounds_toArray, List.set_cons_zero, List.set_cons_succ]
   clear Sq
   refine lec_one (i := 13) rfl (by kernel_rfl) ?_
   intro K10 hK10
   rw [if_pos (by rfl)]
   go_simp
   obtain ⟨X, hX⟩ : ∃ X, X = w5.alloc (.cells #[.slice none 0 0, .int .i64 0, .int .i64 0, .slice none 0 0] 134) := ⟨_, rfl⟩
   obtain ⟨cb, hcb⟩ : ∃ cb, cb = w5.heap.size := ⟨_, rfl⟩
   have HA : Hid (X.heap[cb]? = some (.cells #[.slice none 0 0, .int .i64 0, .int .i64 0, .slice none 0 0] 134 (0, 0)) /\ Below W0.heap.size W0 X /\ W0.heap.size <= cb) := by
    rw [hX, hcb]
    exact ⟨heap_alloc_new _ _, (show Below W0.heap.size W0 w5 from (Below.refl _ _).drew.trans HB5.out).alloc HB5.out.size _, HB5.out.size⟩
   have Sr := HS1.out X HA.out.2.1
   rw [<- hX]
   refine hK10 _ _ (fun _ => Sr) ?_
   rw [<- hcb]
   clear hK10 hX hcb
   try simp only [Act.put, List.getElem_toArray, List.getElem_cons_succ, List.getElem_cons_zero, List.setIfInBounds_toArray, List.set_cons_zero, List.set_cons_succ]
   refine lec_l (l' := #[true, true, true, true, true, true, true, true, true, true, true, true, true, true, false]) (by kernel_rfl) ?_
   exact key cb X HA.out
  ·intro K10 hK10
   rw [if_pos (by rfl)]
   go_simp
   obtain ⟨X1, hX1⟩ : ∃ X1, X1 = (W0.alloc (.cells #[.slice none 0 0, .int .i64 0, .int .i64 0, .slice none 0 0] 134)).drew := ⟨_, rfl⟩
   have HB1 : Hid (Below W0.heap.size W0 X1) := by rw [hX1]; exact (below_newA W0 _).drew
   have HZ1 : Hid (X1.heap[W0.heap.size]? = some (.cells #[.slice none 0 0, .int .i64 0, .int .i64 0, .slice none 0 0] 134 (0, 0)) /\ W0.heap.size < X1.heap.size) := by rw [hX1]; exact ⟨heap_alloc_new W0 _, by show W0.heap.size < (W0.alloc _).heap.size; simp⟩
   rw [<- hX1]
   have Sx := HS1.out X1 HB1.out
   refine hK10 _ _ (fun _ => Sx) ?_
   obtain ⟨cb, hcb⟩ : ∃ cb, cb = W0.heap.size := ⟨_, rfl⟩
   rw [<- hcb]
   have HCB : Hid (cb = W0.heap.size) := hcb
   clear hK10 hX1 hcb
   try simp only [Act.put, List.getElem_toArray, List.getElem_cons_succ, List.getElem_cons_zero, List.setIfInBounds_toArray, List.set_cons_zero, List.set_cons_succ]
   refine lec_one (i := 7) rfl (by kernel_rfl) ?_
   intro K9 hK9
   rw [if_pos (by rfl)]
   go_simp
   refine Calls.mono (HNU.out X1) ?_
   rintro e w5 ⟨rfl, b5⟩
   have HB5 : Hid _ := b5
   have HA : Hid (w5.heap[cb]? = some (.cells #[.slice none 0 0, .int .i64 0, .int .i64 0, .slice none 0 0] 134 (0, 0)) /\ Below W0.heap.size W0 w5 /\ W0.heap.size <= cb) := by
    rw [HCB.out]
    exact ⟨(b5.block _ HZ1.out.2).trans HZ1.out.1, HB1.out.trans (b5.mono HB1.out.size), Nat.le_refl _⟩
   have Sq := HS1.out w5 HA.out.2.1
   clear b5
   go_simp
   refine hK9 _ _ (fun _ => Sq) ?_
   clear hK9
   try simp only [Act.put, List.getElem_toArray, List.getElem_cons_succ, List.getElem_cons_zero, List.setIfInBounds_toArray, List.set_cons_zero, List.set_cons_succ]
   refine lec_one (i := 11) rfl (by kernel_rfl) ?_
   intro K11 hK11
   rw [if_pos (by rfl)]
   go_simp
   refine hK11 _ _ (fun _ => Sq) ?_
   clear hK11
   try simp only [Act.put, List.getElem_toArray, List.getElem_cons_succ, List.getElem_cons_zero, List.setIfInBounds_toArray, List.set_cons_zero, List.set_cons_succ]
   refine lec_one (i := 12) rfl (by kernel_rfl) ?_
   intro K12 hK12
   rw [if_pos (by rfl)]
   go_simp
   refine hK12 _ _ (fun _ => Sq) ?_
   clear hK12
   try simp only [Act.put, List.getElem_toArray, List.getElem_cons_succ, List.getElem_cons_zero, List.setIfInBounds_toArray, List.set_cons_zero, List.set_cons_succ]
   refine lec_l (l' := #[true, true, true, true, true, true, true, true, true, true, true, true, true, true, false]) (by kernel_rfl) ?_
   exact key cb w5 HA.out
 case g =>
 intro cb X hAX
 obtain ⟨hz, hbX, hcbl⟩ := hAX
 refine lec_one (i := 14) rfl (by kernel_rfl) ?_
 intro K11 hK11
 rw [if_pos (by rfl)]
 refine wp_store_row _ _ _ rfl cb #[.slice none 0 0, .int .i64 kd, .int .i64 nv, .slice a2 nw c2] rfl rfl 134 _ hz (by kernel_rfl) rfl (by kernel_rfl) ?_
 obtain ⟨X2, hX2⟩ : ∃ X2, X2 = X.setRow cb #[.slice none 0 0, .int .i64 kd, .int .i64 nv, .slice a2 nw c2] := ⟨_, rfl⟩
 rw [<- hX2]
 refine hK11 _ _ (fun h => by cases h) ?_
 have HCL := HST.out cb X X2 hz hbX hcbl hX2
 clear hK11 hz hbX hX2
 refine lec_done (by kernel_rfl) ?_
 clear HNU HS1 HST Sz
 obtain ⟨⟨c0, lpb⟩, hCL⟩ := HCL.out
 have HN0 : Hid _ := hCL
 clear hCL HCL
 go_wp2_with fail
 go_loopw [24] (fun v wr => ∃ k : Nat, k <= nb /\ v = .int .i64 (k : Int) /\ ∃ u, Hid (NbS s BD w rb cb [.int .i64 kd, .int .i64 nv, .slice a2 nw c2] u k wr)) (fun v _ => nb - (intOf v).toNat)
 case atStart => exact ⟨0, by omega, rfl, _, HN0⟩
 case round =>
  clear HN0 c0 lpb
  obtain ⟨k, hkn, rfl, u, HN⟩ := hrel
  obtain ⟨wq, rfl⟩ : ∃ wq, wq = wr := ⟨_, rfl⟩
  by_cases hlt : k < nb
  ·have hki : (k : Int) < (nb : Int) := by omega
   have hkB : k < BD.length := by rw [<- HNB.out]; exact hlt
   obtain ⟨ib, io, x1, y1, x2, y2, ea, hbl, i0, i1, i2, i3, i4, i5, hLo, hSv, ham⟩ := HRD.out wq k HN.out.low hkB
   subst ea
   obtain ⟨xs, hxr, hxl, hxe⟩ := HN.out.row.out
   obtain ⟨va, vc, ev, hvl, hvm⟩ := own_slice hxr.out
   have hxk : xs.length = k := by rw [hxl]; simp; omega
   rw [hxk] at ev
   obtain ⟨vn, hvn⟩ : ∃ n, n = k := ⟨_, rfl⟩
   rw [<- hvn] at ev
   subst ev
   have hlx : xs.length + 1 <= 1000000000 := by omega
   have hHN := HN.out
   have HPU0 : Hid (∀ wB WB w7 v7 g, Below wq.heap.size wq wB -> Num wB g (BD[k].args.map (numP s)) -> Below wB.heap.size wB WB -> Row w7 w.heap.size 147 4 v7 (xs ++ [[.int .i64 BD[k].op, .int .i64 (numP s BD[k].dst), .int .i64 BD[k].imm, .slice (some ⟨g, 0, none⟩) BD[k].args.length BD[k].args.length]]) -> GI w.heap.size WB w7 (.slice va vn vc) v7 -> w7.cell? ⟨cb, 0, none⟩ = some (.slice va vn vc) /\ w7.frozen? ⟨cb, 0, none⟩ = false /\ cb < w7.heap.size /\ Hid (NbS s BD w rb cb [.int .i64 kd, .int .i64 nv, .slice a2 nw c2] v7 (k + 1) (w7.setCell ⟨cb, 0, none⟩ v7))) := fun wB WB w7 v7 g bB hg bW hr hG => hHN.next hkB ham hxk hxe bB hg bW (hxr.keep (bB.trans (bW.mono bB.size))) hr hG
   have HRW : Hid (∀ W, Below wq.heap.size wq W -> Hid (Row W w.heap.size 147 4 (.slice va vn vc) xs /\ w.heap.size <= W.heap.size)) := fun W hW => ⟨hxr.keep hW, Nat.le_trans hHN.low.size hW.size⟩
   have HNS0 : Hid (∀ wA, Below wq.heap.size wq wA -> Calls Tryz.prog 64 #[.slice x1 BD[k].args.length y1, .int .i64 s] wA fun e w' => ∃ g, e = .returned (.slice (some ⟨g, 0, none⟩) BD[k].args.length BD[k].args.length) /\ Num w' g (BD[k].args.map (numP s)) /\ Below wA.heap.size wA w') := fun wA bA => by
    refine (numbers_any wA (hLo.below bA (Nat.le_refl _)) rfl ham s HSL.out).mono ?_
    rintro e w' ⟨rfl, q1, q2⟩
    exact ⟨_, rfl, q1, q2⟩
   have HND0 : Hid (∀ W, Calls Tryz.prog 83 #[.agg #[.int .i64 BD[k].dst.1, .int .i64 BD[k].dst.2], .int .i64 s] W fun e w' => e = .returned (.int .i64 (numP s BD[k].dst)) /\ Below W.heap.size W w') := fun W => numberA_any W _ s HSL.out
   obtain ⟨op, eop⟩ : ∃ n, n = BD[k].op := ⟨_, rfl⟩
   obtain ⟨im, eim⟩ : ∃ n, n = BD[k].imm := ⟨_, rfl⟩
   obtain ⟨dk, edk⟩ : ∃ n, n = BD[k].dst.1 := ⟨_, rfl⟩
   obtain ⟨dn, edn⟩ : ∃ n, n = BD[k].dst.2 := ⟨_, rfl⟩
   obtain ⟨nd, end_⟩ : ∃ n, n = numP s BD[k].dst := ⟨_, rfl⟩
   obtain ⟨na, ena⟩ : ∃ n, n = BD[k].args.length := ⟨_, rfl⟩
   obtain ⟨ns, ens⟩ : ∃ n, n = BD[k].saves.length := ⟨_, rfl⟩
   obtain ⟨NA, eNA⟩ : ∃ n, n = BD[k].args.map (numP s) := ⟨_, rfl⟩
   rw [<- eop] at i0 HPU0
   rw [<- eim] at i1 HPU0
   rw [<- edk] at i2 HND0
   rw [<- edn] at i3 HND0
   rw [<- end_] at HPU0 HND0
   rw [<- ena] at i4 HPU0 HNS0
   rw [<- ens] at i5
   rw [<- eNA] at HPU0 HNS0
   obtain ⟨W1, hW1⟩ : ∃ W1, W1 = wq.alloc (.cells #[.int .i64 op, .int .i64 im, .int .i64 dk, .int .i64 dn, .slice x1 na y1, .slice x2 ns y2] 29) := ⟨_, rfl⟩
   obtain ⟨lb, hlb⟩ : ∃ lb, lb = wq.heap.size := ⟨_, rfl⟩
   have b1 : Below wq.heap.size wq W1 := by rw [hW1]; exact below_newA wq _
   have hx1 : W1.heap[lb]? = some (.cells #[.int .i64 op, .int .i64 im, .int .i64 dk, .int .i64 dn, .slice x1 na y1, .slice x2 ns y2] 29 (0, 0)) := by rw [hW1, hlb]; exact heap_alloc_new wq _
   have bd1 : Below wq.heap.size wq W1.drew := b1.drew
   have HND : Hid (Calls Tryz.prog 83 #[.agg #[.int .i64 dk, .int .i64 dn], .int .i64 s] W1.drew fun e w' => e = .returned (.int .i64 nd) /\ Below W1.heap.size W1 w') := by
    refine (HND0.out W1.drew).mono ?_
    rintro e w' ⟨rfl, q⟩
    exact ⟨rfl, (Below.refl _ _).drew.trans q⟩
   have HB1 : Hid (∀ W, Below W1.heap.size W1 W -> Below wq.heap.size wq W) := fun W hW => b1.trans (hW.mono b1.size)
   have HNS : Hid (∀ wA, Below W1.heap.size W1 wA -> Calls Tryz.prog 64 #[.slice x1 na y1, .int .i64 s] wA fun e w' => ∃ g, e = .returned (.slice (some ⟨g, 0, none⟩) na na) /\ Num w' g NA /\ Below W1.heap.size W1 w') := fun wA bA => by
    refine (HNS0.out wA (HB1.out _ bA)).mono ?_
    rintro e w' ⟨g, rfl, q1, q2⟩
    exact ⟨g, rfl, q1, bA.trans (q2.mono bA.size)⟩
   have HS5 : Hid (∀ W, Below W1.heap.size W1 W -> (fun w' : World => w'.cell? ⟨cb, 0, none⟩ = some (.slice va vn vc) /\ w'.cell? ⟨lb, 0, none⟩ = some (.int .i64 op) /\ w'.cell? ⟨lb, 1, none⟩ = some (.int .i64 im) /\ w'.cell? ⟨lb, 2, none⟩ = some (.int .i64 dk) /\ w'.cell? ⟨lb, 3, none⟩ = some (.int .i64 dn) /\ w'.cell? ⟨lb, 4, none⟩ = some (.slice x1 na y1) /\ lb < w'.heap.size /\ cb < w'.heap.size) W) := fun W hW => by
    have q5 := (hHN.below (HB1.out W hW)).cbx
    have q6 := (hW.block lb (gl hx1)).trans hx1
    exact ⟨cell_arr q5 rfl, cell_arr q6 rfl, cell_arr q6 rfl, cell_arr q6 rfl, cell_arr q6 rfl, cell_arr q6 rfl, (gl q6), (gl q5)⟩
   have HPU : Hid _ := HPU0.out
   have Sy : (fun w' : World => w'.cell? ⟨cb, 0, none⟩ = some (.slice va vn vc) /\ w'.cell? ⟨lb, 0, none⟩ = some (.int .i64 op) /\ w'.cell? ⟨lb, 1, none⟩ = some (.int .i64 im) /\ w'.cell? ⟨lb, 2, none⟩ = some (.int .i64 dk) /\ w'.cell? ⟨lb, 3, none⟩ = some (.int .i64 dn) /\ w'.cell? ⟨lb, 4, none⟩ = some (.slice x1 na y1) /\ lb < w'.heap.size /\ cb < w'.heap.size) W1.drew := HS5.out W1.drew (Below.refl _ _).drew
   clear HN hHN hLo hSv ham hxr hxl hxe hvl hvm hxk hvn HPU0 HNS0 HND0 eop eim edk edn end_ ena ens eNA b1 hx1 bd1 hkB HRD
   go_upto_region 5 with fail
   rw [<- hW1, <- hlb]
   clear hW1 hlb i0 i1 i2 i3 i4 i5
   refine lec_start (S := fun w' : World => w'.cell? ⟨cb, 0, none⟩ = some (.slice va vn vc) /\ w'.cell? ⟨lb, 0, none⟩ = some (.int .i64 op) /\ w'.cell? ⟨lb, 1, none⟩ = some (.int .i64 im) /\ w'.cell? ⟨lb, 2, none⟩ = some (.int .i64 dk) /\ w'.cell? ⟨lb, 3, none⟩ = some (.int .i64 dn) /\ w'.cell? ⟨lb, 4, none⟩ = some (.slice x1 na y1) /\ lb < w'.heap.size /\ cb < w'.heap.size) (z := 16) (by kernel_rfl) ?_
   show lec _ _ _ _ _ 19 _ _ _
   try simp only [List.size_toArray, List.length_cons, List.length_nil, Array.replicate]
   refine lec_takeP (i := 0) (v := ?v0y) rfl (by kernel_rfl) (by kernel_rfl) (by kernel_rfl) (by kernel_rfl) (fun _ _ _ h => h) (.inl ⟨by rfl, ?hy0y⟩) Sy ?rest0y
   case hy0y =>
    rintro w' _
    go_simp
    all_goals with_reducible rfl
   try simp only [Act.put, List.getElem_toArray, List.getElem_cons_succ, List.getElem_cons_zero, List.setIfInBounds_toArray, List.set_cons_zero, List.set_cons_succ]
   refine lec_takeT [16, 17, 18] (i := 1) (v := ?v1y) rfl (by kernel_rfl) (by kernel_rfl) (by kernel_rfl) (by kernel_rfl) (fun _ _ _ h => h) (.inl ⟨by rfl, ?hy1y⟩) Sy ?rest1y
   case hy1y =>
    rintro w' ⟨h1, h2, h3, h4, h5, h6, h7, h8⟩
    go_simp
    all_goals with_reducible rfl
   try simp only [Act.put, List.getElem_toArray, List.getElem_cons_succ, List.getElem_cons_zero, List.setIfInBounds_toArray, List.set_cons_zero, List.set_cons_succ]
   refine lec_takeP (i := 2) (v := ?v2y) rfl (by kernel_rfl) (by kernel_rfl) (by kernel_rfl) (by kernel_rfl) (fun _ _ _ h => h) (.inl ⟨by rfl, ?hy2y⟩) Sy ?rest2y
   case hy2y =>
    rintro w' _
    go_simp
    all_goals with_reducible rfl
   try simp only [Act.put, List.getElem_toArray, List.getElem_cons_succ, List.getElem_cons_zero, List.setIfInBounds_toArray, List.set_cons_zero, List.set_cons_succ]
   refine lec_takeT [14, 15, 16, 17, 18] (i := 3) (v := ?v3y) rfl (by kernel_rfl) (by kernel_rfl) (by kernel_rfl) (by kernel_rfl) (fun _ _ _ h => h) (.inl ⟨by rfl, ?hy3y⟩) Sy ?rest3y
   case hy3y =>
    rintro w' ⟨h1, h2, h3, h4, h5, h6, h7, h8⟩
    go_simp
    all_goals with_reducible rfl
   try simp only [Act.put, List.getElem_toArray, List.getElem_cons_succ, List.getElem_cons_zero, List.setIfInBounds_toArray, List.set_cons_zero, List.set_cons_succ]
   refine lec_takeP (i := 4) (v := ?v4y) rfl (by kernel_rfl) (by kernel_rfl) (by kernel_rfl) (by kernel_rfl) (fun _ _ _ h => h) (.inl ⟨by rfl, ?hy4y⟩) Sy ?rest4y
   case hy4y =>
    rintro w' _
    go_simp
    all_goals with_reducible rfl
   try simp only [Act.put, List.getElem_toArray, List.getElem_cons_succ, List.getElem_cons_zero, List.setIfInBounds_toArray, List.set_cons_zero, List.set_cons_succ]
   refine lec_takeT [7, 13, 14, 15, 16, 17, 18] (i := 5) (v := ?v5y) rfl (by kernel_rfl) (by kernel_rfl) (by kernel_rfl) (by kernel_rfl) (fun _ _ _ h => h) (.inl ⟨by rfl, ?hy5y⟩) Sy ?rest5y
   case hy5y =>
    rintro w' ⟨h1, h2, h3, h4, h5, h6, h7, h8⟩
    go_simp
    all_goals with_reducible rfl
   try simp only [Act.put, List.getElem_toArray, List.getElem_cons_succ, List.getElem_cons_zero, List.setIfInBounds_toArray, List.set_cons_zero, List.set_cons_succ]
   refine lec_takeP (i := 6) (v := ?v6y) rfl (by kernel_rfl) (by kernel_rfl) (by kernel_rfl) (by kernel_rfl) (fun _ _ _ h => h) (.inl ⟨by rfl, ?hy6y⟩) Sy ?rest6y
   case hy6y =>
    rintro w' _
    go_simp
    all_goals with_reducible rfl
   try simp only [Act.put, List.getElem_toArray, List.getElem_cons_succ, List.getElem_cons_zero, List.setIfInBounds_toArray, List.set_cons_zero, List.set_cons_succ]
   refine lec_takeP (i := 8) (v := ?v8y) rfl (by kernel_rfl) (by kernel_rfl) (by kernel_rfl) (by kernel_rfl) (fun _ _ _ h => h) (.inl ⟨by rfl, ?hy8y⟩) Sy ?rest8y
   case hy8y =>
    rintro w' _
    go_simp
    all_goals with_reducible rfl
   try simp only [Act.put, List.getElem_toArray, List.getElem_cons_succ, List.getElem_cons_zero, List.setIfInBounds_toArray, List.set_cons_zero, List.set_cons_succ]
   refine lec_takeT [14, 15, 16, 17, 18] (i := 9) (v := ?v9y) rfl (by kernel_rfl) (by kernel_rfl) (by kernel_rfl) (by kernel_rfl) (fun _ _ _ h => h) (.inl ⟨by rfl, ?hy9y⟩) Sy ?rest9y
   case hy9y =>
    rintro w' ⟨h1, h2, h3, h4, h5, h6, h7, h8⟩
    go_simp
    all_goals with_reducible rfl
   try simp only [Act.put, List.getElem_toArray, List.getElem_cons_succ, List.getElem_cons_zero, List.setIfInBounds_toArray, List.set_cons_zero, List.set_cons_succ]
   refine lec_takeP (i := 10) (v := ?v10y) rfl (by kernel_rfl) (by kernel_rfl) (by kernel_rfl) (by kernel_rfl) (fun _ _ _ h => h) (.inl ⟨by rfl, ?hy10y⟩) Sy ?rest10y
   case hy10y =>
    rintro w' _
    go_simp
    all_goals with_reducible rfl
   try simp only [Act.put, List.getElem_toArray, List.getElem_cons_succ, List.getElem_cons_zero, List.setIfInBounds_toArray, List.set_cons_zero, List.set_cons_succ]
   refine lec_takeT [13, 14, 15, 16, 17, 18] (i := 11) (v := ?v11y) rfl (by kernel_rfl) (by kernel_rfl) (by kernel_rfl) (by kernel_rfl) (fun _ _ _ h => h) (.inl ⟨by rfl, ?hy11y⟩) Sy ?rest11y
   case hy11y =>
    rintro w' ⟨h1, h2, h3, h4, h5, h6, h7, h8⟩
    go_simp
    all_goals with_reducible rfl
   try simp only [Act.put, List.getElem_toArray, List.getElem_cons_succ, List.getElem_cons_zero, List.setIfInBounds_toArray, List.set_cons_zero, List.set_cons_succ]
   refine lec_takeP (i := 12) (v := ?v12y) rfl (by kernel_rfl) (by kernel_rfl) (by kernel_rfl) (by kernel_rfl) (fun _ _ _ h => h) (.inl ⟨by rfl, ?hy12y⟩) Sy ?rest12y
   case hy12y =>
    rintro w' _
    go_simp
    all_goals with_reducible rfl
   try simp only [Act.put, List.getElem_toArray, List.getElem_cons_succ, List.getElem_cons_zero, List.setIfInBounds_toArray, List.set_cons_zero, List.set_cons_succ]
   refine lec_one (i := 7) rfl (by kernel_rfl) ?_
   intro K7 hK7
   rw [if_pos (by rfl)]
   go_simp
   refine Calls.mono HND.out ?_
   rintro e wA ⟨rfl, bA⟩
   have HBA : Hid _ := bA
   have Sa := HS5.out wA bA
   clear bA
   go_simp
   refine hK7 _ _ (fun _ => Sa) ?_
   clear hK7
   try simp only [Act.put, List.getElem_toArray, List.getElem_cons_succ, List.getElem_cons_zero, List.setIfInBounds_toArray, List.set_cons_zero, List.set_cons_succ]
   refine lec_one (i := 13) rfl (by kernel_rfl) ?_
   intro K13 hK13
   rw [if_pos (by rfl)]
   go_simp
   refine Calls.mono (HNS.out wA HBA.out) ?_
   rintro e wB ⟨ng, rfl, hng, bB⟩
   have HBB : Hid _ := bB
   have HNG : Hid _ := hng
   have Sb := HS5.out wB bB
   clear bB hng
   go_simp
   refine hK13 _ _ (fun _ => Sb) ?_
   clear hK13
   try simp only [Act.put, List.getElem_toArray, List.getElem_cons_succ, List.getElem_cons_zero, List.setIfInBounds_toArray, List.set_cons_zero, List.set_cons_succ]
   refine lec_one (i := 14) rfl (by kernel_rfl) ?_
   intro K14 hK14
   rw [if_pos (by rfl)]
   go_simp
   refine hK14 _ _ (fun _ => Sb) ?_
   clear hK14
   try simp only [Act.put, List.getElem_toArray, List.getElem_cons_succ, List.getElem_cons_zero, List.setIfInBounds_toArray, List.set_cons_zero, List.set_cons_succ]
   refine lec_one (i := 15) rfl (by kernel_rfl) ?_
   intro K9 hK9
   rw [if_pos (by rfl)]
   go_simp
   obtain ⟨WB, hWB⟩ : ∃ WB, WB = wB.alloc (.cells #[.int .i64 op, .int .i64 nd, .int .i64 im, .slice (some ⟨ng, 0, none⟩) na na] 147) := ⟨_, rfl⟩
   obtain ⟨sb, hsb⟩ : ∃ sb, sb = wB.heap.size := ⟨_, rfl⟩
   have bWB : Below wB.heap.size wB WB := by rw [hWB]; exact below_newA wB _
   have hcW : WB.heap[sb]? = some (.cells #[.int .i64 op, .int .i64 nd, .int .i64 im, .slice (some ⟨ng, 0, none⟩) na na] 147 (0, 0)) := by rw [hWB, hsb]; exact heap_alloc_new wB _
   rw [<- hWB]
   have Sw := HS5.out WB (HBB.out.trans (bWB.mono HBB.out.size))
   refine hK9 _ _ (fun _ => Sw) ?_
   rw [<- hsb]
   have HBW : Hid _ := bWB
   have HR6 := HRW.out WB (HB1.out _ (HBB.out.trans (bWB.mono HBB.out.size)))
   have HCN : Hid (∀ j u, ([.int .i64 op, .int .i64 nd, .int .i64 im, .slice (some ⟨ng, 0, none⟩) na na] : List Value)[j]? = some u -> WB.cell? ((⟨sb, 0, none⟩ : Addr).add j) = some u) := fun j u hu => by
    rw [add_noneR, Nat.zero_add]
    exact cell_arr hcW (by simpa using hu)
   clear hK9 hWB hsb bWB hcW
   try simp only [Act.put, List.getElem_toArray, List.getElem_cons_succ, List.getElem_cons_zero, List.setIfInBounds_toArray, List.set_cons_zero, List.set_cons_succ]
   refine lec_one (i := 16) rfl (by kernel_rfl) ?_
   intro K10 hK10
   refine step_append_row rfl _ _ 130 147 4 _ 48 rfl Tryz.underlying130 info_lins rfl (by decide) (by decide) w.heap.size (.slice va vn vc) xs rfl HR6.out.1 sb rfl [.int .i64 op, .int .i64 nd, .int .i64 im, .slice (some ⟨ng, 0, none⟩) na na] rfl HCN.out (fun u hu => by simp at hu; rcases hu with rfl | rfl | rfl | rfl <;> rfl) hlx HR6.out.2 ?_
   intro v7 w7 h7 g7
   refine hK10 _ _ (fun h => by cases h) ?_
   have HP7 := HPU.out wB WB w7 v7 ng (HB1.out _ HBB.out) HNG.out HBW.out h7 g7
   obtain ⟨xa7, xc7, ev7, _, _⟩ := own_slice h7.out
   clear hK10 h7 g7
   obtain ⟨n7, hn7⟩ : ∃ n7, n7 = (xs ++ [([.int .i64 op, .int .i64 nd, .int .i64 im, .slice (some ⟨ng, 0, none⟩) na na] : List Value)]).length := ⟨_, rfl⟩
   rw [<- hn7] at ev7
   clear hn7
   subst ev7
   obtain ⟨q7, z7, t7, HP8⟩ := HP7
   try simp only [Act.put, List.getElem_toArray, List.getElem_cons_succ, List.getElem_cons_zero, List.setIfInBounds_toArray, List.set_cons_zero, List.set_cons_succ]
   refine lec_one (i := 17) rfl (by kernel_rfl) ?_
   intro K11 hK11
   rw [if_pos (by rfl)]
   go_simp
   refine hK11 _ _ (fun h => by cases h) ?_
   clear hK11
   try simp only [Act.put, List.getElem_toArray, List.getElem_cons_succ, List.getElem_cons_zero, List.setIfInBounds_toArray, List.set_cons_zero, List.set_cons_succ]
   refine lec_one (i := 18) rfl (by kernel_rfl) ?_
   intro K12 hK12
   rw [if_pos (by rfl)]
   go_simp
   refine hK12 _ _ (fun h => by cases h) ?_
   clear hK12
   try simp only [Act.put, List.getElem_toArray, List.getElem_cons_succ, List.getElem_cons_zero, List.setIfInBounds_toArray, List.set_cons_zero, List.set_cons_succ]
   refine lec_done (by kernel_rfl) ?_
   clear Sy HND HNS HPU HRW HS5 HB1 q7 z7 t7
   go_wp2_with fail
   go_roundw
   case rel => exact ⟨k + 1, by omega, by first | rfl | go_num, _, HP8.out⟩
   case measure => simp [intOf]; try omega
  ·obtain rfl : k = nb := by omega
   obtain ⟨ua, uc, eu, -, -⟩ := HN.out.row.sl
   obtain ⟨un, hun⟩ : ∃ n, n = ((BD.take k).map (nuI s)).length := ⟨_, rfl⟩
   rw [<- hun] at eu
   subst eu
   have HF : Hid _ := HFI.out cb _ wq HN.out
   have hcx := HN.out.cbx
   have hrx := HN.out.rbx
   have m0 : wq.cell? ⟨cb, 0, none⟩ = some (.slice ua un uc) := cell_arr hcx rfl
   have m1 : wq.cell? ⟨cb, 1, none⟩ = some (.int .i64 kd) := cell_arr hcx rfl
   have m2 : wq.cell? ⟨cb, 2, none⟩ = some (.int .i64 nv) := cell_arr hcx rfl
   have m3 : wq.cell? ⟨cb, 3, none⟩ = some (.slice a2 nw c2) := cell_arr hcx rfl
   have lcb : cb < wq.heap.size := (gl hcx)
   have hnlt : decide ((k : Int) < (k : Int)) = false := by simp
   have HZ2 : Hid _ := hrx
   obtain ⟨w3, hw3⟩ : ∃ w3, w3 = wq.setRow rb #[.slice ua un uc, .int .i64 kd, .int .i64 nv, .slice a2 nw c2] := ⟨_, rfl⟩
   have HR3 : Hid (w3.heap[rb]? = some (.cells #[.slice ua un uc, .int .i64 kd, .int .i64 nv, .slice a2 nw c2] 134 (0, 0))) := by rw [hw3]; exact setRow_heap wq rb _ _ _ _ hrx
   have HF3 : Hid (LbE B w3 [.slice ua un uc, .int .i64 kd, .int .i64 nv, .slice a2 nw c2] (nuB s ⟨BD, kd, (v1, v2), ways⟩) /\ Below w.heap.size w w3) := by rw [hw3]; exact HF.out
   have HW3 : Hid _ := hw3
   clear HN hun hcx hrx hw3 HF HFI HRD HZ0
   go_wp2_with (refine wpList_store_row rfl _ _ _ rfl rb _ rfl rfl 134 _ HZ2.out (by kernel_rfl) rfl (by kernel_rfl) ?_; rw [<- HW3.out]; clear HW3)
   refine bodyPost_ret (v := .agg #[.slice ua un uc, .int .i64 kd, .int .i64 nv, .slice a2 nw c2]) ?_ rfl ⟨[.slice ua un uc, .int .i64 kd, .int .i64 nv, .slice a2 nw c2], rfl, HF3.out⟩
   exact results_cell_row Tryz.results65 _ _ rb 134 _ (0, 0) _ rfl HR3.out Tryz.underlying134 rfl (by kernel_rfl)
end Go.Proofs.YtegoemeefmjnoaaGreatDoor
