import Derived.Test.YtddcpbidlbiamaaHpG
import Derived.Test.YtddcpbidlbiamaaHpE
set_option linter.unusedVariables false
namespace Go.Proofs.Ytddcpbidlbiamaa
open Go.ChangeShapes Go.WideShapes Go.ChangeAt Go.RowKit

theorem rmake_no (w : World) {B r tk v L c} (H : RH w B r tk v L c) (h0 : 0 ≤ tk) (h1 : tk ≤ 4611686018427387904) (k : Int) (hk : Fits k) (hno : k < 0 ∨ 4611686018427387904 ≤ tk + k) : Calls Try.prog 22 #[.pointer (some ⟨r, 0, none⟩), .int .i64 k] w fun e w' => e = .returned (.tuple #[.int .i64 0, .bool false]) ∧ w' = w := by
  have c1 := cell_arr (i := 1) H.box rfl
  obtain ⟨k1, k2⟩ := hk
  clear H
  by_cases hneg : k < 0
  · go_enter Try.func22, Try.ntmps22
    go_wp2
    go_ret2
    exact ⟨rfl, rfl⟩
  · have h1 : 4611686018427387903 - tk < k := by omega
    clear hno
    go_enter Try.func22, Try.ntmps22
    go_wp2
    go_ret2
    exact ⟨rfl, rfl⟩

/-- A new block of the document's. -/
def RB.new (a n : Int) : RB := ⟨a, n, .slice none 0 0, .slice none 0 0, .slice none 0 0, [], [], []⟩
theorem RH.addBlock {w w2 : World} {B r tk v L c u t'} (H : RH w B r tk v L c) (hc : c ≤ 1000000000) (y1 y2 : Int) (hr : w2.ownsRow B 59 5 u (L.length + 1) (rbs (L ++ [RB.new y1 y2]))) (hG : GI B w w2 v u) :
    (w2.setCell ⟨r, 0, none⟩ u).cell? ⟨r, 1, none⟩ = some (.int .i64 tk) ∧ (w2.setCell ⟨r, 0, none⟩ u).frozen? ⟨r, 1, none⟩ = false ∧ w2.cell? ⟨r, 0, none⟩ = some v ∧ w2.cell? ⟨r, 1, none⟩ = some (.int .i64 tk) ∧ w2.frozen? ⟨r, 0, none⟩ = false ∧ w2.frozen? ⟨r, 1, none⟩ = false ∧
    RH ((w2.setCell ⟨r, 0, none⟩ u).setCell ⟨r, 1, none⟩ (.int .i64 t')) B r t' u (L ++ [RB.new y1 y2]) (c + 1) ∧ Only (RF r v L) w ((w2.setCell ⟨r, 0, none⟩ u).setCell ⟨r, 1, none⟩ (.int .i64 t')) ∧ ∀ q, RF r u (L ++ [RB.new y1 y2]) q → RF r v L q ∨ w.heap.size ≤ q := by
  have hrl := (H.lt r (.inl rfl)).2
  have hbox : w2.heap[r]? = some (.cells #[v, .int .i64 tk] 57 (0, 0)) := (hG.blk r hrl H.vr).trans H.box
  have hb1 : (w2.setCell ⟨r, 0, none⟩ u).heap[r]? = some (.cells #[u, .int .i64 tk] 57 (0, 0)) := heap_set_at hbox
  have hids : idsOf (L ++ [RB.new y1 y2]) = idsOf L := by simp [idsOf, RB.new, RB.ids, Value.ownBlock]
  have far : ∀ q, q ≠ r → ((w2.setCell ⟨r, 0, none⟩ u).setCell ⟨r, 1, none⟩ (.int .i64 t')).heap[q]? = w2.heap[q]? := fun q hq => (heap_set_other hq).trans (heap_set_other hq)
  have hur : u.ownBlock ≠ some r := own_not hr hbox (by decide)
  refine ⟨cell_arr (i := 1) hb1 rfl, fz_of hb1, cell_arr (i := 0) hbox rfl, cell_arr (i := 1) hbox rfl, fz_of hbox, fz_of hbox, ⟨heap_set_at hb1, ?_, ?_, by rw [hids]; exact H.nod, H.bas, by simp; exact H.len, ?_⟩, ?_, ?_⟩
  · have : w2.ownsRow B 59 5 u (L ++ [RB.new y1 y2]).length (rbs (L ++ [RB.new y1 y2])) := by simpa using hr
    exact own_move this fun q hq => far q (fun e => hur (by rw [hq, e]))
  · intro x hx
    rcases List.mem_append.1 hx with h | h
    · have ho := H.own x h
      refine ho.move fun q hq => ?_
      have hm : q ∈ idsOf L := List.mem_flatMap.2 ⟨x, h, hq⟩
      rw [far q (fun e => H.ir (by rw [← e]; exact hm))]
      exact hG.blk q (ho.lt q hq).2 (H.iv hm)
    · simp at h
      subst h
      exact ⟨OwnI.nil _ _, OwnI.nil _ _, OwnI.nil _ _⟩
  · intro x hx
    rcases List.mem_append.1 hx with h | h
    · have := H.bd x h; omega
    · simp at h
      subst h
      simp [RB.new]
  · refine (((show Only (fun q => v.ownBlock = some q) w w2 from ⟨hG.bel.os, hG.bel.tape, hG.bel.output, hG.bel.size, fun q hq hno => hG.blk q hq hno⟩).mono ?_).trans (Only.of_set _ _ _) ?_).trans (Only.of_set _ _ _) ?_
    · intro q _ h; exact .inr (.inl h)
    · rintro q _ rfl; exact .inl rfl
    · rintro q _ rfl; exact .inl rfl
  · rintro q (h | h | h)
    · exact .inl (.inl h)
    · rcases hG.own q h with h | h
      · exact .inl (.inr (.inl h))
      · exact .inr h
    · rw [hids] at h
      exact .inl (.inr (.inr h))

theorem rmake_yes (w : World) {B r tk v L c} (H : RH w B r tk v L c) (hB : B ≤ w.heap.size) (hc : c ≤ 1000000000) (l0 : 0 ≤ tk) (k : Int) (h0 : 0 ≤ k) (h1 : tk + k < 4611686018427387904) :
    Calls Try.prog 22 #[.pointer (some ⟨r, 0, none⟩), .int .i64 k] w fun e w' => e = .returned (.tuple #[.int .i64 (tk + 1), .bool true]) ∧ ∃ u, RH w' B r (tk + k + 1) u (L ++ [RB.new (tk + 1) k]) (c + 1) ∧ Only (RF r v L) w w' ∧ ∀ q, RF r u (L ++ [RB.new (tk + 1) k]) q → RF r v L q ∨ w.heap.size ≤ q := by
  have c0 := cell_arr (i := 0) H.box rfl
  have c1 := cell_arr (i := 1) H.box rfl
  have hrl := (H.lt r (.inl rfl)).2
  obtain ⟨ao, cp, rfl, n1, n2⟩ := own_slice H.row
  have HH := show Hid (RH w B r tk (.slice ao L.length cp) L c) from H
  have hlen := H.len
  clear H
  go_enter Try.func22, Try.ntmps22
  go_wp2_with (first
    | (at_builtin; refine wpList_append_rb rfl _ _ rfl B _ L.length w.heap.size L (RB.new (tk + 1) k) _ _ rfl ?_ HH.out.row ?_ rfl (by omega) hB ?_; (next => rfl); (next => rfl); intro u w2 hr hG
       obtain ⟨x1, x2, x3, x4, x5, x6, x7⟩ := HH.out.addBlock (t' := tk + k + 1) hc _ _ hr hG
       have X7 := show Hid _ from x7
       obtain ⟨ao2, cp2, rfl, _, _⟩ := own_slice hr
       clear x7 hr hG)
    | go_in)
  go_ret2
  exact ⟨rfl, _, X7.out⟩
end Go.Proofs.Ytddcpbidlbiamaa
