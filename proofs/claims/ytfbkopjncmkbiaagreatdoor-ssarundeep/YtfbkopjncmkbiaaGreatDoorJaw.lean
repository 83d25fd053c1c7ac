import Derived.Test.YtfbkopjncmkbiaaGreatDoorJaq
set_option linter.unusedVariables false
set_option linter.unusedSimpArgs false
namespace Go.Proofs.YtfbkopjncmkbiaaGreatDoor
open Go.ChangeShapes Go.WideShapes Go.ChangeAt Go.RowKit Go.Maps
theorem zeros_ivs (k : Nat) : Builtin.zeroCells (Value.int .i64 0).cells k = (ivs (List.replicate k 0)).toArray := by
 apply Array.ext'
 simp [Builtin.zeroCells, ivs, Value.cells]
 apply List.ext_getElem
 ·simp
 ·intro i h1 h2
  simp [Nat.mod_one]
theorem run_append_make (w : World) (B : Nat) (v : Value) (n : Nat) (L : List Int) (hown : OwnI w B v n L) (k : Nat) (hk : 0 < k) (hl : n + k <= 17592186044416) (hB : B <= w.heap.size) (ty : TypeId) :
 ∃ v' w', (Builtin.append_ #[25, 3] ty #[v, .int .i64 (k : Int)]).run Tryz.prog w = .ok v' w' /\ OwnI w' B v' (n + k) (L ++ List.replicate k 0) /\ GI B w w' v v' := by
 obtain ⟨i, hi, hz, hz1, hz2⟩ := info_parts info3i
 have ht := Tryz.underlying25
 have h3 := Tryz.underlying3
 have hlen : (ivs L ++ ivs (List.replicate k 0)).length = (n + k) * 1 := by simp [ivs, hown.len]
 have hw : IntKind.i64.wrap (k : Int) = (k : Int) := by
  rw [IntKind.wrap_i64]; omega
 have h0 : ¬ ((k : Int) < 0) := by omega
 have hkn0 : k ≠ 0 := by omega
 have h48 : ¬ (281474976710656 < (k : Int) * 8) := by omega
 have grown : ∀ (old : Nat), old < n + k -> ∀ x : Value,
  (w.drew.alloc (.cells ((ivs L).toArray ++ (ivs (List.replicate k 0)).toArray ++ Builtin.zeroCells (Value.int .i64 0).cells (grownCap w (n + k) old 3 - (n + k))) 3)).ownsRow B 3 1
   (.slice (some ⟨w.heap.size, 0, none⟩) (n + k) (grownCap w (n + k) old 3)) (n + k) (ivs (L ++ List.replicate k 0)) := by
  intro old ho x
  have hge := grownCap_ge w (n + k) old 3
  have hcm : grownCap w (n + k) old 3 <= maxLen := grownCap_le_maxLen w (n + k) old 3 (by unfold maxLen; omega)
  have e : ivs (L ++ List.replicate k 0) = ivs L ++ ivs (List.replicate k 0) := by simp [ivs]
  rw [e]
  refine ⟨hlen, .inr ⟨w.heap.size, _, _, rfl, hB, heap_alloc_new w.drew _, hge, hcm, ?_, ?_⟩⟩
  ·simp only [Array.size_append, List.size_toArray, size_zeroCells]
   simp [ivs, Value.cells, <- hown.len]
   omega
  ·simp only [Array.toList_append, List.append_assoc]
   rw [<- List.append_assoc, <- hlen]
   exact List.take_left
 have gi : ∀ (old : Nat) (x : Array Value), GI B w (w.drew.alloc (.cells x 3)) v (.slice (some ⟨w.heap.size, 0, none⟩) (n + k) old) := fun old x =>
  ⟨⟨rfl, rfl, rfl, by simp, fun g hg => heap_alloc_old w.drew _ (by show g < w.heap.size; omega)⟩, fun g hg _ => heap_alloc_old w.drew _ hg, fun g hg => by
    simp [Value.ownBlock] at hg
    right; omega⟩
 rcases hown.out.2 with ⟨rfl, hn0⟩ | ⟨g, cap, cur, rfl, hbg, hg, hnc, hcm, hcs, htake⟩
 ·have hL : L = [] := List.length_eq_zero_iff.1 (by rw [<- hown.len]; exact hn0)
  subst hL
  subst hn0
  have hkn : k ≠ 0 := by omega
  have h63 : ¬ (9223372036854775807 < (k : Int)) := by omega
  have h48' : ¬ (281474976710656 < Builtin.nextslicecap k 0 * 8) := by rw [nextslicecap_zero hk]; omega
  refine ⟨_, _, ?_, ⟨by simp, grown 0 (by omega) .nilFunc⟩, gi _ _⟩
  simp [Builtin.append_, run_underlying ht, run_underlying h3, sizeOf, typeInfo, zeroValue, hi, hz, hz1, hz2, asInt, asIntOf, hw, h0, h48, hkn, h63, h48', Question.forced, run_firstCells_none, newRow, grownCap, zeros_ivs, ivs]
 ·by_cases hroom : n + k <= cap
  ·have hfit : n * 1 + (ivs (List.replicate k 0)).length <= cur.size := by simp [ivs]; omega
   have hst := run_storeCells_at Tryz.prog g (n * 1) 3 (ivs (List.replicate k 0)) 0 cur w hg (by simpa using hfit) (ivs_one _)
   simp only [Nat.add_zero] at hst
   have e : ivs (L ++ List.replicate k 0) = ivs L ++ ivs (List.replicate k 0) := by simp [ivs]
   refine ⟨.slice (some ⟨g, 0, none⟩) (n + k) cap, w.setRow g (cur.toList.take (n * 1) ++ ivs (List.replicate k 0) ++ cur.toList.drop (n * 1 + (ivs (List.replicate k 0)).length)).toArray, ?_, ⟨by simp [hown.len], ⟨by rw [e]; exact hlen, .inr ⟨g, cap, _, rfl, hbg, setRow_heap w g cur _ 3 _ hg, hroom, hcm, ?_, ?_⟩⟩⟩, ⟨⟨rfl, rfl, rfl, by simp, fun b hb => setRow_other w g b _ (by omega)⟩, fun b hb hne => setRow_other w g b _ (fun q => hne (by rw [q]; rfl)), fun b hb => .inl hb⟩⟩
   ·simp [Builtin.append_, run_underlying ht, run_underlying h3, sizeOf, typeInfo, zeroValue, hi, hz, hz1, hz2, asInt, asIntOf, hw, h0, h48, hroom, hkn0, zeros_ivs, Addr.add_lit]
    skip
    have hst2 := hst
    simp at hst2
    rw [hst2]
    simp
   ·simp only [List.size_toArray, List.length_append, List.length_take, List.length_drop, Array.length_toList]
    omega
   ·rw [htake, e, <- hlen]
    exact List.take_left
  ·have holds : ∀ j u, (ivs L)[j]? = some u -> w.cell? ((⟨g, 0, none⟩ : Addr).add j) = some u := hown.out.cells (g := g) rfl
   have hfo := run_firstCells_some (P := Tryz.prog) w.drew 1 n ⟨g, 0, none⟩ n cap (ivs L) (by simp [ivs, hown.len]) (by simpa using holds)
   have h63 : ¬ (9223372036854775807 < ((n : Int) + (k : Int))) := by omega
   have h48' : ¬ (281474976710656 < Builtin.nextslicecap (n + k) cap * 8) := by have := growslice_fits (bytes := 8) (show cap < n + k by omega) (by omega); omega
   refine ⟨_, _, ?_, ⟨by simp [hown.len], grown cap (by omega) .nilFunc⟩, gi _ _⟩
   simp [Builtin.append_, run_underlying ht, run_underlying h3, sizeOf, typeInfo, zeroValue, hi, hz, hz1, hz2, asInt, asIntOf, hw, h0, h48, hroom, h63, h48', hkn0, Question.forced, hfo, newRow, grownCap, zeros_ivs]
   try (congr 2; apply Array.ext'; simp [List.append_assoc])
theorem step_append_makeG {w : World} {ops : Array Oper} {op : Oper} {a : Act} {K : Act -> World -> Prop} {Q : Exit -> Act -> World -> Prop} {E : Prop} (hgd : op.guard = none) (s x : Operand)
 (ho : op.op = .call { callee := .builtin .append, args := #[s, x], argTypes := #[25, 3] })
 (B : Nat) (v : Value) (n : Nat) (L : List Int) (hs : a.eval s = v) (hown : OwnI w B v n L) (k : Nat) (hx : a.eval x = .int .i64 (k : Int)) (hk : 0 < k)
 (hl : n + k <= 17592186044416) (hB : B <= w.heap.size)
 (h : ∀ v' w', OwnI w' B v' (n + k) (L ++ List.replicate k 0) -> GI B w w' v v' -> K (a.put op.dst v') w') : if Region.wanted op (yielded ops a.tmps) = true then Oper.wp Tryz.prog op a w K Q else E := by
 have hw : Region.wanted op (yielded ops a.tmps) = true := by simp [Region.wanted, hgd]
 rw [if_pos hw]
 obtain ⟨v', w', hr, h2, h3⟩ := run_append_make w B v n L hown k hk hl hB op.type
 unfold Oper.wp execOp
 simp only [ho, resolve, invoke, builtin, Sem.run_bind, Sem.run_pure, Result.andThen_ok, List.map_toArray, List.map_cons, List.map_nil, hs, hx, hr]
 exact h v' w' h2 h3
end Go.Proofs.YtfbkopjncmkbiaaGreatDoor
