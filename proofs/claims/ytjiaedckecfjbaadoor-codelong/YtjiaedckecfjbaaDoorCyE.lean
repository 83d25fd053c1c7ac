import Derived.Test.YtjiaedckecfjbaaDoorCyD
import Derived.Deep.Cut
set_option linter.unusedVariables false
set_option linter.unusedSimpArgs false
namespace Go.Proofs.YtjiaedckecfjbaaDoor
open Go.ChangeShapes Go.WideShapes Go.ChangeAt Go.RowKit

theorem evc_z (E : List (Int × Int)) : ∀ y ∈ E.map evc, y.length = 2 := fun y hy => by
  obtain ⟨e, _, rfl⟩ := List.mem_map.1 hy
  rfl
theorem evc_one (E : List (Int × Int)) : ∀ u ∈ (E.map evc).flatten, u.oneCell' = true := fun u hu => by
  obtain ⟨l, hl, hu⟩ := List.mem_flatten.1 hu
  obtain ⟨e, _, rfl⟩ := List.mem_map.1 hl
  simp [evc] at hu
  rcases hu with rfl | rfl <;> rfl
theorem add_noneR (b o j : Nat) : (⟨b, o, none⟩ : Addr).add j = ⟨b, o + j, none⟩ := by
  cases j with
  | zero => rfl
  | succ j => simp [Addr.add]
/-- Events as they lie. -/
structure Evs (w : World) (ao : Option Addr) (c : Nat) (E : List (Int × Int)) : Prop where
  le : E.length ≤ c
  mx : c ≤ 9223372036854775807
  nil : ao = none → E = []
  out : E ≠ [] → ∃ b o, ao = some ⟨b, o, none⟩ ∧ b < w.heap.size ∧ ∀ j u, (E.map evc).flatten[j]? = some u → w.cell? ((⟨b, o, none⟩ : Addr).add j) = some u
theorem row_empty (w : World) (e : TypeId) (z : Nat) : Row (w.alloc (.cells #[] e)) w.heap.size e z (.slice (some ⟨w.heap.size, 0, none⟩) 0 0) [] := by
  refine Row.mk ?_ (by simp)
  exact ⟨by simp, .inr ⟨w.heap.size, 0, #[], rfl, Nat.le_refl _, heap_alloc_new _ _, Nat.le_refl _, by unfold maxLen; omega, by simp, by simp⟩⟩
end Go.Proofs.YtjiaedckecfjbaaDoor
namespace Go.Proofs.YtjiaedckecfjbaaDoor
open Go.ChangeShapes Go.WideShapes Go.ChangeAt Go.RowKit

theorem box_seven {w : World} {gb : Nat} {t : TypeId} {x0 x1 x2 x3 x4 x5 x6 : Value} (h : w.heap[gb]? = some (.cells #[x0, x1, x2, x3, x4, x5, x6] t (0, 0))) (a b c d e f g : Value) : (((((((w.setCell ⟨gb, 0, none⟩ a).setCell ⟨gb, 1, none⟩ b).setCell ⟨gb, 2, none⟩ c).setCell ⟨gb, 3, none⟩ d).setCell ⟨gb, 4, none⟩ e).setCell ⟨gb, 5, none⟩ f).setCell ⟨gb, 6, none⟩ g).heap[gb]? = some (.cells #[a, b, c, d, e, f, g] t (0, 0)) := by
  have h0 := heap_set_at (i := 0) (v := a) h
  have h1 := heap_set_at (i := 1) (v := b) h0
  have h2 := heap_set_at (i := 2) (v := c) h1
  have h3 := heap_set_at (i := 3) (v := d) h2
  have h4 := heap_set_at (i := 4) (v := e) h3
  have h5 := heap_set_at (i := 5) (v := f) h4
  have h6 := heap_set_at (i := 6) (v := g) h5
  rw [h6]; rfl
end Go.Proofs.YtjiaedckecfjbaaDoor
namespace Go.Proofs.YtjiaedckecfjbaaDoor
open Go.ChangeShapes Go.WideShapes Go.ChangeAt Go.RowKit

theorem only_setR {F : Nat → Prop} {w w1 : World} (h : Only F w w1) (a : Addr) (ha : F a.block) (v : Value) : Only F w (w1.setCell a v) := h.trans (Only.of_set w1 a v) fun i _ e => by
  have : i = a.block := e
  rw [this]; exact ha
theorem only_sevenR {w w1 : World} {gb : Nat} (h : Only (fun k => k = gb) w w1) (a b c d e f g : Value) : Only (fun k => k = gb) w (((((((w1.setCell ⟨gb, 0, none⟩ a).setCell ⟨gb, 1, none⟩ b).setCell ⟨gb, 2, none⟩ c).setCell ⟨gb, 3, none⟩ d).setCell ⟨gb, 4, none⟩ e).setCell ⟨gb, 5, none⟩ f).setCell ⟨gb, 6, none⟩ g) := by
  have S : ∀ {W : World}, Only (fun k => k = gb) w W → ∀ (i : Nat) (v : Value), Only (fun k => k = gb) w (W.setCell ⟨gb, i, none⟩ v) := fun h i v => only_setR (F := fun k => k = gb) h ⟨gb, i, none⟩ rfl v
  exact S (S (S (S (S (S (S h 0 a) 1 b) 2 c) 3 d) 4 e) 5 f) 6 g
/-- It can be entered. -/
structure OpensR (g : Nat) : Prop where
  out : ∀ args w, (callFunc g args).run Tryd.prog w = .ok (.enter g args) w
theorem OpensR.of {g : Nat} {fn : Func} {c : Code} (hf : Tryd.prog.funcs[g]? = some fn) (hname : (fn.name == "runtime.NumGoroutine") = false) (hb : fn.body = some c) : OpensR g := by
  refine ⟨fun args w => ?_⟩
  have h1 : fn.name ≠ "runtime.NumGoroutine" := by simpa using hname
  simp [callFunc, hf, h1, hb, mark]
theorem results_row_tmp {P : Program} {fn : Func} {p u : Tmp} {ty : TypeId} (h : fn.results = #[.cell p ty, .tmp u]) (tmps : Array Value) (w : World) (g : Nat) (t : TypeId) (cs : Array Value) (fr : Nat × Nat) (d : TypeDesc)
    (hp : tmps.getD p undef = .pointer (some ⟨g, 0, none⟩)) (hg : w.heap[g]? = some (.cells cs t fr))
    (hu : P.underlying ty = some d) (hd : (match d with | .struct _ | .array _ _ => true | _ => false) = true) (hi : (P.info? ty).map (·.size) = some cs.size) :
    (results fn tmps).run P w = .ok (.tuple #[.agg cs, tmps.getD u undef]) w := by
  rw [results_cell_tmp h, hp]
  simp [asAddr, run_loadVar_row w g t ty cs fr d hg hu hd hi, Result.andThen]
/-- What holds at the run's end. -/
def FinR (N fuel : Nat) (I : Nat → World → Prop) (J : World → Prop) (W : World) : Prop := if N < fuel then J W else I fuel W
end Go.Proofs.YtjiaedckecfjbaaDoor
