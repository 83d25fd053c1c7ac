import Derived.Test.YtjepkcebfojiaaaDoorLyB
import Derived.Deep.OwnRows
import Derived.Laws.AppendOwnNone
import Derived.Lib.SmallJoins
import Derived.Lib.AppendStr
set_option linter.unusedVariables false
namespace Go.Proofs.YtjepkcebfojiaaaDoor
open Go.ChangeShapes Go.WideShapes Go.ChangeAt Go.RowKit
theorem cell_arr {w : World} {g i : Nat} {A : Array Value} {t : TypeId} {v : Value} (h : w.heap[g]? = some (.cells A t (0, 0))) (hv : A[i]? = some v) : w.cell? ⟨g, i, none⟩ = some v := by
  simp [World.cell?, h, hv]
theorem ret_int {k : IntKind} {a b : Int} (h : a = b) : Ending.returned (.int k a) = .returned (.int k b) := by rw [h]
theorem valOf_snoc (a : Nat) (l : List UInt8) (c : UInt8) : valOf a (l ++ [c]) = 10 * valOf a l + (c.toNat - 48) := by simp [valOf]

/-- A slice of tokens that holds ts. -/
structure TokV (w : World) (ao : Option Addr) (ts : List T) : Prop where
  out : ts ≠ [] → ∃ g, ao = some ⟨g, 0, none⟩ ∧ g < w.heap.size ∧ ∀ i (h : i < ts.length), w.cell? ⟨g, i * 4, none⟩ = some (.int .i64 ts[i].kind) ∧ w.cell? ⟨g, i * 4 + 1, none⟩ = some (.int .i64 ts[i].pos) ∧ w.cell? ⟨g, i * 4 + 2, none⟩ = some (.int .i64 ts[i].val) ∧ w.cell? ⟨g, i * 4 + 3, none⟩ = some (.string (bs ts[i].name))

theorem tcs_at (ts : List T) : ∀ i (h : i < ts.length) (j : Nat), j < 4 → (tcs ts)[i * 4 + j]? = (tc ts[i])[j]? := by
  induction ts with
  | nil => intro i h; simp at h
  | cons t ts ih =>
    intro i h j hj
    have e : tcs (t :: ts) = tc t ++ tcs ts := by simp [tcs]
    rw [e]
    cases i with
    | zero => rw [List.getElem?_append_left (by simp [tc]; omega)]; simp
    | succ i =>
      rw [List.getElem?_append_right (by simp [tc]; omega)]
      have := ih i (by simpa using h) j hj
      rw [show (i + 1) * 4 + j - (tc t).length = i * 4 + j by simp [tc]; omega, this]
      simp

theorem Own.view {w B v ts} (h : Own w B v ts) : ∃ ao cap, v = .slice ao ts.length cap ∧ ts.length ≤ cap ∧ cap ≤ 9223372036854775807 ∧ TokV w ao ts := by
  have hh := h.out
  rcases hh.2 with ⟨rfl, hn⟩ | ⟨g, cap, cur, rfl, e2, e3, e4, e5, e6, e7⟩
  · have : ts = [] := List.length_eq_zero_iff.1 hn
    subst this
    exact ⟨none, 0, rfl, by simp, by omega, ⟨fun h => absurd rfl h⟩⟩
  · refine ⟨_, cap, rfl, e4, e5, ⟨fun _ => ⟨g, rfl, (Array.getElem?_eq_some_iff.1 e3).1, fun i hi => ?_⟩⟩⟩
    have hc : ∀ j, j < 4 → w.cell? ⟨g, i * 4 + j, none⟩ = (tc ts[i])[j]? := by
      intro j hj
      have h1 := tcs_at ts i hi j hj
      rw [← e7, List.getElem?_take, if_pos (by omega)] at h1
      have h2 : (tc ts[i])[j]? = some ((tc ts[i])[j]'(by simp [tc]; omega)) := List.getElem?_eq_getElem _
      rw [h2] at h1 ⊢
      exact cell_arr e3 (by rw [← h1]; simp)
    exact ⟨hc 0 (by omega), hc 1 (by omega), hc 2 (by omega), hc 3 (by omega)⟩

theorem TokV.below {w w' ao ts B} (h : TokV w ao ts) (hb : Below B w w') (hB : w.heap.size ≤ B) : TokV w' ao ts := ⟨fun hn => by
  obtain ⟨g, e, hg, hc⟩ := h.out hn
  have hs := hb.size
  refine ⟨g, e, by omega, fun i hi => ?_⟩
  obtain ⟨a, b, c, d⟩ := hc i hi
  rw [hb.cell (p := ⟨g, _, none⟩) (by show g < B; omega), hb.cell (p := ⟨g, _, none⟩) (by show g < B; omega), hb.cell (p := ⟨g, _, none⟩) (by show g < B; omega), hb.cell (p := ⟨g, _, none⟩) (by show g < B; omega)]
  exact ⟨a, b, c, d⟩⟩


theorem tokens_at (w : World) (hTab : Tab w) (ao : Option Addr) (cap n : Nat) (L : List UInt8) (hn : n = L.length) (hT : Txt w ao cap L) (hl : n ≤ 4194304) :
    Calls Tryd.prog 11 #[.slice ao n cap] w fun e w' => Said w L e w' := by
  subst hn; exact tokens_any w hTab ao cap L hT hl

def aliveL : List UInt8 := [120, 49, 32, 60, 61, 32, 55, 32, 58]
def aliveT : List T := [⟨1, 0, 0, [120, 49]⟩, ⟨52, 3, 0, []⟩, ⟨2, 6, 7, []⟩]
theorem alive_lexes : Lexes 0 aliveL aliveT 8 20 := by
  refine .tok (n := 0) (m := 2) (t := ⟨1, 0, [120, 49]⟩) (by decide) (by decide) (by rfl) ?_
  refine .tok (k := 2) (n := 1) (m := 2) (t := ⟨52, 0, []⟩) (by decide) (by decide) (by kernel_rfl) ?_
  refine .tok (k := 5) (n := 1) (m := 1) (t := ⟨2, 7, []⟩) (by decide) (by decide) (by rfl) ?_
  exact .err (k := 7) (n := 1) (by decide) (by decide) (by kernel_rfl)

theorem alloc_at (w : World) (A : Array Value) (t : TypeId) (fr : Nat × Nat) (M : List UInt8) (h : A.toList = M.map fun c => Value.int .u8 (c.toNat : Int)) : At (w.alloc (.cells A t fr)) w.heap.size 0 M := by
  refine ⟨by simp, fun i hi => ?_⟩
  rw [World.cell?_alloc_mark, ← Array.getElem?_toList, h]
  simp [hi]

theorem Txt.of_at {w b o cap L} (h : At w b o L) (h1 : L.length ≤ cap) (h2 : cap ≤ 9223372036854775807) : Txt w (some ⟨b, o, none⟩) cap L := ⟨h1, h2, fun _ => ⟨b, o, rfl, h⟩⟩

def aliveA : Array Value := #[.int .u8 120, .int .u8 49, .int .u8 32, .int .u8 60, .int .u8 61, .int .u8 32, .int .u8 55, .int .u8 32, .int .u8 58]

end Go.Proofs.YtjepkcebfojiaaaDoor
namespace Go.Proofs.YtjepkcebfojiaaaDoor
open Go.ChangeShapes Go.WideShapes Go.ChangeAt Go.RowKit

def bvs (L : List UInt8) : List Value := L.map fun c => Value.int .u8 (c.toNat : Int)
theorem bvs_len (L : List UInt8) : (bvs L).length = L.length := by simp [bvs]
theorem bvs_at (L : List UInt8) (i : Nat) (h : i < L.length) : (bvs L)[i]? = some (.int .u8 (L[i].toNat : Int)) := by simp [bvs, h]
theorem bvs_one (L : List UInt8) : ∀ u ∈ bvs L, u.oneCell' = true := by
  intro u hu
  simp [bvs] at hu
  obtain ⟨a, _, rfl⟩ := hu
  rfl

theorem At.news {w b o M} (h : At w b o M) : ∀ j u, (bvs M)[j]? = some u → w.cell? ((⟨b, o, none⟩ : Addr).add j) = some u := by
  intro j u hj
  have hl : j < M.length := by
    rcases Nat.lt_or_ge j M.length with h | h
    · exact h
    · rw [List.getElem?_eq_none (by rw [bvs_len]; exact h)] at hj; cases hj
  rw [bvs_at M j hl] at hj
  have e : (⟨b, o, none⟩ : Addr).add j = ⟨b, o + j, none⟩ := by unfold Addr.add; split <;> simp_all
  rw [e, h.2 j hl]
  exact hj
theorem Txt.news {w ad cap L} (h : Txt w (some ad) cap L) : ∀ j u, (bvs L)[j]? = some u → w.cell? (ad.add j) = some u := by
  intro j u hj
  by_cases hn : L = []
  · subst hn; simp [bvs] at hj
  · obtain ⟨b, o, e, hA⟩ := h.2.2 hn
    cases e
    exact hA.news j u hj

theorem info5 : (Tryd.prog.info? 5).map (fun i => (i.zero, i.size, i.bytes)) = some (some (.int .u8 0), 1, 1) := by kernel_rfl

theorem cell_one_new (w : World) (a : Value) (t : TypeId) : ∀ j u, [a][j]? = some u → (w.alloc (.cells #[a] t)).cell? ((⟨w.heap.size, 0, none⟩ : Addr).add j) = some u := by
  intro j u hj
  match j, hj with
  | 0, hj => simp at hj; subst hj; simp [Addr.add]
  | j + 1, hj => simp at hj

/-- A slice of bytes in a row of its own from block B on. -/
structure OwnB (w : World) (B : Nat) (v : Value) (n : Nat) (M : List UInt8) : Prop where
  len : n = M.length
  out : w.ownsRow B 5 1 v n (bvs M)
theorem OwnB.nil (w : World) (B : Nat) : OwnB w B (.slice none 0 0) 0 [] := ⟨rfl, World.ownsRow_nil _ _ _ _⟩
theorem OwnB.keep {w w' B v n M} (h : OwnB w B v n M) (hb : Below w.heap.size w w') : OwnB w' B v n M := ⟨h.len, own_keep h.out hb.block⟩

theorem bvs_append (A B : List UInt8) : bvs (A ++ B) = bvs A ++ bvs B := by simp [bvs]

/-- append(c, x...) of bytes. -/
theorem wpList_append_bytes {w : World} {ops : Array Oper} {rest : List Oper} {op : Oper} {a : Act} {Q : Exit → Act → World → Prop} (hgd : op.guard = none) (s x : Operand)
    (ho : op.op = .call { callee := .builtin .append, args := #[s, x], argTypes := #[28, 28] })
    (B : Nat) (v : Value) (n : Nat) (M : List UInt8) (hs : a.eval s = v) (hown : OwnB w B v n M) (ao : Option Addr) (m cap : Nat) (X : List UInt8) (hx : a.eval x = .slice ao m cap) (hm : m = X.length) (hX : Txt w ao cap X) (hnil : ao = none → cap = 0)
    (hl : n + m ≤ 100000000) (hB : B ≤ w.heap.size)
    (h : ∀ v' w', OwnB w' B v' (n + m) (M ++ X) → Below B w w' → (∀ K, B ≤ K → (∀ g, v.ownBlock = some g → K ≤ g) → K ≤ w.heap.size → Below K w w') → wpList Tryd.prog ops Q rest (a.put op.dst v') w') : wpList Tryd.prog ops Q (op :: rest) a w := by
  subst hm
  obtain ⟨i0, hi, hz0, hz1, hz2⟩ := info_parts info5
  cases ao with
  | none =>
    have hX0 : X = [] := by
      apply Classical.byContradiction
      intro hn
      obtain ⟨b, o, e, _⟩ := hX.2.2 hn
      cases e
    subst hX0
    have hc := hnil rfl
    subst hc
    refine wpList_append_own_none hgd s x 28 ho B 5 i0 1 Tryd.underlying28 hi v n (bvs M) hs hown.out hx ?_
    exact h v w ⟨by simp; exact hown.len, by simpa using hown.out⟩ (Below.refl _ _) (fun K _ _ _ => Below.refl _ _)
  | some ad =>
    refine wpList_append_own _ hgd s x 28 ho B 5 i0 (.int .u8 0) 1 1 Tryd.underlying28 hi hz0 hz1 hz2 rfl (by decide) v n (bvs M) hs hown.out ad X.length cap (bvs X) hx (by rw [bvs_len]; omega) hX.news (bvs_one X) (by unfold maxLen; omega) (by omega) hB ?_
    intro v' w' h1 h2 _
    refine h v' w' ⟨by simp; exact hown.len, by rw [bvs_append]; exact h1⟩ ((Below.refl _ _).grown h2 hB (fun k hk => (own_block hown.out hk).1)) (fun K hK hg hs => (Below.refl _ _).grown h2 hs hg)

/-- The mark behind what is lent. -/
def mk (i : Nat) : Value := .int .u8 (wrap64 (167 + (i : Int)) % 256)

structure Lent (w : World) (B g cap : Nat) (L : List UInt8) : Prop where
  base : B ≤ g
  room : L.length + 40 ≤ cap
  most : cap ≤ 9223372036854775807
  row : ∃ f, w.rowIs g 5 cap f ∧ (∀ i (h : i < L.length), f i = .int .u8 (L[i].toNat : Int)) ∧ (∀ i, L.length ≤ i → i < cap → f i = mk i)


theorem conv_zero (w : World) (p : Option Addr) (c : Nat) : (convert 28 9 (.slice p 0 c)).run Tryd.prog w = .ok (.string (bs [])) w := by
  rw [run_convert_bytes_string (P := Tryd.prog) w 28 9 5 _ 0 c Tryd.underlying28 Tryd.underlying5 Tryd.underlying9]
  cases p with
  | none => simp [Conv.bytesToString]; rfl
  | some a => simp [Conv.bytesToString, loadCells, loadCellsFrom]; rfl
theorem Txt.conv {w ao cap L} (h : Txt w ao cap L) (n : Nat) (hn : n = L.length) : (convert 28 9 (.slice ao n cap)).run Tryd.prog w = .ok (.string (bs L)) w := by
  subst hn
  by_cases hL : L = []
  · subst hL; exact conv_zero w ao cap
  · obtain ⟨b, o, rfl, hA⟩ := h.2.2 hL
    exact hA.conv cap

theorem Lent.at {w B g cap L} (h : Lent w B g cap L) : At w g 0 L := by
  obtain ⟨f, hr, hf, _⟩ := h.row
  refine ⟨hr.lt, fun i hi => ?_⟩
  have := hr.cell (i := i) (by have := h.room; omega)
  rw [Nat.zero_add, this, hf i hi]
theorem Lent.below {w w' B g cap L K} (h : Lent w B g cap L) (hb : Below K w w') (hK : g < K) : Lent w' B g cap L := by
  obtain ⟨f, hr, hf⟩ := h.row
  exact ⟨h.base, h.room, h.most, f, hr.of_block (hb.block g hK), hf⟩
theorem Lent.lt {w B g cap L} (h : Lent w B g cap L) : g < w.heap.size := by
  obtain ⟨f, hr, hf⟩ := h.row
  exact hr.lt
theorem Txt.drewN {w ao cap L} (h : Txt w ao cap L) (q : Nat) : Txt (w.drewN q) ao cap L := h.below (below_drewN (Below.refl w.heap.size w) q) (Nat.le_refl _)

end Go.Proofs.YtjepkcebfojiaaaDoor
namespace Go.Proofs.YtjepkcebfojiaaaDoor
open Go.ChangeShapes Go.WideShapes Go.ChangeAt Go.RowKit

theorem strCells_bs (S : List UInt8) : Lib.strCells (bs S) = bvs S := by
  unfold Lib.strCells bvs bs
  simp

/-- Two rows of the call's own: one is grown, the other stays. -/
theorem own_grown {w w' : World} {B e s n xs} {v : Value} {row : Option Nat} (h : w.ownsRow B e s v n xs) (hg : w.grownBy w' row) (hne : ∀ g, v.ownBlock = some g → row ≠ some g) : w'.ownsRow B e s v n xs := by
  refine ⟨h.1, h.2.imp id ?_⟩
  rintro ⟨g, cap, cur, e1, e2, e3, e4⟩
  have hlt : g < w.heap.size := (Array.getElem?_eq_some_iff.1 e3).1
  exact ⟨g, cap, cur, e1, e2, (hg.block g hlt (fun e => hne g (by rw [e1]; rfl) e.symm)).trans e3, e4⟩
/-- Rows of two element types are two rows. -/
theorem own_apart {w : World} {B1 B2 e1 e2 s1 s2 n1 n2 x1 x2} {v1 v2 : Value} (h1 : w.ownsRow B1 e1 s1 v1 n1 x1) (h2 : w.ownsRow B2 e2 s2 v2 n2 x2) (hne : e1 ≠ e2) : ∀ g, v1.ownBlock = some g → v2.ownBlock ≠ some g := by
  intro g hg1 hg2
  rcases h1.2 with ⟨rfl, _⟩ | ⟨g1, _, _, rfl, _, e3, _⟩
  · simp [Value.ownBlock] at hg1
  · rcases h2.2 with ⟨rfl, _⟩ | ⟨g2, _, _, rfl, _, e4, _⟩
    · simp [Value.ownBlock] at hg2
    · simp [Value.ownBlock] at hg1 hg2
      subst hg1 hg2
      rw [e3] at e4
      simp at e4
      exact hne e4.2

/-- A row depends on its own block alone. -/
theorem own_move {w w' : World} {B e s n xs} {v : Value} (h : w.ownsRow B e s v n xs) (hk : ∀ g, v.ownBlock = some g → w'.heap[g]? = w.heap[g]?) : w'.ownsRow B e s v n xs := by
  refine ⟨h.1, h.2.imp id ?_⟩
  rintro ⟨g, cap, cur, e1, e2, e3, e4⟩
  exact ⟨g, cap, cur, e1, e2, (hk g (by rw [e1]; rfl)).trans e3, e4⟩

/-- What an append did to the row: in place, or a new row and all old ones as they were. -/
inductive Grew (w w' : World) (v v' : Value) (n m : Nat) : Prop
  | room (g cap : Nat) (h1 : v = .slice (some ⟨g, 0, none⟩) n cap) (h2 : v' = .slice (some ⟨g, 0, none⟩) (n + m) cap)
  | new (h1 : v'.ownBlock = some w.heap.size) (h2 : w.grownBy w' none)

theorem run_append_where {P : Program} {w : World} (base : Nat) (t ty e : TypeId) (i : TypeInfo) (z : Value) (size bytes : Nat) (ht : P.underlying t = some (.slice e)) (hi : P.info? e = some i) (hz : i.zero = some z)
    (hsize : i.size = size) (hby : i.bytes = bytes) (hzs : z.cells.size = size) (hsz : 0 < size)
    (v : Value) (n : Nat) (xs : List Value) (hown : w.ownsRow base e size v n xs)
    (a : Addr) (m c : Nat) (hm : 0 < m) (news : List Value) (hl : news.length = m * size) (hnews : ∀ j u, news[j]? = some u → w.cell? (a.add j) = some u) (h1 : ∀ u ∈ news, u.oneCell' = true)
    (h63 : n + m ≤ maxLen) (hbytes : (n + m) * bytes ≤ 140737488355328) (hbase : base ≤ w.heap.size) :
    ∃ v' w', (Builtin.append_ #[t, t] ty #[v, .slice (some a) m c]).run P w = .ok v' w' ∧ w'.ownsRow base e size v' (n + m) (xs ++ news) ∧ w.grownBy w' v.ownBlock ∧ Grew w w' v v' n m := by
  obtain ⟨v', w', hr, h2, h3, h4⟩ := run_append_own (P := P) w base t ty e i z size bytes ht hi hz hsize hby hzs hsz v n xs hown a m c news hl hnews h1 h63 hbytes hbase
  refine ⟨v', w', hr, h2, h3, ?_⟩
  have hsmall : n + m ≤ 9223372036854775807 := by simp only [maxLen] at h63; omega
  subst hsize hby
  rcases hown.2 with ⟨rfl, rfl⟩ | ⟨g, cap, cur, rfl, hbg, hg, hnc, hcm, hcs, htake⟩
  · have hr2 := run_append_nil (P := P) w t ty e i z ht hi hz a m c news hl hnews (by omega) (by omega) (by have hb := hbytes; simp only [Nat.zero_add] at hb; omega)
    rw [hr2] at hr
    cases hr
    exact .new rfl (by exact ⟨rfl, rfl, rfl, by simp, fun k hk _ => heap_alloc_old w.drew _ hk⟩)
  · by_cases hroom : n + m ≤ cap
    · have hfit : n * i.size + news.length ≤ cur.size := by rw [hl, hcs, ← Nat.add_mul]; exact Nat.mul_le_mul_right _ hroom
      have hr2 := run_append_room (P := P) w t ty e i ht hi g n cap cur hg a m c news hl hnews h1 hroom hfit
      rw [hr2] at hr
      cases hr
      exact .room g cap rfl rfl
    · have holds : ∀ j u, xs[j]? = some u → w.cell? ((⟨g, 0, none⟩ : Addr).add j) = some u := hown.cells (g := g) rfl
      have hr2 := run_append_grow (P := P) w t ty e i z ht hi hz ⟨g, 0, none⟩ n cap xs hown.1 holds a m c news hl hnews (by omega) (by omega) (growslice_fits (by omega) hbytes)
      rw [hr2] at hr
      cases hr
      exact .new rfl (by exact ⟨rfl, rfl, rfl, by simp, fun k hk _ => heap_alloc_old w.drew _ hk⟩)

theorem wpList_append_where {P : Program} {w : World} {ops : Array Oper} {rest : List Oper} {o : Oper} {a : Act} {Q : Exit → Act → World → Prop} (hgd : o.guard = none) (s x : Operand) (t : TypeId)
    (ho : o.op = .call { callee := .builtin .append, args := #[s, x], argTypes := #[t, t] })
    (base : Nat) (e : TypeId) (i : TypeInfo) (z : Value) (size bytes : Nat) (ht : P.underlying t = some (.slice e)) (hi : P.info? e = some i) (hz : i.zero = some z)
    (hsize : i.size = size) (hby : i.bytes = bytes) (hzs : z.cells.size = size) (hsz : 0 < size)
    (v : Value) (n : Nat) (xs : List Value) (hs : a.eval s = v) (hown : w.ownsRow base e size v n xs)
    (ad : Addr) (m c : Nat) (hm : 0 < m) (news : List Value) (hx : a.eval x = .slice (some ad) m c) (hl : news.length = m * size) (hnews : ∀ j u, news[j]? = some u → w.cell? (ad.add j) = some u) (h1 : ∀ u ∈ news, u.oneCell' = true)
    (h63 : n + m ≤ maxLen) (hbytes : (n + m) * bytes ≤ 140737488355328) (hbase : base ≤ w.heap.size)
    (h : ∀ v' w', w'.ownsRow base e size v' (n + m) (xs ++ news) → w.grownBy w' v.ownBlock → Grew w w' v v' n m → wpList P ops Q rest (a.put o.dst v') w') : wpList P ops Q (o :: rest) a w :=
  wpList_plain hgd fun _ hK => by
    obtain ⟨v', w', hr, h2, h3, h4⟩ := run_append_where (P := P) (w := w) base t o.type e i z size bytes ht hi hz hsize hby hzs hsz v n xs hown ad m c hm news hl hnews h1 h63 hbytes hbase
    unfold Oper.wp execOp
    simp only [ho, resolve, invoke, builtin, Sem.run_bind, Sem.run_pure, Result.andThen_ok, List.map_toArray, List.map_cons, List.map_nil, hs, hx, hr]
    exact hK _ _ (h v' w' h2 h3 h4)

theorem take_mid {α : Type} (l m : List α) (a n : Nat) (h : a + m.length ≤ n) (hn : n ≤ l.length) : (l.take a ++ m ++ l.drop (a + m.length)).take n = (l.take n).take a ++ m ++ (l.take n).drop (a + m.length) := by
  have e1 : (l.take a ++ m).length = a + m.length := by simp; omega
  rw [List.take_append (l₁ := l.take a ++ m), List.take_of_length_le (l := l.take a ++ m) (by omega), e1, List.take_take, Nat.min_eq_left (by omega), List.drop_take]

end Go.Proofs.YtjepkcebfojiaaaDoor
