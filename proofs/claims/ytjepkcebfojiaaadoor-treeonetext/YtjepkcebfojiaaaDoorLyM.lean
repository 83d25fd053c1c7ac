import Derived.Test.YtjepkcebfojiaaaDoorTrM
import Derived.Test.YtjepkcebfojiaaaDoorTrT
import Derived.Deep.RegionHeld
set_option linter.unusedVariables false
set_option linter.unusedSimpArgs false
namespace Go.Proofs.YtjepkcebfojiaaaDoor
open Go.ChangeShapes Go.WideShapes Go.ChangeAt Go.RowKit

/-- The tables of the texts of types and of operators. -/
structure TabT (w : World) (B : Nat) : Prop where
  low : 1 < B ∧ 3 < B ∧ B ≤ w.heap.size
  typ : ∀ i, i < 4 → w.cell? ⟨1, i, none⟩ = some (.string (bs (TYPES.getD i [])))
  ops : ∀ i, i < 23 → w.cell? ⟨3, i, none⟩ = some (.string (bs (OPS.getD i [])))
theorem TabT.below {w w' B} (h : TabT w B) (hb : Below B w w') : TabT w' B :=
  ⟨⟨h.low.1, h.low.2.1, by have := h.low.2.2; have := hb.size; omega⟩, fun i hi => by rw [hb.cell (p := ⟨1, i, none⟩) h.low.1]; exact h.typ i hi, fun i hi => by rw [hb.cell (p := ⟨3, i, none⟩) h.low.2.1]; exact h.ops i hi⟩

theorem bs_app (a b : List UInt8) : bs (a ++ b) = bs a ++ bs b := by
  simp [bs]
  rfl

theorem lv_rng (n : Nd) : 1 ≤ lv n ∧ lv n ≤ 7 := by
  unfold lv lvOp
  repeat' split
  all_goals omega
theorem value_at (w : World) (pb : Nat) (tv dv : Value) (o : Int) (no : Option Addr) (nn nc : Nat) (N : List Nd) (hP : PRv w pb (.slice no nn nc) tv dv o) (hN : Nodes w no nc N) (hnn : nn = N.length) (j : Nat) (hj : j < N.length) (least : Int) (p : Pt) (hp : p = vp N j least) :
    Calls Tryd.prog 57 #[.pointer (some ⟨pb, 0, none⟩), .int .i64 j, .int .i64 least] w fun e w' => e = .returned (.agg #[.int .i64 p.form, .string (bs p.text), .int .i64 p.node]) ∧ ∃ o1 o2 o3 : Obj, w' = ((w.alloc o1).alloc o2).alloc o3 := by
  subst hp; exact value_any w pb (.slice no nn nc) tv dv o no nn nc N hP hN hnn j hj least

end Go.Proofs.YtjepkcebfojiaaaDoor
namespace Go.Proofs.YtjepkcebfojiaaaDoor
open Go.ChangeShapes Go.WideShapes Go.ChangeAt Go.RowKit

set_option maxRecDepth 10000 in
set_option maxHeartbeats 8000000 in
theorem putBinary_3 (w : World) (B F pb : Nat) (S : Ps) (no : Option Addr) (nn nc : Nat) (N : List Nd) (hS : PSt w B F pb (.slice no nn nc) S) (hF : F ≤ w.heap.size) (hT : TabT w B) (hN : Nodes w no nc N) (hnn : nn = N.length)
    (n : Nd) (s : ByteArray) (ka : Option Addr) (kc : Nat) (i j : Nat) (hK : Ints w ka kc n.kids) (hkB : ∀ b o, ka = some ⟨b, o, none⟩ → b < B) (hkids : n.kids = [(i : Int), (j : Int)]) (hi : i < N.length) (hj : j < N.length) (op : Nat) (hop : n.op = op) (hop2 : op < 23) (hkind : n.kind = 31) (hmn : S.todo.length + 3 ≤ 100000000) (hlv3 : lv n = 3) :
    Calls Tryd.prog 58 #[.pointer (some ⟨pb, 0, none⟩), .agg #[.int .i64 n.kind, .int .i64 n.at_, .int .i64 n.wh, .int .i64 n.close, .int .i64 n.decl, .int .i64 n.typ, .int .i64 n.op, .int .i64 n.val, .string s, .slice ka 2 kc]] w fun e w' => e = .returned (.tuple #[]) ∧ PSt w' B w'.heap.size pb (.slice no nn nc) ⟨S.text, exParts N n ++ S.todo, S.opn⟩ ∧ Below B w w' := by
  have hB := hS.le
  obtain ⟨tv, dv, n1, m1, hv⟩ := hS.out
  obtain ⟨b, o, rfl, hA⟩ := hK.out (by rw [hkids]; simp)
  have hbB := hkB b o rfl
  have p0 := hA.cell 0 (by rw [hkids]; simp)
  have p1 := hA.cell 1 (by rw [hkids]; simp)
  have hlb := hA.lt
  have hkc : 2 ≤ kc := by have := hK.le; rw [hkids] at this; simpa using this
  simp [hkids] at p0 p1
  have t1 := hT.ops op hop2
  obtain ⟨u, hu⟩ : ∃ u, u = bs (OPS.getD op []) := ⟨_, rfl⟩
  rw [← hu] at t1
  have HP : Hid (exParts N n = [vp N i (if lv n = 3 then lv n + 1 else lv n), tp ([32] ++ OPS.getD op [] ++ [32]), vp N j (lv n + 1)]) := by
    show _ = _
    simp [exParts, hkind, hkids, opT, hop, List.getD]
  have hus : u.size ≤ 2 := by
    rw [hu, bs_size]
    have : ∀ k, k < 23 → (OPS.getD k []).length ≤ 2 := by decide
    exact this op hop2
  have HU : Hid (u = bs (OPS.getD op [])) := hu
  clear hu hkids hkind
  obtain ⟨lvn, hlv⟩ : ∃ l, l = lv n := ⟨_, rfl⟩
  rw [← hlv] at HP hlv3
  have hr := lv_rng n
  rw [← hlv] at hr
  obtain ⟨hr1, hr2⟩ := hr
  have HLV : Hid (lvn = lv n) := hlv
  rw [hop]
  have hlow := hT.low
  obtain ⟨kind, at_, wh, close, decl, typ, opn, val, name, kids⟩ := n
  simp only at hop hlv ⊢
  subst hop
  clear hlv
  subst hlv3
  obtain ⟨P1, hP1⟩ : ∃ p, p = vp N i 4 := ⟨_, rfl⟩
  obtain ⟨P2, hP2⟩ : ∃ p, p = vp N j 4 := ⟨_, rfl⟩
  have HP1 : Hid (P1 = vp N i 4) := hP1
  have HP2 : Hid (P2 = vp N j 4) := hP2
  have HPP : Hid (exParts N ⟨kind, at_, wh, close, decl, typ, op, val, name, kids⟩ = [P1, tp ([32] ++ OPS.getD op [] ++ [32]), P2]) := by
    show _ = _
    rw [HP.out, hP1, hP2]
    simp
  have HUU : Hid ((⟨#[32]⟩ : ByteArray) ++ u ++ ⟨#[32]⟩ = bs ([32] ++ OPS.getD op [] ++ [32])) := by
    show _ = _
    rw [HU.out, bs_app, bs_app]; rfl
  obtain ⟨uu, huu⟩ : ∃ uu, (⟨#[32]⟩ : ByteArray) ++ u ++ ⟨#[32]⟩ = uu := ⟨_, rfl⟩
  have HQ : Hid (uu = bs ([32] ++ OPS.getD op [] ++ [32])) := by
    show _ = _
    rw [← huu]; exact HUU.out
  have hg3 : 3 < B := hT.low.2.1
  clear hP1 hP2 HP
  have B9 : (w.alloc (.cells #[.int .i64 kind, .int .i64 at_, .int .i64 wh, .int .i64 close, .int .i64 decl, .int .i64 typ, .int .i64 (op : Int), .int .i64 val, .string s, .slice (some ⟨b, o, none⟩) 2 kc] 39)).cell? ⟨w.heap.size, 9, none⟩ = some (.slice (some ⟨b, o, none⟩) 2 kc) := by simp
  have B6 : (w.alloc (.cells #[.int .i64 kind, .int .i64 at_, .int .i64 wh, .int .i64 close, .int .i64 decl, .int .i64 typ, .int .i64 (op : Int), .int .i64 val, .string s, .slice (some ⟨b, o, none⟩) 2 kc] 39)).cell? ⟨w.heap.size, 6, none⟩ = some (.int .i64 (op : Int)) := by simp
  go_enter Tryd.func58, Tryd.ntmps58
  go_wp2_with (first | (go_at_call 60; refine (lv_any _ ⟨kind, at_, wh, close, decl, typ, op, val, name, kids⟩ s _ _ _).mono ?_; rintro e w' ⟨rfl, rfl⟩; rw [← HLV.out]))
  go_region_held (fun w' => w'.cell? ⟨w.heap.size, 9, none⟩ = some (.slice (some ⟨b, o, none⟩) 2 kc) ∧ w'.cell? ⟨w.heap.size, 6, none⟩ = some (.int .i64 op) ∧ w'.cell? ⟨b, o, none⟩ = some (.int .i64 i) ∧ w'.cell? ⟨b, o + 1, none⟩ = some (.int .i64 j) ∧ w'.cell? ⟨3, op, none⟩ = some (.string u)) (refine ⟨?_, ?_, ?_, ?_, ?_⟩ <;> (repeat (first | with_reducible exact B9 | with_reducible exact B6 | with_reducible exact p0 | with_reducible exact p1 | with_reducible exact t1 | with_reducible refine HKP _ _ (by first | (left; simp; omega) | (left; omega) | (right; simp; omega) | (right; omega)) ?_ | with_reducible refine cellD ?_ | with_reducible refine cellA ?_)))
    (first
      | (go_at_call_of 57 (Value.int IntKind.i64 (i : Int)); refine (value_at _ pb tv dv S.opn no nn nc N (hv.move (F' := F) (Below.block (by repeat (first | refine Below.alloc ?_ (by first | omega | (simp; done) | (simp; omega)) _ | refine Below.drew ?_ | exact Below.refl _ _))) (Nat.le_refl _)).prv (hN.below (K := w.heap.size) (by repeat (first | refine Below.alloc ?_ (by first | omega | (simp; done) | (simp; omega)) _ | refine Below.drew ?_ | exact Below.refl _ _)) (Nat.le_refl _)) hnn i hi _ P1 HP1.out).mono ?_; rintro e w' ⟨rfl, o1, o2, o3, rfl⟩)
      | (go_at_call 57; refine (value_at _ pb tv dv S.opn no nn nc N (hv.move (F' := F) (Below.block (by repeat (first | refine Below.alloc ?_ (by first | omega | (simp; done) | (simp; omega)) _ | refine Below.drew ?_ | exact Below.refl _ _))) (Nat.le_refl _)).prv (hN.below (K := w.heap.size) (by repeat (first | refine Below.alloc ?_ (by first | omega | (simp; done) | (simp; omega)) _ | refine Below.drew ?_ | exact Below.refl _ _)) (Nat.le_refl _)) hnn j hj _ P2 HP2.out).mono ?_; rintro e w' ⟨rfl, o4, o5, o6, rfl⟩)
      | (go_at_call 44; refine (text_any _ _).mono ?_; rintro e w' ⟨rfl, rfl⟩)
      | (go_at_call 17; refine (put_newD _ _ B F pb (.slice no nn nc) S [P1, tp ([32] ++ OPS.getD op [] ++ [32]), P2] 3 _ (hS.below (by repeat (first | refine Below.alloc ?_ (by first | omega | (simp; done) | (simp; omega)) _ | refine Below.drew ?_ | exact Below.refl _ _)) (Nat.le_refl _)) (by simp; omega) (by simp) (by rw [HQ.out]; rfl) rfl (by omega)).mono ?_; rintro e w' ⟨rfl, HS, hb, HKP⟩; have hbb : Below B w w' := (by refine Below.trans ?_ hb; exact (by repeat (first | refine Below.alloc ?_ (by first | omega | (simp; done) | (simp; omega)) _ | refine Below.drew ?_ | exact Below.refl _ _)))))
  all_goals exact bodyPost_end (v := .tuple #[]) (by simp [results, Tryd.results58, go_sem]) rfl ⟨rfl, by rw [HPP.out]; exact HS, hbb⟩
end Go.Proofs.YtjepkcebfojiaaaDoor
namespace Go.Proofs.YtjepkcebfojiaaaDoor
open Go.ChangeShapes Go.WideShapes Go.ChangeAt Go.RowKit

set_option maxRecDepth 10000 in
set_option maxHeartbeats 8000000 in
theorem putBinary_n (w : World) (B F pb : Nat) (S : Ps) (no : Option Addr) (nn nc : Nat) (N : List Nd) (hS : PSt w B F pb (.slice no nn nc) S) (hF : F ≤ w.heap.size) (hT : TabT w B) (hN : Nodes w no nc N) (hnn : nn = N.length)
    (n : Nd) (s : ByteArray) (ka : Option Addr) (kc : Nat) (i j : Nat) (hK : Ints w ka kc n.kids) (hkB : ∀ b o, ka = some ⟨b, o, none⟩ → b < B) (hkids : n.kids = [(i : Int), (j : Int)]) (hi : i < N.length) (hj : j < N.length) (op : Nat) (hop : n.op = op) (hop2 : op < 23) (hkind : n.kind = 31) (hmn : S.todo.length + 3 ≤ 100000000) (hlv3 : ¬ lv n = 3) :
    Calls Tryd.prog 58 #[.pointer (some ⟨pb, 0, none⟩), .agg #[.int .i64 n.kind, .int .i64 n.at_, .int .i64 n.wh, .int .i64 n.close, .int .i64 n.decl, .int .i64 n.typ, .int .i64 n.op, .int .i64 n.val, .string s, .slice ka 2 kc]] w fun e w' => e = .returned (.tuple #[]) ∧ PSt w' B w'.heap.size pb (.slice no nn nc) ⟨S.text, exParts N n ++ S.todo, S.opn⟩ ∧ Below B w w' := by
  have hB := hS.le
  obtain ⟨tv, dv, n1, m1, hv⟩ := hS.out
  obtain ⟨b, o, rfl, hA⟩ := hK.out (by rw [hkids]; simp)
  have hbB := hkB b o rfl
  have p0 := hA.cell 0 (by rw [hkids]; simp)
  have p1 := hA.cell 1 (by rw [hkids]; simp)
  have hlb := hA.lt
  have hkc : 2 ≤ kc := by have := hK.le; rw [hkids] at this; simpa using this
  simp [hkids] at p0 p1
  have t1 := hT.ops op hop2
  obtain ⟨u, hu⟩ : ∃ u, u = bs (OPS.getD op []) := ⟨_, rfl⟩
  rw [← hu] at t1
  have HP : Hid (exParts N n = [vp N i (if lv n = 3 then lv n + 1 else lv n), tp ([32] ++ OPS.getD op [] ++ [32]), vp N j (lv n + 1)]) := by
    show _ = _
    simp [exParts, hkind, hkids, opT, hop, List.getD]
  have hus : u.size ≤ 2 := by
    rw [hu, bs_size]
    have : ∀ k, k < 23 → (OPS.getD k []).length ≤ 2 := by decide
    exact this op hop2
  have HU : Hid (u = bs (OPS.getD op [])) := hu
  clear hu hkids hkind
  obtain ⟨lvn, hlv⟩ : ∃ l, l = lv n := ⟨_, rfl⟩
  rw [← hlv] at HP hlv3
  have hr := lv_rng n
  rw [← hlv] at hr
  obtain ⟨hr1, hr2⟩ := hr
  have HLV : Hid (lvn = lv n) := hlv
  rw [hop]
  have hlow := hT.low
  obtain ⟨kind, at_, wh, close, decl, typ, opn, val, name, kids⟩ := n
  simp only at hop hlv ⊢
  subst hop
  clear hlv
  have h3 := hlv3
  obtain ⟨P1, hP1⟩ : ∃ p, p = vp N i lvn := ⟨_, rfl⟩
  obtain ⟨P2, hP2⟩ : ∃ p, p = vp N j (lvn + 1) := ⟨_, rfl⟩
  have HP1 : Hid (P1 = vp N i lvn) := hP1
  have HP2 : Hid (P2 = vp N j (lvn + 1)) := hP2
  have HPP : Hid (exParts N ⟨kind, at_, wh, close, decl, typ, op, val, name, kids⟩ = [P1, tp ([32] ++ OPS.getD op [] ++ [32]), P2]) := by
    show _ = _
    rw [HP.out, hP1, hP2, if_neg h3]
  have HUU : Hid ((⟨#[32]⟩ : ByteArray) ++ u ++ ⟨#[32]⟩ = bs ([32] ++ OPS.getD op [] ++ [32])) := by
    show _ = _
    rw [HU.out, bs_app, bs_app]; rfl
  obtain ⟨uu, huu⟩ : ∃ uu, (⟨#[32]⟩ : ByteArray) ++ u ++ ⟨#[32]⟩ = uu := ⟨_, rfl⟩
  have HQ : Hid (uu = bs ([32] ++ OPS.getD op [] ++ [32])) := by
    show _ = _
    rw [← huu]; exact HUU.out
  have hg3 : 3 < B := hT.low.2.1
  clear hP1 hP2 HP
  have B9 : (w.alloc (.cells #[.int .i64 kind, .int .i64 at_, .int .i64 wh, .int .i64 close, .int .i64 decl, .int .i64 typ, .int .i64 (op : Int), .int .i64 val, .string s, .slice (some ⟨b, o, none⟩) 2 kc] 39)).cell? ⟨w.heap.size, 9, none⟩ = some (.slice (some ⟨b, o, none⟩) 2 kc) := by simp
  have B6 : (w.alloc (.cells #[.int .i64 kind, .int .i64 at_, .int .i64 wh, .int .i64 close, .int .i64 decl, .int .i64 typ, .int .i64 (op : Int), .int .i64 val, .string s, .slice (some ⟨b, o, none⟩) 2 kc] 39)).cell? ⟨w.heap.size, 6, none⟩ = some (.int .i64 (op : Int)) := by simp
  go_enter Tryd.func58, Tryd.ntmps58
  go_wp2_with (first | (go_at_call 60; refine (lv_any _ ⟨kind, at_, wh, close, decl, typ, op, val, name, kids⟩ s _ _ _).mono ?_; rintro e w' ⟨rfl, rfl⟩; rw [← HLV.out]))
  go_region_held (fun w' => w'.cell? ⟨w.heap.size, 9, none⟩ = some (.slice (some ⟨b, o, none⟩) 2 kc) ∧ w'.cell? ⟨w.heap.size, 6, none⟩ = some (.int .i64 op) ∧ w'.cell? ⟨b, o, none⟩ = some (.int .i64 i) ∧ w'.cell? ⟨b, o + 1, none⟩ = some (.int .i64 j) ∧ w'.cell? ⟨3, op, none⟩ = some (.string u)) (refine ⟨?_, ?_, ?_, ?_, ?_⟩ <;> (repeat (first | with_reducible exact B9 | with_reducible exact B6 | with_reducible exact p0 | with_reducible exact p1 | with_reducible exact t1 | with_reducible refine HKP _ _ (by first | (left; simp; omega) | (left; omega) | (right; simp; omega) | (right; omega)) ?_ | with_reducible refine cellD ?_ | with_reducible refine cellA ?_)))
    (first
      | (go_at_call_of 57 (Value.int IntKind.i64 (i : Int)); refine (value_at _ pb tv dv S.opn no nn nc N (hv.move (F' := F) (Below.block (by repeat (first | refine Below.alloc ?_ (by first | omega | (simp; done) | (simp; omega)) _ | refine Below.drew ?_ | exact Below.refl _ _))) (Nat.le_refl _)).prv (hN.below (K := w.heap.size) (by repeat (first | refine Below.alloc ?_ (by first | omega | (simp; done) | (simp; omega)) _ | refine Below.drew ?_ | exact Below.refl _ _)) (Nat.le_refl _)) hnn i hi _ P1 HP1.out).mono ?_; rintro e w' ⟨rfl, o1, o2, o3, rfl⟩)
      | (go_at_call 57; refine (value_at _ pb tv dv S.opn no nn nc N (hv.move (F' := F) (Below.block (by repeat (first | refine Below.alloc ?_ (by first | omega | (simp; done) | (simp; omega)) _ | refine Below.drew ?_ | exact Below.refl _ _))) (Nat.le_refl _)).prv (hN.below (K := w.heap.size) (by repeat (first | refine Below.alloc ?_ (by first | omega | (simp; done) | (simp; omega)) _ | refine Below.drew ?_ | exact Below.refl _ _)) (Nat.le_refl _)) hnn j hj _ P2 HP2.out).mono ?_; rintro e w' ⟨rfl, o4, o5, o6, rfl⟩)
      | (go_at_call 44; refine (text_any _ _).mono ?_; rintro e w' ⟨rfl, rfl⟩)
      | (go_at_call 17; refine (put_newD _ _ B F pb (.slice no nn nc) S [P1, tp ([32] ++ OPS.getD op [] ++ [32]), P2] 3 _ (hS.below (by repeat (first | refine Below.alloc ?_ (by first | omega | (simp; done) | (simp; omega)) _ | refine Below.drew ?_ | exact Below.refl _ _)) (Nat.le_refl _)) (by simp; omega) (by simp) (by rw [HQ.out]; rfl) rfl (by omega)).mono ?_; rintro e w' ⟨rfl, HS, hb, HKP⟩; have hbb : Below B w w' := (by refine Below.trans ?_ hb; exact (by repeat (first | refine Below.alloc ?_ (by first | omega | (simp; done) | (simp; omega)) _ | refine Below.drew ?_ | exact Below.refl _ _)))))
  all_goals exact bodyPost_end (v := .tuple #[]) (by simp [results, Tryd.results58, go_sem]) rfl ⟨rfl, by rw [HPP.out]; exact HS, hbb⟩
end Go.Proofs.YtjepkcebfojiaaaDoor
