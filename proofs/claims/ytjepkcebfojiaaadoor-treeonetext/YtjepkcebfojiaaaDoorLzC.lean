import Derived.Test.YtjepkcebfojiaaaDoorTrM
import Derived.Test.YtjepkcebfojiaaaDoorLyF
import Derived.Test.YtjepkcebfojiaaaDoorLyM
import Derived.Deep.RegionHeldLaw
set_option linter.unusedVariables false
set_option linter.unusedSimpArgs false
namespace Go.Proofs.YtjepkcebfojiaaaDoor
open Go.ChangeShapes Go.WideShapes Go.ChangeAt Go.RowKit

set_option maxRecDepth 10000 in
set_option maxHeartbeats 4000000 in
theorem putWith_k (w : World) (B F pb : Nat) (nv : Value) (S : Ps) (hS : PSt w B F pb nv S) (hF : F ≤ w.heap.size) (hmn : S.todo.length + 4 ≤ 100000000) (head lead : List UInt8) (a : Option Addr) (c n : Nat) (L : List Int) (hL : Ints w a c L) (hn : n = L.length) :
    Calls Tryd.prog 53 #[.pointer (some ⟨pb, 0, none⟩), .string (bs head), .string (bs lead), .slice a n c] w fun e w' => e = .returned (.tuple #[]) ∧ PSt w' B w'.heap.size pb nv ⟨S.text, valParts head lead L ++ S.todo, S.opn⟩ ∧ Below B w w' ∧ (∀ a v, (F ≤ a.block ∨ a.block < B) → w.cell? a = some v → w'.cell? a = some v) := by
  have hB := hS.le
  have b1 : n ≤ 9223372036854775807 := by have := hL.le; have := hL.mx; omega
  cases L with
  | nil =>
    simp at hn
    subst hn
    go_enter Tryd.func53, Tryd.ntmps53
    go_wp2_with (first
      | (go_at_call 44; refine (text_any _ _).mono ?_; rintro e w' ⟨rfl, rfl⟩)
      | (go_at_call 17; refine (put_new _ _ B F pb nv S (valParts head lead []) 2 _ (hS.below (by repeat (first | refine Below.alloc ?_ (by first | omega | (simp; omega)) _ | refine Below.drew ?_ | exact Below.refl _ _)) (Nat.le_refl _)) (by simp; omega) (by simp) rfl rfl (by omega)).mono ?_; rintro e w' ⟨rfl, HS, hb, HKP⟩; have hkk : ∀ a v, (F ≤ a.block ∨ a.block < B) → w.cell? a = some v → w'.cell? a = some v := (fun a v ha hv => HKP a v ha (by repeat (first | with_reducible exact hv | with_reducible refine cellD ?_ | with_reducible refine cellA ?_))); have hbb : Below B w w' := (by refine Below.trans ?_ hb; exact (by repeat (first | refine Below.alloc ?_ (by first | omega | (simp; omega)) _ | refine Below.drew ?_ | exact Below.refl _ _))); clear hb HKP))
    refine bodyPost_ret (v := .tuple #[]) (by simp [results, Tryd.results53, go_sem]) rfl ⟨rfl, HS, hbb, hkk⟩
  | cons k L =>
    obtain ⟨b, o, rfl, hA⟩ := hL.out (by simp)
    have p0 := hA.cell 0 (by simp)
    simp at p0
    have hn1 : 0 < n := by rw [hn]; simp
    have hl0 := hA.lt
    have hl1 : b < w.heap.size + 1 := by omega
    have hl2 : b < w.heap.size + 1 + 1 := by omega
    have hl3 : b < w.heap.size + 1 + 1 + 1 := by omega
    have HN : Hid _ := hn
    clear hn
    go_enter Tryd.func53, Tryd.ntmps53
    go_wp2_with fail
    go_region_with (first
      | (go_at_call 44; refine (text_any _ _).mono ?_; rintro e w' ⟨rfl, rfl⟩)
      | (go_at_call 18; refine (whole_any _ _).mono ?_; rintro e w' ⟨rfl, rfl⟩)
      | (go_at_call 17; refine (put_newD _ _ B F pb nv S (valParts head lead (k :: L)) 4 _ (hS.below (by repeat (first | refine Below.alloc ?_ (by first | omega | (simp; omega)) _ | refine Below.drew ?_ | exact Below.refl _ _)) (Nat.le_refl _)) (by simp; omega) (by simp) rfl rfl (by omega)).mono ?_; rintro e w' ⟨rfl, HS, hb, HKP⟩; have hkk : ∀ a v, (F ≤ a.block ∨ a.block < B) → w.cell? a = some v → w'.cell? a = some v := (fun a v ha hv => HKP a v ha (by repeat (first | with_reducible exact hv | with_reducible refine cellD ?_ | with_reducible refine cellA ?_))); have hbb : Below B w w' := (by refine Below.trans ?_ hb; exact (by repeat (first | refine Below.alloc ?_ (by first | omega | (simp; omega)) _ | refine Below.drew ?_ | exact Below.refl _ _))); clear hb HKP))
    all_goals exact bodyPost_end (v := .tuple #[]) (by simp [results, Tryd.results53, go_sem]) rfl ⟨rfl, HS, hbb, hkk⟩
end Go.Proofs.YtjepkcebfojiaaaDoor
namespace Go.Proofs.YtjepkcebfojiaaaDoor
open Go.ChangeShapes Go.WideShapes Go.ChangeAt Go.RowKit

theorem putWith_at (w : World) (B F pb : Nat) (nv : Value) (S : Ps) (hS : PSt w B F pb nv S) (hF : F ≤ w.heap.size) (hmn : S.todo.length + 4 ≤ 100000000) (head lead : List UInt8) (u1 u2 : ByteArray) (h1 : u1 = bs head) (h2 : u2 = bs lead) (a : Option Addr) (c n : Nat) (L : List Int) (hL : Ints w a c L) (hn : n = L.length) :
    Calls Tryd.prog 53 #[.pointer (some ⟨pb, 0, none⟩), .string u1, .string u2, .slice a n c] w fun e w' => e = .returned (.tuple #[]) ∧ PSt w' B w'.heap.size pb nv ⟨S.text, valParts head lead L ++ S.todo, S.opn⟩ ∧ Below B w w' ∧ (∀ a v, (F ≤ a.block ∨ a.block < B) → w.cell? a = some v → w'.cell? a = some v) := by
  subst h1 h2
  exact putWith_k w B F pb nv S hS hF hmn head lead a c n L hL hn

set_option maxRecDepth 10000 in
set_option maxHeartbeats 4000000 in
theorem putSt_var (w : World) (B F pb : Nat) (nv : Value) (S : Ps) (hS : PSt w B F pb nv S) (hF : F ≤ w.heap.size)
    (hT : TabT w B) (n : Nd) (s : ByteArray) (hs : s = bs n.name) (hnl : n.name.length ≤ 1000) (ka : Option Addr) (kl kc : Nat) (hkl : kl = n.kids.length) (hK : Ints w ka kc n.kids) (d : Nat) (hd : n.decl = d) (hd2 : d < 4) (hkind : n.kind = 4) (hmn : S.todo.length + 4 ≤ 100000000) :
    Calls Tryd.prog 50 #[.pointer (some ⟨pb, 0, none⟩), .agg #[.int .i64 n.kind, .int .i64 n.at_, .int .i64 n.wh, .int .i64 n.close, .int .i64 n.decl, .int .i64 n.typ, .int .i64 n.op, .int .i64 n.val, .string s, .slice ka kl kc]] w fun e w' => e = .returned (.tuple #[]) ∧ PSt w' B w'.heap.size pb nv ⟨S.text, stParts n ++ S.todo, S.opn⟩ ∧ Below B w w' := by
  have hB := hS.le
  have t1 := hT.typ d hd2
  obtain ⟨u, hu⟩ : ∃ u, u = bs (TYPES.getD d []) := ⟨_, rfl⟩
  rw [← hu] at t1
  have hus : u.size ≤ 5 := by
    rw [hu, bs_size]
    have : ∀ k, k < 4 → (TYPES.getD k []).length ≤ 5 := by decide
    exact this d hd2
  have hsz : s.size ≤ 1000 := by rw [hs, bs_size]; exact hnl
  obtain ⟨uu, huu⟩ : ∃ uu, (⟨#[118, 97, 114, 32]⟩ : ByteArray) ++ s ++ ⟨#[32]⟩ ++ u = uu := ⟨_, rfl⟩
  have HU : Hid (uu = bs ([118, 97, 114, 32] ++ n.name ++ [32] ++ TYPES.getD d [])) := by
    show _ = _
    rw [← huu, hs, hu, ← bs_appF, ← bs_appF, ← bs_appF]; rfl
  have HPP : Hid (stParts n = valParts ([118, 97, 114, 32] ++ n.name ++ [32] ++ TYPES.getD d []) [32, 61, 32] n.kids) := by
    show _ = _
    simp [stParts, hkind, typeT, hd, List.getD]
  have HKL : Hid (kl = n.kids.length) := hkl
  rw [hd]
  have hlow := hT.low
  obtain ⟨kind, at_, wh, close, decl, typ, op, val, name, kids⟩ := n
  simp only at hkind hd HU HKL hK HPP ⊢
  subst hkind hd
  clear hkl hs hnl hu
  have hg3 : 1 < B := hT.low.1
  have hg4 : 1 < w.heap.size := by omega
  have hdl : (d : Int) < 4 := by omega
  have B9 : (w.alloc (.cells #[.int .i64 4, .int .i64 at_, .int .i64 wh, .int .i64 close, .int .i64 (d : Int), .int .i64 typ, .int .i64 op, .int .i64 val, .string s, .slice ka kl kc] 39)).cell? ⟨w.heap.size, 9, none⟩ = some (.slice ka kl kc) := by simp
  have B8 : (w.alloc (.cells #[.int .i64 4, .int .i64 at_, .int .i64 wh, .int .i64 close, .int .i64 (d : Int), .int .i64 typ, .int .i64 op, .int .i64 val, .string s, .slice ka kl kc] 39)).cell? ⟨w.heap.size, 8, none⟩ = some (.string s) := by simp
  have B4 : (w.alloc (.cells #[.int .i64 4, .int .i64 at_, .int .i64 wh, .int .i64 close, .int .i64 (d : Int), .int .i64 typ, .int .i64 op, .int .i64 val, .string s, .slice ka kl kc] 39)).cell? ⟨w.heap.size, 4, none⟩ = some (.int .i64 (d : Int)) := by simp
  go_enter Tryd.func50, Tryd.ntmps50
  go_wp2_with fail
  go_region_held (fun w' => w'.cell? ⟨w.heap.size, 9, none⟩ = some (.slice ka kl kc) ∧ w'.cell? ⟨w.heap.size, 8, none⟩ = some (.string s) ∧ w'.cell? ⟨w.heap.size, 4, none⟩ = some (.int .i64 (d : Int)) ∧ w'.cell? ⟨1, d, none⟩ = some (.string u)) (refine ⟨?_, ?_, ?_, ?_⟩ <;> (repeat (first | with_reducible exact B9 | with_reducible exact B8 | with_reducible exact B4 | with_reducible exact t1 | with_reducible refine HKP _ _ (by first | (left; simp; omega) | (left; omega) | (right; simp; omega) | (right; omega)) ?_ | with_reducible refine cellD ?_ | with_reducible refine cellA ?_)))
    (first
      | (go_at_call 53; refine (putWith_at _ B F pb nv S (hS.below (by repeat (first | refine Below.alloc ?_ (by first | omega | (simp; done) | (simp; omega)) _ | refine Below.drew ?_ | exact Below.refl _ _)) (Nat.le_refl _)) (by simp; omega) hmn ([118, 97, 114, 32] ++ name ++ [32] ++ TYPES.getD d []) [32, 61, 32] _ _ HU.out rfl ka kc kl kids (hK.below (by repeat (first | refine Below.alloc ?_ (by first | omega | (simp; done) | (simp; omega)) _ | refine Below.drew ?_ | exact Below.refl _ _)) (Nat.le_refl _)) HKL.out).mono ?_; rintro e w' ⟨rfl, HS, hb, HKP⟩; have hbb : Below B w w' := (by refine Below.trans ?_ hb; exact (by repeat (first | refine Below.alloc ?_ (by first | omega | (simp; done) | (simp; omega)) _ | refine Below.drew ?_ | exact Below.refl _ _)))))
  all_goals (try go_wp2_with fail)
  all_goals first
    | exact bodyPost_end (v := .tuple #[]) (by simp [results, Tryd.results50, go_sem]) rfl ⟨rfl, by rw [HPP.out]; exact HS, hbb⟩
    | exact bodyPost_ret (v := .tuple #[]) (by simp [results, Tryd.results50, go_sem]) rfl ⟨rfl, by rw [HPP.out]; exact HS, hbb⟩

set_option maxRecDepth 10000 in
set_option maxHeartbeats 4000000 in
theorem putNode_param (w : World) (B F pb : Nat) (nv : Value) (S : Ps) (hS : PSt w B F pb nv S) (hF : F ≤ w.heap.size)
    (hT : TabT w B) (N : List Nd) (n : Nd) (s : ByteArray) (hs : s = bs n.name) (hnl : n.name.length ≤ 1000) (ka : Option Addr) (kl kc : Nat) (d : Nat) (hd : n.decl = d) (hd2 : d < 4) (hkind : n.kind = 2) (hmn : S.todo.length + 1 ≤ 100000000) :
    Calls Tryd.prog 43 #[.pointer (some ⟨pb, 0, none⟩), .agg #[.int .i64 n.kind, .int .i64 n.at_, .int .i64 n.wh, .int .i64 n.close, .int .i64 n.decl, .int .i64 n.typ, .int .i64 n.op, .int .i64 n.val, .string s, .slice ka kl kc]] w fun e w' => e = .returned (.tuple #[]) ∧ PSt w' B w'.heap.size pb nv ⟨S.text, ndParts N n ++ S.todo, S.opn⟩ ∧ Below B w w' := by
  have hB := hS.le
  have t1 := hT.typ d hd2
  obtain ⟨u, hu⟩ : ∃ u, u = bs (TYPES.getD d []) := ⟨_, rfl⟩
  rw [← hu] at t1
  have hus : u.size ≤ 5 := by
    rw [hu, bs_size]
    have : ∀ k, k < 4 → (TYPES.getD k []).length ≤ 5 := by decide
    exact this d hd2
  have hsz : s.size ≤ 1000 := by rw [hs, bs_size]; exact hnl
  obtain ⟨uu, huu⟩ : ∃ uu, s ++ (⟨#[32]⟩ : ByteArray) ++ u = uu := ⟨_, rfl⟩
  have HU : Hid (uu = bs (n.name ++ [32] ++ TYPES.getD d [])) := by
    show _ = _
    rw [← huu, hs, hu, ← bs_appF, ← bs_appF]; rfl
  have HPP : Hid (ndParts N n = [tp (n.name ++ [32] ++ TYPES.getD d [])]) := by
    show _ = _
    simp [ndParts, hkind, typeT, hd, List.getD]
  rw [hd]
  have hlow := hT.low
  obtain ⟨kind, at_, wh, close, decl, typ, op, val, name, kids⟩ := n
  simp only at hkind hd HU HPP ⊢
  subst hkind hd
  clear hs hnl hu
  have hg3 : 1 < B := hT.low.1
  have hisFunc : isK 1 2 = false := rfl
  have hisParam : isK 2 2 = true := rfl
  have B8 : (w.alloc (.cells #[.int .i64 2, .int .i64 at_, .int .i64 wh, .int .i64 close, .int .i64 (d : Int), .int .i64 typ, .int .i64 op, .int .i64 val, .string s, .slice ka kl kc] 39)).cell? ⟨w.heap.size, 8, none⟩ = some (.string s) := by simp
  have B4 : (w.alloc (.cells #[.int .i64 2, .int .i64 at_, .int .i64 wh, .int .i64 close, .int .i64 (d : Int), .int .i64 typ, .int .i64 op, .int .i64 val, .string s, .slice ka kl kc] 39)).cell? ⟨w.heap.size, 4, none⟩ = some (.int .i64 (d : Int)) := by simp
  go_enter Tryd.func43, Tryd.ntmps43
  go_wp2_with (first | (go_at_call 26; refine (isFunc_any _ _).mono ?_; rintro e w' ⟨rfl, rfl⟩; rw [hisFunc]) | (go_at_call 37; refine (isParam_any _ _).mono ?_; rintro e w' ⟨rfl, rfl⟩; rw [hisParam]))
  go_region_held (fun w' => w'.cell? ⟨w.heap.size, 8, none⟩ = some (.string s) ∧ w'.cell? ⟨w.heap.size, 4, none⟩ = some (.int .i64 (d : Int)) ∧ w'.cell? ⟨1, d, none⟩ = some (.string u)) (refine ⟨?_, ?_, ?_⟩ <;> (repeat (first | with_reducible exact B8 | with_reducible exact B4 | with_reducible exact t1 | with_reducible refine HKP _ _ (by first | (left; simp; omega) | (left; omega) | (right; simp; omega) | (right; omega)) ?_ | with_reducible refine cellD ?_ | with_reducible refine cellA ?_)))
    (first
      | (go_at_call 44; refine (text_any _ _).mono ?_; rintro e w' ⟨rfl, rfl⟩)
      | (go_at_call 17; refine (put_newD _ _ B F pb nv S [tp (name ++ [32] ++ TYPES.getD d [])] 1 _ (hS.below (by repeat (first | refine Below.alloc ?_ (by first | omega | (simp; done) | (simp; omega)) _ | refine Below.drew ?_ | exact Below.refl _ _)) (Nat.le_refl _)) (by simp; omega) (by simp) (by rw [HU.out]; rfl) rfl (by omega)).mono ?_; rintro e w' ⟨rfl, HS, hb, HKP⟩; have hbb : Below B w w' := (by refine Below.trans ?_ hb; exact (by repeat (first | refine Below.alloc ?_ (by first | omega | (simp; done) | (simp; omega)) _ | refine Below.drew ?_ | exact Below.refl _ _)))))
  all_goals (try go_wp2_with fail)
  all_goals first
    | exact bodyPost_end (v := .tuple #[]) (by simp [results, Tryd.results43, go_sem]) rfl ⟨rfl, by rw [HPP.out]; exact HS, hbb⟩
    | exact bodyPost_ret (v := .tuple #[]) (by simp [results, Tryd.results43, go_sem]) rfl ⟨rfl, by rw [HPP.out]; exact HS, hbb⟩
end Go.Proofs.YtjepkcebfojiaaaDoor
namespace Go.Proofs.YtjepkcebfojiaaaDoor
open Go.ChangeShapes Go.WideShapes Go.ChangeAt Go.RowKit

/-- A head, and so many parts for each of the first i kids. -/
structure FlP (h : List Pt) (f : Int → List Pt) (L : List Int) (i : Nat) (X : List Pt) : Prop where
  out : X = h ++ (L.take i).flatMap f
theorem FlP.next {h f L i X} (H : FlP h f L i X) (hi : i < L.length) : FlP h f L (i + 1) (X ++ f L[i]) := ⟨by
  rw [H.out, ← List.take_append_getElem hi, List.flatMap_append]; simp⟩

set_option maxRecDepth 10000 in
set_option maxHeartbeats 4000000 in
theorem putFor_st (w : World) (B F pb : Nat) (nv : Value) (S : Ps) (hS : PSt w B F pb nv S) (hF : F ≤ w.heap.size)
    (n : Nd) (s : ByteArray) (ka : Option Addr) (kl kc : Nat) (hkl : kl = n.kids.length) (hK : Ints w ka kc n.kids) (hkB : n.kids ≠ [] → ∀ b o, ka = some ⟨b, o, none⟩ → b < B) (hk : n.kind = 11) (hmn : S.todo.length + 2 * kl + 2 ≤ 100000000) :
    Calls Tryd.prog 55 #[.pointer (some ⟨pb, 0, none⟩), .agg #[.int .i64 n.kind, .int .i64 n.at_, .int .i64 n.wh, .int .i64 n.close, .int .i64 n.decl, .int .i64 n.typ, .int .i64 n.op, .int .i64 n.val, .string s, .slice ka kl kc]] w fun e w' => e = .returned (.tuple #[]) ∧ PSt w' B w'.heap.size pb nv ⟨S.text, stParts n ++ S.todo, S.opn⟩ ∧ Below B w w' := by
  have hB := hS.le
  have HPP : Hid (stParts n = [tp [102, 111, 114]] ++ n.kids.flatMap fun x => [tp [32], wp x]) := by
    show _ = _
    simp [stParts, hk]
  have HKL : Hid (kl = n.kids.length) := hkl
  have hkc : kl ≤ kc := by have := hK.le; omega
  have hkm := hK.mx
  clear hkl hk
  go_enter Tryd.func55, Tryd.ntmps55
  go_wp2_with (first | (go_at_call 44; refine (text_any _ _).mono ?_; rintro e w' ⟨rfl, rfl⟩))
  go_loopw [4, 12] (fun v c wr => ∃ (i k : Nat) (X : List Pt), i ≤ kl ∧ Hid (k = 1 + 2 * i) ∧ c = .int .i64 i ∧ OwnP wr w.heap.size v k X ∧ FlP [tp [102, 111, 114]] (fun x => [tp [32], wp x]) n.kids i X ∧ Below w.heap.size w wr) (fun _ c _ => kl - (intOf c).toNat)
  case atStart => exact ⟨0, 1, [tp [102, 111, 114]], by omega, rfl, rfl, ownp_new _ _ _ _ _ _ (by simp) rfl rfl (by omega) (by omega), ⟨by simp⟩, (by repeat (first | refine Below.alloc ?_ (by first | omega | (simp; done) | (simp; omega)) _ | refine Below.drew ?_ | exact Below.refl _ _))⟩
  case round =>
    obtain ⟨i, k, X, hi, hk, rfl, HX, HB, hbl⟩ := hrel
    have hbs := hbl.size
    have hbB : Below B w wr := hbl.mono (by omega)
    obtain ⟨va, vc, rfl⟩ := own_slice HX.out
    by_cases hlt : i < kl
    · have hk1 : k + 2 ≤ 100000000 := by have := hk.out; omega
      obtain ⟨b, oo, rfl, hA⟩ := hK.out (by intro e; have := HKL.out; simp [e] at this; omega)
      have hbb := hkB (by intro e; have := HKL.out; simp [e] at this; omega) b oo rfl
      have p0 := (hA.below hbB hbb).cell i (HKL.out ▸ hlt)
      have HB2 := HB.next (HKL.out ▸ hlt)
      obtain ⟨x, hx⟩ : ∃ x, x = n.kids[i]'(HKL.out ▸ hlt) := ⟨_, rfl⟩
      rw [← hx] at p0 HB2
      clear hx
      go_wp2_with (first
        | (go_at_call 44; refine (text_any _ _).mono ?_; rintro e w' ⟨rfl, rfl⟩)
        | (go_at_call 18; refine (whole_any _ _).mono ?_; rintro e w' ⟨rfl, rfl⟩)
        | (at_builtin; refine wpList_append_parts rfl _ _ rfl w.heap.size _ k X [tp [32], wp x] 2 (wr.heap.size + 1 + 1) ?_ (HX.keep (by repeat (first | refine Below.alloc ?_ (by first | omega | (simp; done) | (simp; omega)) _ | refine Below.drew ?_ | exact Below.refl _ _))) ?_ (by simp) rfl rfl hk1 (by simp; omega) ?_; (next => rfl); (next => rfl); intro v2 w2 HX2 hb2))
      go_roundw
      case rel => exact ⟨i + 1, k + 2, _, by omega, by have := hk.out; show _ = _; omega, by go_num, HX2, HB2, (by refine hbl.trans (Below.trans ?_ hb2); exact (by repeat (first | refine Below.alloc ?_ (by first | omega | (simp; done) | (simp; omega)) _ | refine Below.drew ?_ | exact Below.refl _ _)))⟩
      case measure => simp [intOf]; omega
    · obtain rfl : i = kl := by omega
      have HBL : Hid (stParts n = X) := by
        show _ = _
        rw [HB.out, List.take_of_length_le (by have := HKL.out; omega), HPP.out]
      obtain ⟨a2, c2, e2, _, _, hV2, ha2⟩ := HX.view
      cases e2
      go_wp2_with (first
        | (go_at_call 17; refine (put_st _ B F pb nv S X k _ _ (hS.below (hbl.mono (by omega)) (Nat.le_refl _)) (by omega) hV2 HX.len (by have := hk.out; omega) (fun g hg => by rcases ha2 with h | ⟨g', h, h3, _⟩; (· rw [h.1] at hg; cases hg); (· rw [h] at hg; cases hg; omega))).mono ?_; rintro e w3 ⟨rfl, HS, hb3, _⟩; have hbb : Below B w w3 := hbB.trans hb3))
      first
        | exact bodyPost_end (v := .tuple #[]) (by simp [results, Tryd.results55, go_sem]) rfl ⟨rfl, by rw [HBL.out]; exact HS, hbb⟩
        | exact bodyPost_ret (v := .tuple #[]) (by simp [results, Tryd.results55, go_sem]) rfl ⟨rfl, by rw [HBL.out]; exact HS, hbb⟩
end Go.Proofs.YtjepkcebfojiaaaDoor
namespace Go.Proofs.YtjepkcebfojiaaaDoor
open Go.ChangeShapes Go.WideShapes Go.ChangeAt Go.RowKit

set_option maxRecDepth 10000 in
set_option maxHeartbeats 4000000 in
theorem putSt_for (w : World) (B F pb : Nat) (nv : Value) (S : Ps) (hS : PSt w B F pb nv S) (hF : F ≤ w.heap.size)
    (n : Nd) (s : ByteArray) (ka : Option Addr) (kl kc : Nat) (hkl : kl = n.kids.length) (hK : Ints w ka kc n.kids) (hkB : n.kids ≠ [] → ∀ b o, ka = some ⟨b, o, none⟩ → b < B) (hk : n.kind = 11) (hmn : S.todo.length + 2 * kl + 2 ≤ 100000000) :
    Calls Tryd.prog 50 #[.pointer (some ⟨pb, 0, none⟩), .agg #[.int .i64 n.kind, .int .i64 n.at_, .int .i64 n.wh, .int .i64 n.close, .int .i64 n.decl, .int .i64 n.typ, .int .i64 n.op, .int .i64 n.val, .string s, .slice ka kl kc]] w fun e w' => e = .returned (.tuple #[]) ∧ PSt w' B w'.heap.size pb nv ⟨S.text, stParts n ++ S.todo, S.opn⟩ ∧ Below B w w' := by
  have hB := hS.le
  have hb1 : ∀ (X : Obj) (K : Nat), K ≤ w.heap.size → Below K w (w.alloc X) := fun X K hK => (Below.refl _ _).alloc hK _
  have HK0 : Hid (n.kind = 11) := hk
  have HKL : Hid (kl = n.kids.length) := hkl
  rw [hk]
  clear hk hkl
  go_enter Tryd.func50, Tryd.ntmps50
  go_wp2_with fail
  have H := putFor_st (w.alloc (.cells #[.int .i64 n.kind, .int .i64 n.at_, .int .i64 n.wh, .int .i64 n.close, .int .i64 n.decl, .int .i64 n.typ, .int .i64 n.op, .int .i64 n.val, .string s, .slice ka kl kc] 39)) B F pb nv S (hS.below (hb1 _ F hF) (Nat.le_refl _)) (by simp; omega) n s ka kl kc HKL.out (hK.below (hb1 _ _ (Nat.le_refl _)) (Nat.le_refl _)) hkB HK0.out hmn
  rw [HK0.out] at H
  refine H.mono ?_
  rintro e w' ⟨rfl, HS, hb⟩
  have hbb : Below B w w' := (hb1 _ B (by omega)).trans hb
  clear hb H
  go_wp2_with fail
  first
    | exact bodyPost_end (v := .tuple #[]) (by simp [results, Tryd.results50, go_sem]) rfl ⟨rfl, HS, hbb⟩
    | exact bodyPost_ret (v := .tuple #[]) (by simp [results, Tryd.results50, go_sem]) rfl ⟨rfl, HS, hbb⟩
end Go.Proofs.YtjepkcebfojiaaaDoor
namespace Go.Proofs.YtjepkcebfojiaaaDoor
open Go.ChangeShapes Go.WideShapes Go.ChangeAt Go.RowKit

set_option maxRecDepth 10000 in
set_option maxHeartbeats 4000000 in
theorem putIf_2 (w : World) (B F pb : Nat) (nv : Value) (S : Ps) (hS : PSt w B F pb nv S) (hF : F ≤ w.heap.size)
    (n : Nd) (s : ByteArray) (ka : Option Addr) (kc : Nat) (x0 x1 : Int) (hkids : n.kids = [x0, x1]) (hK : Ints w ka kc n.kids) (hkB : ∀ b o, ka = some ⟨b, o, none⟩ → b < B) (hk : n.kind = 10) (hmn : S.todo.length + 8 ≤ 100000000) :
    Calls Tryd.prog 54 #[.pointer (some ⟨pb, 0, none⟩), .agg #[.int .i64 n.kind, .int .i64 n.at_, .int .i64 n.wh, .int .i64 n.close, .int .i64 n.decl, .int .i64 n.typ, .int .i64 n.op, .int .i64 n.val, .string s, .slice ka 2 kc]] w fun e w' => e = .returned (.tuple #[]) ∧ PSt w' B w'.heap.size pb nv ⟨S.text, stParts n ++ S.todo, S.opn⟩ ∧ Below B w w' := by
  have hB := hS.le
  obtain ⟨b, o, rfl, hA⟩ := hK.out (by rw [hkids]; simp)
  have hbB := hkB b o rfl
  have hlb := hA.lt
  have p0 := hA.cell 0 (by rw [hkids]; simp)
  have p1 := hA.cell 1 (by rw [hkids]; simp)
  have hkc : 2 ≤ kc := by have := hK.le; rw [hkids] at this; simpa using this
  have hkm := hK.mx
  simp [hkids] at p0 p1
  have HPP : Hid (stParts n = [tp [105, 102, 32], wp x0, tp [32], wp x1]) := by
    show _ = _
    simp [stParts, hk, hkids]
  obtain ⟨kind, at_, wh, close, decl, typ, op, val, name, kids⟩ := n
  simp only at hk HPP ⊢
  subst hk
  clear hkB hkids hK hA
  have B9 : (w.alloc (.cells #[.int .i64 10, .int .i64 at_, .int .i64 wh, .int .i64 close, .int .i64 decl, .int .i64 typ, .int .i64 op, .int .i64 val, .string s, .slice (some ⟨b, o, none⟩) 2 kc] 39)).cell? ⟨w.heap.size, 9, none⟩ = some (.slice (some ⟨b, o, none⟩) 2 kc) := by simp
  go_enter Tryd.func54, Tryd.ntmps54
  go_wp2_with fail
  go_region_held (fun w' => w'.cell? ⟨w.heap.size, 9, none⟩ = some (.slice (some ⟨b, o, none⟩) 2 kc) ∧ w'.cell? ⟨b, o, none⟩ = some (.int .i64 x0) ∧ w'.cell? ⟨b, o + 1, none⟩ = some (.int .i64 x1)) (refine ⟨?_, ?_, ?_⟩ <;> (repeat (first | with_reducible exact B9 | with_reducible exact p0 | with_reducible exact p1 | with_reducible refine cellD ?_ | with_reducible refine cellA ?_)))
    (first
      | (go_at_call 44; refine (text_any _ _).mono ?_; rintro e w' ⟨rfl, rfl⟩)
      | (go_at_call 18; refine (whole_any _ _).mono ?_; rintro e w' ⟨rfl, rfl⟩))
  obtain ⟨w1, hw1⟩ : ∃ w1, w1 = ((((((w.alloc (.cells #[.int .i64 10, .int .i64 at_, .int .i64 wh, .int .i64 close, .int .i64 decl, .int .i64 typ, .int .i64 op, .int .i64 val, .string s, .slice (some ⟨b, o, none⟩) 2 kc] 39)).alloc (.cells #[.int .i64 0, .string ⟨#[105, 102, 32]⟩, .int .i64 0] 52)).alloc (.cells #[.int .i64 1, .string (bs []), .int .i64 x0] 52)).alloc (.cells #[.int .i64 0, .string ⟨#[32]⟩, .int .i64 0] 52)).alloc (.cells #[.int .i64 1, .string (bs []), .int .i64 x1] 52)).alloc (.cells #[.int .i64 0, .string ⟨#[105, 102, 32]⟩, .int .i64 0, .int .i64 1, .string (bs []), .int .i64 x0, .int .i64 0, .string ⟨#[32]⟩, .int .i64 0, .int .i64 1, .string (bs []), .int .i64 x1] 52)).drew := ⟨_, rfl⟩
  have hb1 : Below w.heap.size w w1 := by rw [hw1]; exact (by repeat (first | refine Below.alloc ?_ (by first | omega | (simp; done) | (simp; omega)) _ | refine Below.drew ?_ | exact Below.refl _ _))
  have B91 : w1.cell? ⟨w.heap.size, 9, none⟩ = some (.slice (some ⟨b, o, none⟩) 2 kc) := by rw [hw1]; repeat (first | with_reducible exact B9 | with_reducible refine cellD ?_ | with_reducible refine cellA ?_)
  have HO : OwnP w1 w.heap.size (.slice (some ⟨w.heap.size + 1 + 1 + 1 + 1 + 1, 0, none⟩) 4 4) 4 [tp [105, 102, 32], wp x0, tp [32], wp x1] := by
    rw [hw1]
    refine OwnP.keep (w := World.alloc _ _) ?_ (Below.refl _ _).drew
    exact ownp_new _ _ [tp [105, 102, 32], wp x0, tp [32], wp x1] 4 (w.heap.size + 1 + 1 + 1 + 1 + 1) w.heap.size (by simp) rfl rfl (by omega) (by omega)
  rw [← hw1]
  have hs1 := hb1.size
  have hwl : w.heap.size < w1.heap.size := block_lt_of_cell B91
  clear hw1 B9
  by_cases hc : kc = 2
  · subst hc
    go_wp2_with fail
    go_loopw [4, 24] (fun v c wr => v = .slice (some ⟨w.heap.size + 1 + 1 + 1 + 1 + 1, 0, none⟩) 4 4 ∧ c = .int .i64 0 ∧ wr = w1) (fun _ _ _ => 0)
    case atStart => exact ⟨rfl, rfl, rfl⟩
    case round =>
      obtain ⟨rfl, rfl, rfl⟩ := hrel
      obtain ⟨a2, c2, e2, _, _, hV2, ha2⟩ := HO.view
      cases e2
      go_wp2_with (first
        | (go_at_call 17; refine (put_st _ B F pb nv S [tp [105, 102, 32], wp x0, tp [32], wp x1] 4 _ _ (hS.below (hb1.mono (by omega)) (Nat.le_refl _)) (by omega) hV2 rfl (by omega) (fun g hg => by rcases ha2 with h | ⟨g', h, h3, _⟩; (· rw [h.1] at hg; cases hg); (· rw [h] at hg; cases hg; omega))).mono ?_; rintro e w3 ⟨rfl, HS, hb3, _⟩; have hbb : Below B w w3 := (hb1.mono (by omega)).trans hb3))
      first
        | exact bodyPost_end (v := .tuple #[]) (by simp [results, Tryd.results54, go_sem]) rfl ⟨rfl, by rw [HPP.out]; exact HS, hbb⟩
        | exact bodyPost_ret (v := .tuple #[]) (by simp [results, Tryd.results54, go_sem]) rfl ⟨rfl, by rw [HPP.out]; exact HS, hbb⟩
  · have hc2 : ¬ (kc : Int) = 2 := by omega
    go_wp2_with fail
    go_loopw [4, 24] (fun v c wr => v = .slice (some ⟨w.heap.size + 1 + 1 + 1 + 1 + 1, 0, none⟩) 4 4 ∧ c = .int .i64 0 ∧ wr = w1) (fun _ _ _ => 0)
    case atStart => exact ⟨rfl, rfl, rfl⟩
    case round =>
      obtain ⟨rfl, rfl, rfl⟩ := hrel
      obtain ⟨a2, c2, e2, _, _, hV2, ha2⟩ := HO.view
      cases e2
      go_wp2_with (first
        | (go_at_call 17; refine (put_st _ B F pb nv S [tp [105, 102, 32], wp x0, tp [32], wp x1] 4 _ _ (hS.below (hb1.mono (by omega)) (Nat.le_refl _)) (by omega) hV2 rfl (by omega) (fun g hg => by rcases ha2 with h | ⟨g', h, h3, _⟩; (· rw [h.1] at hg; cases hg); (· rw [h] at hg; cases hg; omega))).mono ?_; rintro e w3 ⟨rfl, HS, hb3, _⟩; have hbb : Below B w w3 := (hb1.mono (by omega)).trans hb3))
      first
        | exact bodyPost_end (v := .tuple #[]) (by simp [results, Tryd.results54, go_sem]) rfl ⟨rfl, by rw [HPP.out]; exact HS, hbb⟩
        | exact bodyPost_ret (v := .tuple #[]) (by simp [results, Tryd.results54, go_sem]) rfl ⟨rfl, by rw [HPP.out]; exact HS, hbb⟩
end Go.Proofs.YtjepkcebfojiaaaDoor
namespace Go.Proofs.YtjepkcebfojiaaaDoor
open Go.ChangeShapes Go.WideShapes Go.ChangeAt Go.RowKit

set_option maxRecDepth 10000 in
set_option maxHeartbeats 4000000 in
theorem putIf_3 (w : World) (B F pb : Nat) (nv : Value) (S : Ps) (hS : PSt w B F pb nv S) (hF : F ≤ w.heap.size)
    (n : Nd) (s : ByteArray) (ka : Option Addr) (kc : Nat) (x0 x1 x2 : Int) (hkids : n.kids = [x0, x1, x2]) (hK : Ints w ka kc n.kids) (hkB : ∀ b o, ka = some ⟨b, o, none⟩ → b < B) (hk : n.kind = 10) (hmn : S.todo.length + 8 ≤ 100000000) :
    Calls Tryd.prog 54 #[.pointer (some ⟨pb, 0, none⟩), .agg #[.int .i64 n.kind, .int .i64 n.at_, .int .i64 n.wh, .int .i64 n.close, .int .i64 n.decl, .int .i64 n.typ, .int .i64 n.op, .int .i64 n.val, .string s, .slice ka 3 kc]] w fun e w' => e = .returned (.tuple #[]) ∧ PSt w' B w'.heap.size pb nv ⟨S.text, stParts n ++ S.todo, S.opn⟩ ∧ Below B w w' := by
  have hB := hS.le
  obtain ⟨b, o, rfl, hA⟩ := hK.out (by rw [hkids]; simp)
  have hbB := hkB b o rfl
  have hlb := hA.lt
  have p0 := hA.cell 0 (by rw [hkids]; simp)
  have p1 := hA.cell 1 (by rw [hkids]; simp)
  have p2 := hA.cell 2 (by rw [hkids]; simp)
  have hkc : 3 ≤ kc := by have := hK.le; rw [hkids] at this; simpa using this
  have hkm := hK.mx
  simp [hkids] at p0 p1 p2
  have HPP : Hid (stParts n = [tp [105, 102, 32], wp x0, tp [32], wp x1] ++ [tp [32, 101, 108, 115, 101, 32], wp x2]) := by
    show _ = _
    simp [stParts, hk, hkids]
  obtain ⟨kind, at_, wh, close, decl, typ, op, val, name, kids⟩ := n
  simp only at hk HPP ⊢
  subst hk
  clear hkB hkids hK hA
  have B9 : (w.alloc (.cells #[.int .i64 10, .int .i64 at_, .int .i64 wh, .int .i64 close, .int .i64 decl, .int .i64 typ, .int .i64 op, .int .i64 val, .string s, .slice (some ⟨b, o, none⟩) 3 kc] 39)).cell? ⟨w.heap.size, 9, none⟩ = some (.slice (some ⟨b, o, none⟩) 3 kc) := by simp
  go_enter Tryd.func54, Tryd.ntmps54
  go_wp2_with fail
  go_region_held (fun w' => w'.cell? ⟨w.heap.size, 9, none⟩ = some (.slice (some ⟨b, o, none⟩) 3 kc) ∧ w'.cell? ⟨b, o, none⟩ = some (.int .i64 x0) ∧ w'.cell? ⟨b, o + 1, none⟩ = some (.int .i64 x1)) (refine ⟨?_, ?_, ?_⟩ <;> (repeat (first | with_reducible exact B9 | with_reducible exact p0 | with_reducible exact p1 | with_reducible refine cellD ?_ | with_reducible refine cellA ?_)))
    (first
      | (go_at_call 44; refine (text_any _ _).mono ?_; rintro e w' ⟨rfl, rfl⟩)
      | (go_at_call 18; refine (whole_any _ _).mono ?_; rintro e w' ⟨rfl, rfl⟩))
  obtain ⟨w1, hw1⟩ : ∃ w1, w1 = ((((((w.alloc (.cells #[.int .i64 10, .int .i64 at_, .int .i64 wh, .int .i64 close, .int .i64 decl, .int .i64 typ, .int .i64 op, .int .i64 val, .string s, .slice (some ⟨b, o, none⟩) 3 kc] 39)).alloc (.cells #[.int .i64 0, .string ⟨#[105, 102, 32]⟩, .int .i64 0] 52)).alloc (.cells #[.int .i64 1, .string (bs []), .int .i64 x0] 52)).alloc (.cells #[.int .i64 0, .string ⟨#[32]⟩, .int .i64 0] 52)).alloc (.cells #[.int .i64 1, .string (bs []), .int .i64 x1] 52)).alloc (.cells #[.int .i64 0, .string ⟨#[105, 102, 32]⟩, .int .i64 0, .int .i64 1, .string (bs []), .int .i64 x0, .int .i64 0, .string ⟨#[32]⟩, .int .i64 0, .int .i64 1, .string (bs []), .int .i64 x1] 52)).drew := ⟨_, rfl⟩
  have hb1 : Below w.heap.size w w1 := by rw [hw1]; exact (by repeat (first | refine Below.alloc ?_ (by first | omega | (simp; done) | (simp; omega)) _ | refine Below.drew ?_ | exact Below.refl _ _))
  have B91 : w1.cell? ⟨w.heap.size, 9, none⟩ = some (.slice (some ⟨b, o, none⟩) 3 kc) := by rw [hw1]; repeat (first | with_reducible exact B9 | with_reducible refine cellD ?_ | with_reducible refine cellA ?_)
  have HO : OwnP w1 w.heap.size (.slice (some ⟨w.heap.size + 1 + 1 + 1 + 1 + 1, 0, none⟩) 4 4) 4 [tp [105, 102, 32], wp x0, tp [32], wp x1] := by
    rw [hw1]
    refine OwnP.keep (w := World.alloc _ _) ?_ (Below.refl _ _).drew
    exact ownp_new _ _ [tp [105, 102, 32], wp x0, tp [32], wp x1] 4 (w.heap.size + 1 + 1 + 1 + 1 + 1) w.heap.size (by simp) rfl rfl (by omega) (by omega)
  rw [← hw1]
  have hs1 := hb1.size
  have hwl : w.heap.size < w1.heap.size := block_lt_of_cell B91
  clear hw1 B9
  have p2w : w1.cell? ⟨b, o + 2, none⟩ = some (.int .i64 x2) := cell_below hb1 hlb p2
  have hkc2 : ¬ kc = 2 := by omega
  have hb1l : b < w1.heap.size := by omega
  go_wp2_with fail
  go_loopw [4, 24] (fun v c wr => ∃ (i k : Nat) (X : List Pt), i ≤ 1 ∧ Hid (k = 4 + 2 * i) ∧ c = .int .i64 i ∧ OwnP wr w.heap.size v k X ∧ FlP [tp [105, 102, 32], wp x0, tp [32], wp x1] (fun x => [tp [32, 101, 108, 115, 101, 32], wp x]) [x2] i X ∧ Below w.heap.size w wr) (fun _ c _ => 1 - (intOf c).toNat)
  case atStart => exact ⟨0, 4, _, by omega, rfl, rfl, HO, ⟨by simp⟩, hb1⟩
  case round =>
    obtain ⟨i, k, X, hi, hk, rfl, HX, HB, hbl⟩ := hrel
    have hbs := hbl.size
    obtain ⟨va, vc, rfl⟩ := own_slice HX.out
    by_cases hlt : i < 1
    · obtain rfl : i = 0 := by omega
      have hk1 : k + 2 ≤ 100000000 := by have := hk.out; omega
      have p2r : wr.cell? ⟨b, o + 2, none⟩ = some (.int .i64 x2) := cell_below hbl hlb p2
      have HB2 := HB.next (by simp)
      simp only [List.getElem_cons_zero] at HB2
      go_wp2_with (first
        | (go_at_call 44; refine (text_any _ _).mono ?_; rintro e w' ⟨rfl, rfl⟩)
        | (go_at_call 18; refine (whole_any _ _).mono ?_; rintro e w' ⟨rfl, rfl⟩)
        | (at_builtin; refine wpList_append_parts rfl _ _ rfl w.heap.size _ k X [tp [32, 101, 108, 115, 101, 32], wp x2] 2 (wr.heap.size + 1 + 1) ?_ (HX.keep (by repeat (first | refine Below.alloc ?_ (by first | omega | (simp; done) | (simp; omega)) _ | refine Below.drew ?_ | exact Below.refl _ _))) ?_ (by simp) rfl rfl hk1 (by simp; omega) ?_; (next => rfl); (next => rfl); intro v2 w2 HX2 hb2))
      go_roundw
      case rel => exact ⟨1, k + 2, _, by omega, by have := hk.out; show _ = _; omega, by go_num, HX2, HB2, (by refine hbl.trans (Below.trans ?_ hb2); exact (by repeat (first | refine Below.alloc ?_ (by first | omega | (simp; done) | (simp; omega)) _ | refine Below.drew ?_ | exact Below.refl _ _)))⟩
      case measure => simp [intOf]
    · obtain rfl : i = 1 := by omega
      have HBL : Hid (X = [tp [105, 102, 32], wp x0, tp [32], wp x1] ++ [tp [32, 101, 108, 115, 101, 32], wp x2]) := by
        show _ = _
        rw [HB.out]
        rfl
      obtain ⟨a2, c2, e2, _, _, hV2, ha2⟩ := HX.view
      cases e2
      go_wp2_with (first
        | (go_at_call 17; refine (put_st _ B F pb nv S X k _ _ (hS.below (hbl.mono (by omega)) (Nat.le_refl _)) (by omega) hV2 HX.len (by have := hk.out; omega) (fun g hg => by rcases ha2 with h | ⟨g', h, h3, _⟩; (· rw [h.1] at hg; cases hg); (· rw [h] at hg; cases hg; omega))).mono ?_; rintro e w3 ⟨rfl, HS, hb3, _⟩; have hbb : Below B w w3 := (hbl.mono (by omega)).trans hb3))
      first
        | exact bodyPost_end (v := .tuple #[]) (by simp [results, Tryd.results54, go_sem]) rfl ⟨rfl, by rw [HPP.out, ← HBL.out]; exact HS, hbb⟩
        | exact bodyPost_ret (v := .tuple #[]) (by simp [results, Tryd.results54, go_sem]) rfl ⟨rfl, by rw [HPP.out, ← HBL.out]; exact HS, hbb⟩
end Go.Proofs.YtjepkcebfojiaaaDoor
namespace Go.Proofs.YtjepkcebfojiaaaDoor
open Go.ChangeShapes Go.WideShapes Go.ChangeAt Go.RowKit

set_option maxRecDepth 10000 in
set_option maxHeartbeats 4000000 in
theorem putSt_if2 (w : World) (B F pb : Nat) (nv : Value) (S : Ps) (hS : PSt w B F pb nv S) (hF : F ≤ w.heap.size)
    (n : Nd) (s : ByteArray) (ka : Option Addr) (kc : Nat) (x0 x1 : Int) (hkids : n.kids = [x0, x1]) (hK : Ints w ka kc n.kids) (hkB : ∀ b o, ka = some ⟨b, o, none⟩ → b < B) (hk : n.kind = 10) (hmn : S.todo.length + 8 ≤ 100000000) :
    Calls Tryd.prog 50 #[.pointer (some ⟨pb, 0, none⟩), .agg #[.int .i64 n.kind, .int .i64 n.at_, .int .i64 n.wh, .int .i64 n.close, .int .i64 n.decl, .int .i64 n.typ, .int .i64 n.op, .int .i64 n.val, .string s, .slice ka 2 kc]] w fun e w' => e = .returned (.tuple #[]) ∧ PSt w' B w'.heap.size pb nv ⟨S.text, stParts n ++ S.todo, S.opn⟩ ∧ Below B w w' := by
  have hB := hS.le
  have hb1 : ∀ (X : Obj) (K : Nat), K ≤ w.heap.size → Below K w (w.alloc X) := fun X K hK => (Below.refl _ _).alloc hK _
  have HK0 : Hid (n.kind = 10) := hk
  have HKI : Hid (n.kids = [x0, x1]) := hkids
  rw [hk]
  clear hk hkids
  go_enter Tryd.func50, Tryd.ntmps50
  go_wp2_with fail
  have H := putIf_2 (w.alloc (.cells #[.int .i64 n.kind, .int .i64 n.at_, .int .i64 n.wh, .int .i64 n.close, .int .i64 n.decl, .int .i64 n.typ, .int .i64 n.op, .int .i64 n.val, .string s, .slice ka 2 kc] 39)) B F pb nv S (hS.below (hb1 _ F hF) (Nat.le_refl _)) (by simp; omega) n s ka kc x0 x1 HKI.out (hK.below (hb1 _ _ (Nat.le_refl _)) (Nat.le_refl _)) hkB HK0.out hmn
  rw [HK0.out] at H
  refine H.mono ?_
  rintro e w' ⟨rfl, HS, hb⟩
  have hbb : Below B w w' := (hb1 _ B (by omega)).trans hb
  clear hb H
  go_wp2_with fail
  first
    | exact bodyPost_end (v := .tuple #[]) (by simp [results, Tryd.results50, go_sem]) rfl ⟨rfl, HS, hbb⟩
    | exact bodyPost_ret (v := .tuple #[]) (by simp [results, Tryd.results50, go_sem]) rfl ⟨rfl, HS, hbb⟩

set_option maxRecDepth 10000 in
set_option maxHeartbeats 4000000 in
theorem putSt_if3 (w : World) (B F pb : Nat) (nv : Value) (S : Ps) (hS : PSt w B F pb nv S) (hF : F ≤ w.heap.size)
    (n : Nd) (s : ByteArray) (ka : Option Addr) (kc : Nat) (x0 x1 x2 : Int) (hkids : n.kids = [x0, x1, x2]) (hK : Ints w ka kc n.kids) (hkB : ∀ b o, ka = some ⟨b, o, none⟩ → b < B) (hk : n.kind = 10) (hmn : S.todo.length + 8 ≤ 100000000) :
    Calls Tryd.prog 50 #[.pointer (some ⟨pb, 0, none⟩), .agg #[.int .i64 n.kind, .int .i64 n.at_, .int .i64 n.wh, .int .i64 n.close, .int .i64 n.decl, .int .i64 n.typ, .int .i64 n.op, .int .i64 n.val, .string s, .slice ka 3 kc]] w fun e w' => e = .returned (.tuple #[]) ∧ PSt w' B w'.heap.size pb nv ⟨S.text, stParts n ++ S.todo, S.opn⟩ ∧ Below B w w' := by
  have hB := hS.le
  have hb1 : ∀ (X : Obj) (K : Nat), K ≤ w.heap.size → Below K w (w.alloc X) := fun X K hK => (Below.refl _ _).alloc hK _
  have HK0 : Hid (n.kind = 10) := hk
  have HKI : Hid (n.kids = [x0, x1, x2]) := hkids
  rw [hk]
  clear hk hkids
  go_enter Tryd.func50, Tryd.ntmps50
  go_wp2_with fail
  have H := putIf_3 (w.alloc (.cells #[.int .i64 n.kind, .int .i64 n.at_, .int .i64 n.wh, .int .i64 n.close, .int .i64 n.decl, .int .i64 n.typ, .int .i64 n.op, .int .i64 n.val, .string s, .slice ka 3 kc] 39)) B F pb nv S (hS.below (hb1 _ F hF) (Nat.le_refl _)) (by simp; omega) n s ka kc x0 x1 x2 HKI.out (hK.below (hb1 _ _ (Nat.le_refl _)) (Nat.le_refl _)) hkB HK0.out hmn
  rw [HK0.out] at H
  refine H.mono ?_
  rintro e w' ⟨rfl, HS, hb⟩
  have hbb : Below B w w' := (hb1 _ B (by omega)).trans hb
  clear hb H
  go_wp2_with fail
  first
    | exact bodyPost_end (v := .tuple #[]) (by simp [results, Tryd.results50, go_sem]) rfl ⟨rfl, HS, hbb⟩
    | exact bodyPost_ret (v := .tuple #[]) (by simp [results, Tryd.results50, go_sem]) rfl ⟨rfl, HS, hbb⟩
end Go.Proofs.YtjepkcebfojiaaaDoor
