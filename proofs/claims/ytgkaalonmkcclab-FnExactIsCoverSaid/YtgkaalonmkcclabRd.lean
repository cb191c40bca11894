/-
  Reading memory: a slice whose cells read as a list of values; lists of integers; lists of pairs of a string and an integer. No program's text.
-/
import Derived.Test.YtgkaalonmkcclabKit
import Derived.OwnWalk
namespace Go.Proofs.Ytgkaalonmkcclab
open Go.RowKit

theorem ba_eq (a b : ByteArray) : (a == b) = decide (a.data.toList = b.data.toList) := by
  cases a with | mk x => cases b with | mk y =>
  show (x == y) = decide (x.toList = y.toList)
  rw [Bool.eq_iff_iff]
  simp
theorem str_eq (a b : ByteArray) : (a.toList == b.toList) = decide (a.data.toList = b.data.toList) := by rw [ByteArray.toList_eq, ByteArray.toList_eq]; rw [Bool.eq_iff_iff]; simp
theorem addr_add (b off k : Nat) : (⟨b, off, none⟩ : Addr).add k = ⟨b, off + k, none⟩ := by unfold Addr.add; split <;> simp_all

/-- The cells of a slice's elements read as these values. -/
def Rd (w : World) (x : Option Addr) (xs : List Value) : Prop :=
  xs = [] ∨ ∃ b off, x = some ⟨b, off, none⟩ ∧ b < w.heap.size ∧ ∀ j u, xs[j]? = some u → w.cell? ⟨b, off + j, none⟩ = some u
theorem Rd.nil (w : World) (x : Option Addr) : Rd w x [] := Or.inl rfl
theorem Rd.below {w w' : World} {x : Option Addr} {xs : List Value} (h : Rd w x xs) (hb : Below w.heap.size w w') : Rd w' x xs := by
  rcases h with h | ⟨b, off, e, hl, hc⟩
  · exact Or.inl h
  · exact Or.inr ⟨b, off, e, Nat.lt_of_lt_of_le hl hb.size, fun j u hj => (hb.cell hl).trans (hc j u hj)⟩
theorem Rd.alloc {w : World} {x : Option Addr} {xs : List Value} (h : Rd w x xs) (o : Obj) : Rd (w.alloc o) x xs := h.below ((Below.refl _ _).alloc (Nat.le_refl _) _)
theorem Rd.keep {w w' : World} {x : Option Addr} {xs : List Value} {r : Option Nat} (h : Rd w x xs) (hg : w.grownBy w' r) (hne : ∀ b off, x = some ⟨b, off, none⟩ → some b ≠ r) : Rd w' x xs := by
  rcases h with h | ⟨b, off, e, hl, hc⟩
  · exact Or.inl h
  · exact Or.inr ⟨b, off, e, Nat.lt_of_lt_of_le hl hg.size, fun j u hj => (World.cell?_of_block (hg.block b hl (hne b off e))).trans (hc j u hj)⟩
theorem Rd.take {w : World} {x : Option Addr} {xs : List Value} (h : Rd w x xs) (k : Nat) : Rd w x (xs.take k) := by
  rcases h with h | ⟨b, off, e, hl, hc⟩
  · exact Or.inl (by rw [h]; simp)
  · refine Or.inr ⟨b, off, e, hl, fun j u hj => hc j u ?_⟩
    rw [List.getElem?_take] at hj
    split at hj
    · exact hj
    · cases hj
theorem Rd.of_own {w : World} {base e size n cap : Nat} {x : Option Addr} {xs : List Value} (h : w.ownsRow base e size (.slice x n cap) n xs) : Rd w x xs := by
  obtain ⟨h1, h2⟩ := h
  rcases h2 with ⟨_, rfl⟩ | ⟨g, cap', cur, hv, hb, hg, _, _, _, ht⟩
  · exact Or.inl (List.eq_nil_of_length_eq_zero (by simpa using h1))
  · injection hv with hx _ _
    subst hx
    refine Or.inr ⟨g, 0, rfl, (Array.getElem?_eq_some_iff.1 hg).1, fun j u hj => ?_⟩
    rw [Nat.zero_add, cell_of_row w g j cur e (0, 0) hg, ← Array.getElem?_toList]
    rw [← ht, List.getElem?_take] at hj
    split at hj
    · exact hj
    · cases hj

/-- The cells of a list of integers. -/
def iC (L : List Int) : List Value := L.map (Value.int .i64)
theorem iC_len (L : List Int) : (iC L).length = L.length := by unfold iC; simp
theorem iC_take (L : List Int) (k : Nat) : iC (L.take k) = (iC L).take k := by unfold iC; rw [List.map_take]
theorem iC_at {L : List Int} {i : Nat} {v : Int} (h : L[i]? = some v) : (iC L)[i]? = some (.int .i64 v) := by unfold iC; rw [List.getElem?_map, h]; rfl
theorem iC_inj {L M : List Int} (h : iC L = iC M) : L = M := by
  unfold iC at h
  exact List.map_inj_right (fun a b e => by injection e) |>.1 h
theorem Rd.int {w : World} {x : Option Addr} {L : List Int} {i : Nat} (h : Rd w x (iC L)) (hi : i < L.length) :
    ∃ b off v, x = some ⟨b, off, none⟩ ∧ b < w.heap.size ∧ L[i]? = some v ∧ w.cell? ⟨b, off + i, none⟩ = some (.int .i64 v) := by
  rcases h with h | ⟨b, off, e, hl, hc⟩
  · have := iC_len L
    rw [h] at this
    simp at this
    omega
  · exact ⟨b, off, L[i], e, hl, List.getElem?_eq_getElem hi, hc i _ (iC_at (List.getElem?_eq_getElem hi))⟩

/-- The cells of a list of pairs of a string and an integer. -/
def vC : List (ByteArray × Int) → List Value
  | [] => []
  | p :: r => .string p.1 :: .int .i64 p.2 :: vC r
theorem vC_len : ∀ S : List (ByteArray × Int), (vC S).length = S.length * 2
  | [] => rfl
  | p :: r => by
    have := vC_len r
    simp only [vC, List.length_cons]
    omega
theorem vC_at0 : ∀ {S : List (ByteArray × Int)} {i : Nat} {p : ByteArray × Int}, S[i]? = some p → (vC S)[i * 2]? = some (.string p.1)
  | [], i, p, h => by simp at h
  | q :: r, 0, p, h => by simp at h; subst h; simp [vC]
  | q :: r, i + 1, p, h => by
    simp only [List.getElem?_cons_succ] at h
    rw [show (i + 1) * 2 = i * 2 + 1 + 1 by omega]
    simp only [vC, List.getElem?_cons_succ]
    exact vC_at0 h
theorem vC_at1 : ∀ {S : List (ByteArray × Int)} {i : Nat} {p : ByteArray × Int}, S[i]? = some p → (vC S)[i * 2 + 1]? = some (.int .i64 p.2)
  | [], i, p, h => by simp at h
  | q :: r, 0, p, h => by simp at h; subst h; simp [vC]
  | q :: r, i + 1, p, h => by
    simp only [List.getElem?_cons_succ] at h
    rw [show (i + 1) * 2 + 1 = i * 2 + 1 + 1 + 1 by omega]
    simp only [vC, List.getElem?_cons_succ]
    exact vC_at1 h
theorem vC_app : ∀ (S T : List (ByteArray × Int)), vC (S ++ T) = vC S ++ vC T
  | [], T => rfl
  | p :: r, T => by simp [vC, vC_app r T]
theorem vC_take : ∀ (S : List (ByteArray × Int)) (k : Nat), vC (S.take k) = (vC S).take (k * 2)
  | [], k => by simp [vC]
  | p :: r, 0 => by simp [vC]
  | p :: r, k + 1 => by
    rw [show (k + 1) * 2 = k * 2 + 1 + 1 by omega]
    simp [vC, vC_take r k]
theorem Rd.var {w : World} {x : Option Addr} {S : List (ByteArray × Int)} {i : Nat} (h : Rd w x (vC S)) (hi : i < S.length) :
    ∃ b off nm lv, x = some ⟨b, off, none⟩ ∧ b < w.heap.size ∧ S[i]? = some (nm, lv) ∧ w.cell? ⟨b, off + i * 2, none⟩ = some (.string nm) ∧ w.cell? ⟨b, off + i * 2 + 1, none⟩ = some (.int .i64 lv) := by
  rcases h with h | ⟨b, off, e, hl, hc⟩
  · have := vC_len S
    rw [h] at this
    simp at this
    omega
  · exact ⟨b, off, S[i].1, S[i].2, e, hl, List.getElem?_eq_getElem hi, hc _ _ (vC_at0 (List.getElem?_eq_getElem hi)), hc _ _ (vC_at1 (List.getElem?_eq_getElem hi))⟩
end Go.Proofs.Ytgkaalonmkcclab
