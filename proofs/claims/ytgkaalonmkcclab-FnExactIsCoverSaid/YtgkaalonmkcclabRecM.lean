/-
  The laws' marks on records and lists of records, and their test; the same on households.
-/
import Derived.Test.YtgkaalonmkcclabRecL
namespace Go.Proofs.Ytgkaalonmkcclab
open Go.RowKit
set_option maxRecDepth 100000

/-- The records that are marked from k on; what the marks come to. -/
def mR (k : Int) : List PR → List PR
  | [] => []
  | q :: r => ⟨k, k + 1, q.x, q.c, mkL (k + 2) q.L.length⟩ :: mR (k + 2 + q.L.length) r
theorem mR_len : ∀ (k : Int) (Q : List PR), (mR k Q).length = Q.length
  | _, [] => rfl
  | k, q :: r => by simp [mR, mR_len _ r]
theorem mR_app : ∀ (k : Int) (Q T : List PR), mR k (Q ++ T) = mR k Q ++ mR (k + 2 * Q.length + tot Q) T
  | k, [], T => by simp [mR, tot]
  | k, q :: r, T => by
    simp only [List.cons_append, mR, mR_app _ r T, List.length_cons]
    congr 3
    unfold tot
    simp only [List.map_cons, List.sum_cons]
    omega
theorem mR_step (k : Int) {Q : List PR} {i : Nat} {q : PR} (h : Q[i]? = some q) (hi : i < Q.length) :
    mR k (Q.take (i + 1)) ++ Q.drop (i + 1) = (mR k (Q.take i) ++ Q.drop i).set i ⟨k + 2 * i + tot (Q.take i), k + 2 * i + tot (Q.take i) + 1, q.x, q.c, mkL (k + 2 * i + tot (Q.take i) + 2) q.L.length⟩ := by
  have hl : (mR k (Q.take i)).length = i := by rw [mR_len, List.length_take]; omega
  have hd : Q.drop i = q :: Q.drop (i + 1) := by
    rw [List.drop_eq_getElem_cons hi]
    rw [List.getElem?_eq_getElem hi] at h
    injection h with h
    rw [h]
  rw [List.set_append_right _ _ (by omega), hl, Nat.sub_self, hd, List.set_cons_zero, take_snoc h, mR_app, List.append_assoc, List.length_take, Nat.min_eq_left (by omega)]
  rfl
theorem mR_at (k : Int) {Q : List PR} {i : Nat} {q : PR} (h : Q[i]? = some q) (hi : i < Q.length) :
    (mR k Q)[i]? = some ⟨k + 2 * i + tot (Q.take i), k + 2 * i + tot (Q.take i) + 1, q.x, q.c, mkL (k + 2 * i + tot (Q.take i) + 2) q.L.length⟩ := by
  have hl : (mR k (Q.take i)).length = i := by rw [mR_len, List.length_take]; omega
  have e : mR k Q = mR k (Q.take (i + 1)) ++ mR (k + 2 * (Q.take (i + 1)).length + tot (Q.take (i + 1))) (Q.drop (i + 1)) := by rw [← mR_app, List.take_append_drop]
  rw [e, List.getElem?_append_left (by rw [mR_len, List.length_take]; omega), take_snoc h, mR_app, List.getElem?_append_right (by omega), hl, Nat.sub_self, List.length_take, Nat.min_eq_left (by omega)]
  rfl
theorem pC_set0 : ∀ (Q : List PR) (i : Nat) (q : PR) (n : Int), Q[i]? = some q → (pC Q).set (i * 3) (.int .i64 n) = pC (Q.set i ⟨n, q.h, q.x, q.c, q.L⟩)
  | [], i, q, n, h => by simp at h
  | p :: r, 0, q, n, h => by simp at h; subst h; simp [pC, PR.v]
  | p :: r, i + 1, q, n, h => by
    simp only [List.getElem?_cons_succ] at h
    rw [show (i + 1) * 3 = i * 3 + 1 + 1 + 1 by omega]
    simp only [pC, List.set_cons_succ]
    rw [pC_set0 r i q n h]
theorem pC_set1 : ∀ (Q : List PR) (i : Nat) (q : PR) (n : Int), Q[i]? = some q → (pC Q).set (i * 3 + 1) (.int .i64 n) = pC (Q.set i ⟨q.a, n, q.x, q.c, q.L⟩)
  | [], i, q, n, h => by simp at h
  | p :: r, 0, q, n, h => by simp at h; subst h; simp [pC, PR.v]
  | p :: r, i + 1, q, n, h => by
    simp only [List.getElem?_cons_succ] at h
    rw [show (i + 1) * 3 + 1 = i * 3 + 1 + 1 + 1 + 1 by omega]
    simp only [pC, List.set_cons_succ]
    rw [pC_set1 r i q n h]
theorem pC_setL : ∀ (Q : List PR) (i : Nat) (q : PR) (M : List Int), Q[i]? = some q → M.length = q.L.length → pC (Q.set i ⟨q.a, q.h, q.x, q.c, M⟩) = pC Q
  | [], i, q, M, h, _ => by simp at h
  | p :: r, 0, q, M, h, hl => by simp at h; subst h; simp [pC, PR.v, hl]
  | p :: r, i + 1, q, M, h, hl => by
    simp only [List.getElem?_cons_succ] at h
    simp only [pC, List.set_cons_succ]
    rw [pC_setL r i q M h hl]
theorem blk_set {Q : List PR} {i : Nat} {q p : PR} (h : Q[i]? = some q) (hx : p.v.ownBlock = q.v.ownBlock) : (Q.set i p).filterMap (fun q => q.v.ownBlock) = Q.filterMap (fun q => q.v.ownBlock) := by
  obtain ⟨hi, e⟩ := List.getElem?_eq_some_iff.1 h
  rw [List.set_eq_take_append_cons_drop, if_pos hi]
  conv => rhs; rw [← List.take_append_drop i Q, List.drop_eq_getElem_cons hi, e]
  simp only [List.filterMap_append, List.filterMap_cons, hx]
theorem mem_set_cases {Q : List PR} {i : Nat} {p q : PR} (h : q ∈ Q.set i p) : q = p ∨ ∃ j, j ≠ i ∧ Q[j]? = some q := by
  obtain ⟨j, hj, e⟩ := List.getElem_of_mem h
  rw [List.getElem_set] at e
  split at e
  · exact Or.inl e.symm
  · refine Or.inr ⟨j, by omega, ?_⟩
    rw [List.length_set] at hj
    rw [List.getElem?_eq_getElem hj, e]
theorem blk_ne {Q : List PR} {i j : Nat} {q p : PR} (hn : (Q.filterMap fun q => q.v.ownBlock).Nodup) (hq : Q[i]? = some q) (hp : Q[j]? = some p) (hij : j ≠ i) {k : Nat} (hk : q.v.ownBlock = some k) : p.v.ownBlock ≠ some k := by
  induction Q generalizing i j with
  | nil => simp at hq
  | cons r rs ih =>
    intro hpk
    cases i with
    | zero =>
      cases j with
      | zero => exact hij rfl
      | succ j =>
        simp at hq hp
        subst hq
        rw [List.filterMap_cons, hk, List.nodup_cons] at hn
        exact hn.1 (List.mem_filterMap.2 ⟨p, List.mem_of_getElem? hp, hpk⟩)
    | succ i =>
      cases j with
      | zero =>
        simp at hq hp
        subst hp
        rw [List.filterMap_cons, hpk, List.nodup_cons] at hn
        exact hn.1 (List.mem_filterMap.2 ⟨q, List.mem_of_getElem? hq, hk⟩)
      | succ j =>
        simp only [List.getElem?_cons_succ] at hq hp
        refine ih ?_ hq hp (by omega) hpk
        rw [List.filterMap_cons] at hn
        split at hn
        · exact hn
        · exact (List.nodup_cons.1 hn).2
section
variable {w w1 : World} {lo hi : Nat} {tr ti : TypeId} {Q : List PR} {i g c : Nat} {q : PR}
/-- A store into the row itself. -/
theorem OwD.put {p : PR} (h : OwD w lo hi tr ti (.slice (some ⟨g, 0, none⟩) Q.length c) Q) (hq : Q[i]? = some q) (hx : p.x = q.x ∧ p.c = q.c ∧ p.L = q.L) (hr : w1.ownsRow lo tr 3 (.slice (some ⟨g, 0, none⟩) Q.length c) Q.length (pC (Q.set i p))) (hg : w.grownBy w1 (some g)) :
    OwD w1 lo hi tr ti (.slice (some ⟨g, 0, none⟩) (Q.set i p).length c) (Q.set i p) := by
  obtain ⟨h1, h2, h3⟩ := h
  have hpv : p.v = q.v := by unfold PR.v; rw [hx.1, hx.2.1, hx.2.2]
  have hmem := List.mem_of_getElem? hq
  have keep : ∀ r ∈ Q, OwR w1 lo hi ti 1 r.v r.L.length (iC r.L) := fun r hr =>
    ⟨(h2.1 r hr).1.kept hg (by
      cases hb : r.v.ownBlock with
      | none => exact Or.inl rfl
      | some k => exact Or.inr fun e => h3 r hr g rfl (by rw [hb, e])), (h2.1 r hr).2⟩
  refine ⟨⟨by rw [List.length_set]; exact hr, ?_⟩, ⟨fun r hr2 => ?_, ?_⟩, fun r hr2 k hk => ?_⟩
  · intro k hk; exact h1.2 k hk
  · rcases mem_set_cases hr2 with rfl | ⟨j, _, hj⟩
    · rw [hpv, hx.2.2]; exact keep q hmem
    · exact keep r (List.mem_of_getElem? hj)
  · rw [blk_set hq (by rw [hpv])]; exact h2.2
  · rcases mem_set_cases hr2 with rfl | ⟨j, _, hj⟩
    · rw [hpv]; exact h3 q hmem k hk
    · exact h3 r (List.mem_of_getElem? hj) k hk
/-- The values' row of record i is written. -/
theorem OwD.turn {M : List Int} (h : OwD w lo hi tr ti (.slice (some ⟨g, 0, none⟩) Q.length c) Q) (hq : Q[i]? = some q) (hl : M.length = q.L.length) (hr : w1.ownsRow lo ti 1 q.v q.L.length (iC M)) (hg : w.grownBy w1 q.v.ownBlock) :
    OwD w1 lo hi tr ti (.slice (some ⟨g, 0, none⟩) (Q.set i ⟨q.a, q.h, q.x, q.c, M⟩).length c) (Q.set i ⟨q.a, q.h, q.x, q.c, M⟩) := by
  obtain ⟨h1, h2, h3⟩ := h
  have hmem := List.mem_of_getElem? hq
  have hpv : (PR.mk q.a q.h q.x q.c M).v = q.v := by unfold PR.v; rw [hl]
  refine ⟨⟨?_, fun k hk => h1.2 k hk⟩, ⟨fun r hr2 => ?_, ?_⟩, fun r hr2 k hk => ?_⟩
  · rw [List.length_set, pC_setL Q i q M hq hl]
    refine h1.1.kept hg (Or.inr fun e => h3 q hmem g rfl ?_)
    rw [← e]; rfl
  · rcases mem_set_cases hr2 with rfl | ⟨j, hji, hj⟩
    · rw [hpv]; exact ⟨by rw [hl]; exact hr, (h2.1 q hmem).2⟩
    · have hrm := List.mem_of_getElem? hj
      refine ⟨(h2.1 r hrm).1.kept hg ?_, (h2.1 r hrm).2⟩
      cases hb : r.v.ownBlock with
      | none => exact Or.inl rfl
      | some k => exact Or.inr fun e => blk_ne h2.2 hq hj hji e.symm hb
  · rw [blk_set hq (by rw [hpv])]; exact h2.2
  · rcases mem_set_cases hr2 with rfl | ⟨j, _, hj⟩
    · rw [hpv]; exact h3 q hmem k hk
    · exact h3 r (List.mem_of_getElem? hj) k hk
end
theorem set_same {Q : List PR} {i : Nat} {q p : PR} (h : Q[i]? = some q) : (Q.set i p)[i]? = some p := by
  rw [List.getElem?_set, if_pos rfl, if_pos (List.getElem?_eq_some_iff.1 h).1]

theorem own_some {w : World} {base e size n : Nat} {v : Value} {xs : List Value} (h : w.ownsRow base e size v n xs) (hn : 0 < n) : ∃ g cap, v = .slice (some ⟨g, 0, none⟩) n cap := by
  rcases h.2 with ⟨_, h2⟩ | ⟨g, cap, cur, hv, _⟩
  · omega
  · exact ⟨g, cap, hv⟩

theorem tot0 (Q : List PR) : tot (Q.take 0) = 0 := by simp [tot]
end Go.Proofs.Ytgkaalonmkcclab
