/-
  The laws' helpers on records and lists of records: the size, a copy, a comparison.
-/
import Derived.Test.YtgkaalonmkcclabRec
import Derived.Test.YtgkaalonmkcclabGrpL
namespace Go.Proofs.Ytgkaalonmkcclab
open Go.RowKit
set_option maxRecDepth 100000

theorem Try.infoRec : (Try.prog.info? 52).map (fun i => (i.zero, i.size, i.bytes)) = some (some (.agg #[.int .i64 0, .int .i64 0, .slice none 0 0]), 3, 40) := by kernel_rfl
/-- The value of a record. -/
def PR.g (q : PR) : Value := .agg #[.int .i64 q.a, .int .i64 q.h, .slice q.x q.L.length q.c]

/-- How many values all records have. -/
def tot (Q : List PR) : Nat := (Q.map fun q => q.L.length).sum
theorem tot_snoc (Q : List PR) (q : PR) : tot (Q ++ [q]) = tot Q + q.L.length := by unfold tot; simp
theorem tot_mem {Q : List PR} {q : PR} (h : q ∈ Q) : q.L.length ≤ tot Q := by
  induction Q with
  | nil => cases h
  | cons p r ih =>
    unfold tot at ih ⊢
    rw [List.map_cons, List.sum_cons]
    rcases List.mem_cons.1 h with rfl | h
    · omega
    · have := ih h
      omega
theorem tot_take {Q : List PR} {i : Nat} {q : PR} (h : Q[i]? = some q) : tot (Q.take (i + 1)) = tot (Q.take i) + q.L.length := by rw [take_snoc h, tot_snoc]
/-- What a size of records says. -/
def SzPostR (left : Int) (Q : List PR) (w : World) (e : Ending) (w' : World) : Prop :=
  ∃ r : Int, e = .returned (.int .i64 r) ∧ r ≤ left ∧ -1 ≤ r ∧ (0 ≤ r → r + Q.length + tot Q = left) ∧ Below w.heap.size w w'
/-- A record that the law has copied. -/
def RcPost (a h : Int) (G : List Int) (w : World) (e : Ending) (w' : World) : Prop :=
  ∃ g, e = .returned (.agg #[.int .i64 a, .int .i64 h, .slice (some ⟨g, 0, none⟩) G.length G.length]) ∧ OwR w' w.heap.size w'.heap.size 3 1 (.slice (some ⟨g, 0, none⟩) G.length G.length) G.length (iC G) ∧ Below w.heap.size w w'
theorem OwV.snoc {w : World} {lo mid hi : Nat} {ti : TypeId} {T : List PR} {q : PR} (h : OwV w lo mid ti T) (hq : OwR w mid hi ti 1 q.v q.L.length (iC q.L)) (h1 : lo ≤ mid) (h2 : mid ≤ hi) : OwV w lo hi ti (T ++ [q]) := by
  refine ⟨fun p hp => ?_, ?_⟩
  · rcases List.mem_append.1 hp with hp | hp
    · exact (h.1 p hp).more (Nat.le_refl _) h2
    · rw [List.mem_singleton] at hp
      subst hp
      exact hq.more h1 (Nat.le_refl _)
  · rw [List.filterMap_append, List.nodup_append]
    refine ⟨h.2, ?_, fun a ha b hb => ?_⟩
    · simp only [List.filterMap_cons, List.filterMap_nil]
      split <;> simp
    · obtain ⟨p, hp, e⟩ := List.mem_filterMap.1 ha
      obtain ⟨p2, hp2, e2⟩ := List.mem_filterMap.1 hb
      rw [List.mem_singleton] at hp2
      subst hp2
      have := (h.1 p hp).2 a e
      have := hq.2 b e2
      omega
theorem pC_snoc_at {T : List PR} {q : PR} {xs : List Value} {i n : Nat} (hT : T.length = i) (hi : i < n) (hl : xs.length = n * 3) (hd : ∀ j, j < i * 3 → xs[j]? = (pC T)[j]?) :
    ∀ j, j < (i + 1) * 3 → (((xs.set (i * 3) (.int .i64 q.a)).set (i * 3 + 1) (.int .i64 q.h)).set (i * 3 + 2) q.v)[j]? = (pC (T ++ [q]))[j]? := by
  intro j hj
  have hq : (T ++ [q])[i]? = some q := by subst hT; simp
  rw [List.getElem?_set, List.getElem?_set, List.getElem?_set]
  simp only [List.length_set]
  by_cases e2 : i * 3 + 2 = j
  · subst e2; rw [if_pos rfl, if_pos (by omega), pC_at2 hq]
  by_cases e1 : i * 3 + 1 = j
  · subst e1; rw [if_neg e2, if_pos rfl, if_pos (by omega), pC_at1 hq]
  by_cases e0 : i * 3 = j
  · subst e0; rw [if_neg e2, if_neg e1, if_pos rfl, if_pos (by omega), pC_at0 hq]
  · rw [if_neg e2, if_neg e1, if_neg e0, hd j (by omega), pC_app, List.getElem?_append_left (by rw [pC_len]; omega)]

/-- A list of records that the law has copied. -/
def DcPost (Q : List PR) (w : World) (e : Ending) (w' : World) : Prop :=
  ∃ T : List PR, e = .returned (.slice (some ⟨w.heap.size, 0, none⟩) T.length T.length) ∧ pM T = pM Q ∧ OwD w' w.heap.size w'.heap.size 52 3 (.slice (some ⟨w.heap.size, 0, none⟩) T.length T.length) T ∧ Below w.heap.size w w'
theorem pM_get {Q T : List PR} (h : pM T = pM Q) {i : Nat} {q t : PR} (hq : Q[i]? = some q) (ht : T[i]? = some t) : t.a = q.a ∧ t.h = q.h ∧ t.L = q.L := by
  have e := Option.some.inj ((pM_at ht).symm.trans (h ▸ pM_at hq))
  unfold PR.m at e
  injection e with e1 e2
  injection e2 with e2 e3
  exact ⟨e1, e2, e3⟩
theorem pM_length {Q T : List PR} (h : pM T = pM Q) : T.length = Q.length := by rw [← pM_len, h, pM_len]
end Go.Proofs.Ytgkaalonmkcclab
