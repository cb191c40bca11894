/-
  The model's draws of chapter 2: values.
-/
import Derived.Test.YtmefkknkahmihaaDrwT
namespace Go.Proofs.Ytmefkknkahmihaa
open Go.RowKit
set_option maxRecDepth 100000

/-- Numbers that are drawn. -/
def SmI (L : List Int) : Prop := ∀ n ∈ L, -1 ≤ n ∧ n ≤ 9
theorem SmI.nil : SmI [] := fun n hn => by cases hn
theorem SmI.snoc {L : List Int} {n : Int} (h : SmI L) (h1 : -1 ≤ n) (h2 : n ≤ 9) : SmI (L ++ [n]) := by
  intro m hm
  rcases List.mem_append.1 hm with hm | hm
  · exact h m hm
  · simp at hm
    subst hm
    exact ⟨h1, h2⟩
theorem SmI.set {L : List Int} {n : Int} (h : SmI L) (k : Nat) (h1 : -1 ≤ n) (h2 : n ≤ 9) : SmI (L.set k n) := by
  intro m hm
  rcases List.mem_or_eq_of_mem_set hm with hm | rfl
  · exact h m hm
  · exact ⟨h1, h2⟩
theorem Rd.oneI_at (w : World) (t : TypeId) (n : Int) (g : Nat) (h : w.heap.size = g) : Rd (w.alloc (.cells #[.int .i64 n] t)) (some ⟨g, 0, none⟩) (iC [n]) := by
  subst h
  refine Or.inr ⟨w.heap.size, 0, rfl, by simp, fun j u hj => ?_⟩
  have : j = 0 := by
    have := (List.getElem?_eq_some_iff.1 hj).1
    simp [iC] at this
    exact this
  subst this
  simp [iC] at hj
  subst hj
  rw [World.cell?_alloc_at _ _ _ _ rfl]
  rfl
theorem iC_app (A B : List Int) : iC (A ++ B) = iC A ++ iC B := by unfold iC; rw [List.map_append]
def ValPost (b : Nat) (x : Option Addr) (n cap k more hi : Nat) (w : World) (e : Ending) (w' : World) : Prop :=
  ∃ (L : List Int) (v : Value) (k' : Nat), e = .returned v ∧ SmI L ∧ L.length ≤ hi ∧ k ≤ k' ∧ k' ≤ k + more ∧ w'.ownsRow w.heap.size 3 1 v L.length (iC L) ∧ CurAt w' b x n cap k' ∧ w.grownBy w' (some b)
end Go.Proofs.Ytmefkknkahmihaa
