/-
  What functions of chapter 3 that give data hand back; the sizes of data.
-/
import Derived.Test.YtnmpigedhpdenabRecO
import Derived.Test.YtnmpigedhpdenabRecM
namespace Go.Proofs.Ytnmpigedhpdenab
open Go.RowKit
set_option maxRecDepth 100000

/-- Data and a bool that the program's function gives: its own memory. -/
def DsI (b : Bool) (R : List RV) (w : World) (e : Ending) (w' : World) : Prop :=
  ∃ v T, e = .returned (.tuple #[v, .bool b]) ∧ pM T = R ∧ OwD w' w.heap.size w'.heap.size 140 3 v T ∧ Below w.heap.size w w'
/-- Data and a bool that the model's function gives. -/
def DsS (b : Bool) (R : List RV) (w : World) (e : Ending) (w' : World) : Prop :=
  ∃ x c T, e = .returned (.tuple #[.slice x (List.length (α := PR) T) c, .bool b]) ∧ pM T = R ∧ DRd w' w.heap.size w'.heap.size x T ∧ Below w.heap.size w w'
def rsL (b : Bool) (R : List RV) : List RV := if b then R else []
theorem OwD.nil (w : World) (lo hi : Nat) (tr ti : TypeId) : OwD w lo hi tr ti (.slice none 0 0) [] :=
  ⟨⟨World.ownsRow_nil _ _ _ _, fun k hk => (by cases hk)⟩, ⟨fun q hq => (by cases hq), by simp⟩, fun q hq => (by cases hq)⟩
theorem DRd.nil (w : World) (lo hi : Nat) : DRd w lo hi none [] := ⟨Or.inl rfl, fun b off e => by (cases e), fun q hq => by (cases hq)⟩
theorem DsI.no {b : Bool} {R : List RV} {w w' : World} (hb : b = false) (hw : Below w.heap.size w w') : DsI b (rsL b R) w (.returned (.tuple #[.slice none 0 0, .bool false])) w' := by
  subst hb
  exact ⟨_, [], rfl, rfl, OwD.nil _ _ _ _ _, hw⟩
theorem DsS.no {b : Bool} {R : List RV} {w w' : World} (hb : b = false) (hw : Below w.heap.size w w') : DsS b (rsL b R) w (.returned (.tuple #[.slice none 0 0, .bool false])) w' := by
  subst hb
  exact ⟨none, 0, [], rfl, rfl, DRd.nil _ _ _, hw⟩
theorem DsI.yes {b : Bool} {R : List RV} {w w' : World} {v : Value} {T : List PR} (hb : b = true) (hT : pM T = R) (ho : OwD w' w.heap.size w'.heap.size 140 3 v T) (hw : Below w.heap.size w w') : DsI b (rsL b R) w (.returned (.tuple #[v, .bool true])) w' := by
  subst hb
  exact ⟨v, T, rfl, hT, ho, hw⟩
theorem DsS.yes {b : Bool} {R : List RV} {w w' : World} {x : Option Addr} {c : Nat} {T : List PR} (hb : b = true) (hT : pM T = R) (ho : DRd w' w.heap.size w'.heap.size x T) (hw : Below w.heap.size w w') : DsS b (rsL b R) w (.returned (.tuple #[.slice x T.length c, .bool true])) w' := by
  subst hb
  exact ⟨x, c, T, rfl, hT, ho, hw⟩

/-- How many values all records have, without their places. -/
def totR (R : List RV) : Nat := (R.map fun q => q.2.2.length).sum
theorem tot_pM (Q : List PR) : tot Q = totR (pM Q) := by unfold tot totR pM; rw [List.map_map]; rfl
theorem tot_eq {T Q : List PR} (h : pM T = pM Q) : tot T = tot Q := by rw [tot_pM, tot_pM, h]
theorem totR_le {R : List RV} {n : Nat} (h : ∀ q ∈ R, q.2.2.length ≤ n) : totR R ≤ R.length * n := by
  unfold totR
  induction R with
  | nil => simp
  | cons q r ih =>
    have h1 := h q (by simp)
    have h2 := ih (fun p hp => h p (List.mem_cons_of_mem _ hp))
    rw [List.map_cons, List.sum_cons, List.length_cons, Nat.add_mul]
    omega
theorem rsL_small {b : Bool} {R : List RV} (h : b = true → R.length ≤ 40 ∧ ∀ q ∈ R, q.2.2.length ≤ 6) : (rsL b R).length ≤ 40 ∧ totR (rsL b R) ≤ 240 := by
  unfold rsL
  cases b with
  | false => simp [totR]
  | true =>
    obtain ⟨h1, h2⟩ := h rfl
    have h3 := totR_le h2
    simp only [if_true]
    exact ⟨h1, by omega⟩
theorem dok_small {S : List (ByteArray × Int)} {R : List RV} (h : idB S R = true) : R.length ≤ 40 ∧ ∀ q ∈ R, q.2.2.length ≤ 6 := by
  unfold idB at h
  rw [Bool.and_eq_true] at h
  refine ⟨dokB_len h.2, fun q hq => ?_⟩
  have := fit_len (rokB_get (dokB_mem h.2 hq)).2.2.2.2
  have := (schB_len h.1).2
  omega
theorem DRd.inn {w : World} {lo hi : Nat} {x : Option Addr} {Q : List PR} (h : DRd w lo hi x Q) : ∀ q ∈ Q, Rd w q.x (iC q.L) := fun q hq => (h.2.2 q hq).1
theorem OwD.rd {w : World} {lo hi : Nat} {tr ti : TypeId} {x : Option Addr} {c : Nat} {Q : List PR} (h : OwD w lo hi tr ti (.slice x Q.length c) Q) : Rd w x (pC Q) := h.1.rd
theorem OwD.inn {w : World} {lo hi : Nat} {tr ti : TypeId} {v : Value} {Q : List PR} (h : OwD w lo hi tr ti v Q) : ∀ q ∈ Q, Rd w q.x (iC q.L) := fun q hq => (h.2.1.1 q hq).rd
theorem tot_all {Q : List PR} (h : tot Q ≤ 1048576) : ∀ q ∈ Q, q.L.length ≤ 9223372036854775807 := fun q hq => by have := tot_mem hq; omega
end Go.Proofs.Ytnmpigedhpdenab
