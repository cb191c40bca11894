/-
  Reading back a schema: the model's walk.
-/
import Derived.Test.YtmbchahjgefbpabGreatDoorSchQ
import Derived.Test.YtmbchahjgefbpabGreatDoorStp
namespace Go.Proofs.YtmbchahjgefbpabGreatDoor
open Go.RowKit
set_option maxRecDepth 100000

/-- How long the pieces are. -/
def szS (L : List ByteArray) : Nat := (L.map ByteArray.size).sum
theorem szS_ge : ∀ (L : List ByteArray), (∀ t ∈ L, 1 ≤ t.size) → L.length ≤ szS L
  | [], _ => Nat.le_refl _
  | t :: L, h => by
    have h1 := h t (by simp)
    have h2 := szS_ge L (fun u hu => h u (List.mem_cons_of_mem _ hu))
    unfold szS at h2 ⊢
    simp only [List.map_cons, List.sum_cons, List.length_cons]
    omega
theorem spS_sum (s : ByteArray) (b : UInt8) : ∀ i, i ≤ s.size → szS (spS s b i).1 + (spS s b i).1.length = (spS s b i).2
  | 0, _ => rfl
  | i + 1, h => by
    have ih := spS_sum s b i (by omega)
    have hle := (spS_le s b i).1
    unfold spS
    split
    · unfold szS at ih ⊢
      simp only [List.map_append, List.map_cons, List.map_nil, List.sum_append, List.sum_cons, List.sum_nil, List.length_append, List.length_cons, List.length_nil, ByteArray.size_extract]
      omega
    · exact ih
theorem spL_short (s : ByteArray) (b : UInt8) (h : ∀ t ∈ spL s b, 1 ≤ t.size) : 2 * (spL s b).length ≤ s.size + 2 := by
  have h1 := spS_sum s b s.size (Nat.le_refl _)
  have h2 := szS_ge (spS s b s.size).1 (fun t ht => h t (by unfold spL; exact List.mem_append_left _ ht))
  have h3 := (spS_le s b s.size).1
  unfold spL
  simp only [List.length_append, List.length_cons, List.length_nil]
  omega
theorem sPc_pos {t : ByteArray} (h : sPc t ≠ none) : 1 ≤ t.size := by
  have h1 := spL_len t 58
  unfold sPc at h
  split at h
  · rename_i e
    rw [e] at h1
    simp at h1
    omega
  · exact absurd rfl h
theorem mapO_mem {f : ByteArray → Option (ByteArray × Int)} {L : List ByteArray} {S : List (ByteArray × Int)} (h : mapO f L = some S) : ∀ t ∈ L, f t ≠ none := by
  intro t ht e
  obtain ⟨i, hi, et⟩ := List.getElem_of_mem ht
  rw [mapO_bad f L i t (by rw [List.getElem?_eq_getElem hi, et]) e] at h
  cases h
theorem sLo_short {s : ByteArray} {S : List (ByteArray × Int)} (h : sLo s = some S) : 2 * S.length ≤ s.size + 2 := by
  have h1 := mapO_len _ _ _ h
  rw [h1]
  exact spL_short s 44 (fun t ht => sPc_pos (mapO_mem h t ht))
theorem rdZ_bd (s : ByteArray) : -1 ≤ rdZ s ∧ rdZ s < 1000000 := by
  unfold rdZ
  cases h : rdB (nmL s) with
  | false => simp
  | true =>
    unfold rdB at h
    simp only [Bool.and_eq_true, decide_eq_true_eq, List.all_eq_true] at h
    have := dgV_lt (nmL s).length (nmL s) rfl h.2
    have h6 : 10 ^ (nmL s).length ≤ 10 ^ 6 := Nat.pow_le_pow_right (by omega) h.1.1.2
    have h7 : 10 ^ 6 = 1000000 := rfl
    simp only [if_true]
    omega
/-- What a reading of the pieces has: names no longer than the text, numbers of Go. -/
def OkV (n : Nat) (S : List (ByteArray × Int)) : Prop := ∀ p ∈ S, p.1.size ≤ n ∧ IsI64 p.2
theorem OkV.snoc {n : Nat} {S : List (ByteArray × Int)} {p : ByteArray × Int} (h : OkV n S) (h1 : p.1.size ≤ n) (h2 : IsI64 p.2) : OkV n (S ++ [p]) := by
  intro q hq
  rcases List.mem_append.1 hq with hq | hq
  · exact h q hq
  · simp at hq
    subst hq
    exact ⟨h1, h2⟩
/-- What ParseSchema hands back. -/
def PsPost (s : ByteArray) (w : World) (e : Ending) (w' : World) : Prop :=
  Below w.heap.size w w' ∧ ((∃ S g cap, prO s = some S ∧ e = .returned (.tuple #[.slice (some ⟨g, 0, none⟩) S.length cap, .bool true]) ∧ w'.ownsRow w.heap.size 114 2 (.slice (some ⟨g, 0, none⟩) S.length cap) S.length (vC S)) ∨
    (prO s = none ∧ e = .returned (.tuple #[.slice none 0 0, .bool false])))

end Go.Proofs.YtmbchahjgefbpabGreatDoor
