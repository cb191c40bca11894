/-
  The walks of chapter 5: lists of edits; levels of a set; do values fail an edit; is an edit a part of another; the program's and the model's.
-/
import Derived.Test.YtgkaalonmkcclaaDoorEdF
import Derived.Test.YtgkaalonmkcclaaDoorEdS
namespace Go.Proofs.YtgkaalonmkcclaaDoor
open Go.RowKit
set_option maxRecDepth 100000

/-- A schema and a list of edits for it. -/
def elB (S : List (ByteArray × Int)) (M : List (List Int)) : Bool := schB S && (decide (M.length ≤ 40) && M.all (edB S))
theorem el_no1 {S : List (ByteArray × Int)} {M : List (List Int)} (h : schB S = false) : elB S M = false := by unfold elB; rw [h]; rfl
theorem el_no2 {S : List (ByteArray × Int)} {M : List (List Int)} (h : ¬ M.length ≤ 40) : elB S M = false := by unfold elB; rw [decide_eq_false h]; simp
theorem el_bad {S : List (ByteArray × Int)} {M : List (List Int)} {i : Nat} {E : List Int} (h : M[i]? = some E) (k : edB S E = false) : elB S M = false := by
  unfold elB
  have : M.all (edB S) = false := by rw [List.all_eq_false]; exact ⟨E, List.mem_of_getElem? h, by rw [k]; exact Bool.false_ne_true⟩
  rw [this]
  simp
theorem el_yes {S : List (ByteArray × Int)} {M : List (List Int)} (h : schB S = true) (h1 : M.length ≤ 40) (k : ∀ j, j < M.length → ∃ E, M[j]? = some E ∧ edB S E = true) : elB S M = true := by
  unfold elB
  rw [h, decide_eq_true h1, Bool.true_and, Bool.true_and, List.all_eq_true]
  intro E hE
  obtain ⟨j, hj, e⟩ := List.getElem_of_mem hE
  obtain ⟨F, h2, h3⟩ := k j hj
  rw [List.getElem?_eq_getElem hj, e] at h2
  cases h2
  exact h3
theorem el_get {S : List (ByteArray × Int)} {M : List (List Int)} (h : elB S M = true) : schB S = true ∧ M.length ≤ 40 ∧ ∀ E ∈ M, edB S E = true := by
  unfold elB at h
  simp only [Bool.and_eq_true, decide_eq_true_eq, List.all_eq_true] at h
  exact ⟨h.1, h.2.1, h.2.2⟩
theorem el_one (S : List (ByteArray × Int)) (E : List Int) : elB S [E] = seB S E := by unfold elB seB; simp
theorem el_two (S : List (ByteArray × Int)) (E F : List Int) : elB S [E, F] = (seB S E && edB S F) := by unfold elB seB; simp [Bool.and_assoc]

/-- One edit, two edits, laid into a list. -/
theorem eIn_one {w : World} {y : Option Addr} {c : Nat} {E : List Int} (t : TypeId) (hE : IIn w y E) : EIn (w.alloc (.cells #[.slice y E.length c] t)) (some ⟨w.heap.size, 0, none⟩) [⟨0, 0, y, c, E⟩] := by
  have hb : Below w.heap.size w (w.alloc (.cells #[.slice y E.length c] t)) := (Below.refl _ _).alloc (Nat.le_refl _) _
  refine ⟨by simp, fun q hq => ?_, Or.inr ⟨w.heap.size, 0, rfl, by simp, fun j u hj => ?_⟩⟩
  · rw [List.mem_singleton] at hq
    subst hq
    exact hE.below hb
  · rw [Nat.zero_add, World.cell?_alloc_at _ _ _ _ rfl, ← hj, ← Array.getElem?_toList]
    rfl
theorem eIn_two {w : World} {y z : Option Addr} {c d : Nat} {E F : List Int} (t : TypeId) (hE : IIn w y E) (hF : IIn w z F) : EIn (w.alloc (.cells #[.slice y E.length c, .slice z F.length d] t)) (some ⟨w.heap.size, 0, none⟩) [⟨0, 0, y, c, E⟩, ⟨0, 0, z, d, F⟩] := by
  have hb : Below w.heap.size w (w.alloc (.cells #[.slice y E.length c, .slice z F.length d] t)) := (Below.refl _ _).alloc (Nat.le_refl _) _
  refine ⟨by simp, fun q hq => ?_, Or.inr ⟨w.heap.size, 0, rfl, by simp, fun j u hj => ?_⟩⟩
  · rcases List.mem_cons.1 hq with rfl | hq
    · exact hE.below hb
    · rw [List.mem_singleton] at hq
      subst hq
      exact hF.below hb
  · rw [Nat.zero_add, World.cell?_alloc_at _ _ _ _ rfl, ← hj, ← Array.getElem?_toList]
    rfl

theorem hs_val {x l : Int} (h0 : 0 ≤ x) (h1 : x ≤ 255) (h2 : 0 ≤ l) (h3 : l ≤ 8) : bits .and .i64 x (wrap64 (2 ^ l.toNat)) = if hsB x l then 2 ^ l.toNat else 0 := by
  obtain ⟨k, rfl⟩ := Int.eq_ofNat_of_zero_le h2
  have hk : k ≤ 8 := by omega
  have hp : (2 : Int) ^ k ≤ 256 ∧ 0 < (2 : Int) ^ k := by
    have : k = 0 ∨ k = 1 ∨ k = 2 ∨ k = 3 ∨ k = 4 ∨ k = 5 ∨ k = 6 ∨ k = 7 ∨ k = 8 := by omega
    rcases this with rfl | rfl | rfl | rfl | rfl | rfl | rfl | rfl | rfl <;> decide
  rw [Int.toNat_natCast, IntWalk.wrap64_in _ (by omega), and_bit h0 (by omega) k (by omega)]
theorem hs_pos (l : Int) : (2 : Int) ^ l.toNat ≠ 0 := by
  have : (0 : Int) < 2 ^ l.toNat := Int.pow_pos (by decide)
  omega
set_option maxHeartbeats 1000000 in
theorem hasLevel_any (x l : Int) (w : World) (h0 : 0 ≤ x) (h1 : x ≤ 255) (h2 : 0 ≤ l) (h3 : l ≤ 8) :
    Calls Tryd.prog 85 #[.int .i64 x, .int .i64 l] w fun e w' => e = .returned (.bool (hsB x l)) ∧ w = w' := by
  have hv := hs_val h0 h1 h2 h3
  have hp := hs_pos l
  cases hh : hsB x l
  · rw [hh] at hv
    have hz : (bits .and .i64 x (wrap64 (2 ^ l.toNat)) == 0) = true := by rw [beq_iff_eq, hv]; rfl
    replace hv := Lib.hid hv
    go_enter Tryd.func85, Tryd.ntmps85
    go_wp2
    go_ret
    exact ⟨ret_bool (by simp [hz, bne]), rfl⟩
  · rw [hh] at hv
    have hz : (bits .and .i64 x (wrap64 (2 ^ l.toNat)) == 0) = false := by rw [beq_eq_false_iff_ne, hv]; exact hp
    replace hv := Lib.hid hv
    go_enter Tryd.func85, Tryd.ntmps85
    go_wp2
    go_ret
    exact ⟨ret_bool (by simp [hz, bne]), rfl⟩
end Go.Proofs.YtgkaalonmkcclaaDoor
