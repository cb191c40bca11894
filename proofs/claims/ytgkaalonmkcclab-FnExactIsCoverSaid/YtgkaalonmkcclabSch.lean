/-
  Plain mathematics of chapter 2: schemas as lists of names and numbers. No program's text.
-/
import Derived.Test.YtgkaalonmkcclabRd
import Derived.Maps.Views
import Derived.Maps.OwnSet
namespace Go.Proofs.Ytgkaalonmkcclab
open Go.RowKit

/-- A name's letters. -/
def nmL (s : ByteArray) : List UInt8 := s.data.toList
def chB (c : UInt8) : Bool := decide (97 ≤ (c.toNat : Int)) && decide ((c.toNat : Int) ≤ 122)
/-- Is it a name? Are they levels? Is it a variable? -/
def nmB (s : ByteArray) : Bool := decide (1 ≤ s.size) && decide (s.size ≤ 8) && (nmL s).all chB
def lvB (n : Int) : Bool := decide (2 ≤ n) && decide (n ≤ 8)
def vaB (p : ByteArray × Int) : Bool := nmB p.1 && lvB p.2
def ky (S : List (ByteArray × Int)) : List (List UInt8) := S.map fun p => nmL p.1
/-- No name twice. -/
def ndB (S : List (ByteArray × Int)) : Bool := decide (ky S).Nodup
def hasB (S : List (ByteArray × Int)) (l : List UInt8) : Bool := (ky S).contains l
/-- The first i variables are good. -/
def upB (S : List (ByteArray × Int)) : Bool := S.all vaB && ndB S
/-- Is it a schema? -/
def schB (S : List (ByteArray × Int)) : Bool := decide (1 ≤ S.length) && decide (S.length ≤ 6) && upB S

theorem lvB_iff (n : Int) : lvB n = true ↔ 2 ≤ n ∧ n ≤ 8 := by unfold lvB; simp
theorem schB_len {S : List (ByteArray × Int)} (h : schB S = true) : 1 ≤ S.length ∧ S.length ≤ 6 := by unfold schB at h; simp only [Bool.and_eq_true, decide_eq_true_eq] at h; exact h.1
theorem schB_up {S : List (ByteArray × Int)} (h : schB S = true) : upB S = true := by unfold schB at h; simp only [Bool.and_eq_true] at h; exact h.2
theorem schB_va {S : List (ByteArray × Int)} (h : schB S = true) {p : ByteArray × Int} (hp : p ∈ S) : vaB p = true := by
  have := schB_up h
  unfold upB at this
  simp only [Bool.and_eq_true, List.all_eq_true] at this
  exact this.1 p hp
theorem schB_lv {S : List (ByteArray × Int)} (h : schB S = true) {i : Nat} {nm : ByteArray} {lv : Int} (hp : S[i]? = some (nm, lv)) : 2 ≤ lv ∧ lv ≤ 8 := by
  have := schB_va h (List.mem_of_getElem? hp)
  unfold vaB at this
  simp only [Bool.and_eq_true] at this
  exact (lvB_iff lv).1 this.2
theorem schB_short {S : List (ByteArray × Int)} (h : S.length = 0) : schB S = false := by unfold schB; simp [h]
theorem schB_long {S : List (ByteArray × Int)} (h : 6 < S.length) : schB S = false := by unfold schB; rw [decide_eq_false (by omega : ¬ S.length ≤ 6)]; simp
theorem schB_of {S : List (ByteArray × Int)} (h1 : 1 ≤ S.length) (h2 : S.length ≤ 6) : schB S = upB S := by unfold schB; rw [decide_eq_true h1, decide_eq_true h2]; rfl
theorem upB_nil : upB [] = true := rfl
theorem hasB_iff (S : List (ByteArray × Int)) (l : List UInt8) : hasB S l = true ↔ l ∈ ky S := by unfold hasB; simp
theorem upB_iff (S : List (ByteArray × Int)) : upB S = true ↔ (∀ p ∈ S, vaB p = true) ∧ (ky S).Nodup := by
  unfold upB ndB; rw [Bool.and_eq_true, List.all_eq_true, decide_eq_true_eq]
theorem ky_app (S T : List (ByteArray × Int)) : ky (S ++ T) = ky S ++ ky T := by unfold ky; rw [List.map_append]
theorem upB_snoc (S : List (ByteArray × Int)) (p : ByteArray × Int) : upB (S ++ [p]) = (upB S && vaB p && !hasB S (nmL p.1)) := by
  rw [Bool.eq_iff_iff, Bool.and_eq_true, Bool.and_eq_true, upB_iff, upB_iff, ky_app, List.nodup_append, Bool.not_eq_true', ← Bool.not_eq_true, hasB_iff]
  constructor
  · rintro ⟨h1, h2, _, h3⟩
    exact ⟨⟨⟨fun q hq => h1 q (List.mem_append_left _ hq), h2⟩, h1 p (by simp)⟩, fun hm => h3 _ hm (nmL p.1) (by simp [ky]) rfl⟩
  · rintro ⟨⟨⟨h1, h2⟩, h3⟩, h4⟩
    refine ⟨fun q hq => ?_, h2, by simp [ky], fun a ha b hb => ?_⟩
    · rcases List.mem_append.1 hq with hq | hq
      · exact h1 q hq
      · simp at hq; subst hq; exact h3
    · simp [ky] at hb
      subst hb
      rintro rfl
      exact h4 ha
theorem upB_pre {S T : List (ByteArray × Int)} (h : upB (S ++ T) = true) : upB S = true := by
  unfold upB ndB ky at h ⊢
  simp only [List.all_append, List.map_append, Bool.and_eq_true, decide_eq_true_eq, List.nodup_append] at h ⊢
  exact ⟨h.1.1, h.2.1⟩
theorem upB_take_false {S : List (ByteArray × Int)} (k : Nat) (h : upB (S.take k) = false) : upB S = false := by
  cases hc : upB S with
  | false => rfl
  | true => rw [← List.take_append_drop k S] at hc; rw [upB_pre hc] at h; cases h
theorem take_snoc {α : Type} {S : List α} {i : Nat} {p : α} (h : S[i]? = some p) : S.take (i + 1) = S.take i ++ [p] := by
  obtain ⟨hi, e⟩ := List.getElem?_eq_some_iff.1 h
  rw [List.take_succ_eq_append_getElem hi, e]

theorem nmL_at (s : ByteArray) {k : Nat} (h : k < s.size) : (nmL s)[k]? = some s[k] := by
  unfold nmL
  have h' : k < s.data.toList.length := by simpa using h
  rw [List.getElem?_eq_getElem h']
  rfl
theorem nmL_len (s : ByteArray) : (nmL s).length = s.size := by unfold nmL; simp
theorem chB_iff (c : UInt8) : chB c = true ↔ 97 ≤ (c.toNat : Int) ∧ (c.toNat : Int) ≤ 122 := by unfold chB; simp
theorem nmB_bad {s : ByteArray} {k : Nat} (h : k < s.size) (hc : ¬ (97 ≤ ((s[k]).toNat : Int) ∧ ((s[k]).toNat : Int) ≤ 122)) : nmB s = false := by
  unfold nmB
  have : (nmL s).all chB = false := by
    rw [List.all_eq_false]
    exact ⟨s[k], List.mem_of_getElem? (nmL_at s h), by rw [chB_iff]; exact hc⟩
  rw [this, Bool.and_false]
theorem nmB_size {s : ByteArray} (h : ¬ (1 ≤ s.size ∧ s.size ≤ 8)) : nmB s = false := by
  unfold nmB
  have : (decide (1 ≤ s.size) && decide (s.size ≤ 8)) = false := by
    rw [Bool.and_eq_false_iff, decide_eq_false_iff_not, decide_eq_false_iff_not]
    omega
  rw [this]
  rfl
theorem nmB_all {s : ByteArray} (h : ∀ j, j < s.size → ∃ c, (nmL s)[j]? = some c ∧ chB c = true) : nmB s = inB s.size 1 8 := by
  have : (nmL s).all chB = true := by
    rw [List.all_eq_true]
    intro c hc
    obtain ⟨j, hj, e⟩ := List.getElem_of_mem hc
    obtain ⟨d, hd, hd2⟩ := h j (by rw [← nmL_len]; exact hj)
    rw [List.getElem?_eq_getElem hj, e] at hd
    cases hd
    exact hd2
  unfold nmB
  rw [this, Bool.and_true, Bool.eq_iff_iff, inB_iff]
  simp only [Bool.and_eq_true, decide_eq_true_eq]
  omega

/-- Where a name stands, or -1. -/
def fdZ (S : List (ByteArray × Int)) (l : List UInt8) : Int := match (ky S).findIdx? (· == l) with | some i => i | none => -1
theorem fdZ_hit {S : List (ByteArray × Int)} {i : Nat} {p : ByteArray × Int} (h : S[i]? = some p) (hn : hasB (S.take i) (nmL p.1) = false) : fdZ S (nmL p.1) = i := by
  unfold fdZ
  have : (ky S).findIdx? (· == nmL p.1) = some i := by
    rw [List.findIdx?_eq_some_iff_getElem]
    obtain ⟨hi, e⟩ := List.getElem?_eq_some_iff.1 h
    refine ⟨by unfold ky; simpa using hi, by unfold ky; simp [e], fun j hj => ?_⟩
    unfold hasB ky at hn
    simp only [List.contains_eq_mem, decide_eq_false_iff_not, List.mem_map, not_exists, not_and] at hn
    have hjl : j < S.length := by omega
    have := hn S[j] (by rw [List.mem_take_iff_getElem]; exact ⟨j, by omega, rfl⟩)
    unfold ky
    simpa using this
  rw [this]
theorem fdZ_miss {S : List (ByteArray × Int)} {l : List UInt8} (h : hasB S l = false) : fdZ S l = -1 := by
  unfold fdZ
  have : (ky S).findIdx? (· == l) = none := by
    rw [List.findIdx?_eq_none_iff]
    intro x hx
    unfold hasB at h
    simp only [List.contains_eq_mem, decide_eq_false_iff_not] at h
    simp only [beq_eq_false_iff_ne, ne_eq]
    intro e
    subst e
    exact h hx
  rw [this]
theorem fdZ_neg {S : List (ByteArray × Int)} {l : List UInt8} : (0 ≤ fdZ S l) ↔ hasB S l = true := by
  cases hh : hasB S l with
  | false => rw [fdZ_miss hh]; simp
  | true =>
    simp only [iff_true]
    unfold fdZ
    cases hf : (ky S).findIdx? (· == l) with
    | some i => simp
    | none =>
      rw [List.findIdx?_eq_none_iff] at hf
      unfold hasB at hh
      simp only [List.contains_eq_mem, decide_eq_true_eq] at hh
      have := hf l hh
      simp at this
theorem fdZ_bd (S : List (ByteArray × Int)) (l : List UInt8) : -1 ≤ fdZ S l ∧ fdZ S l < S.length := by
  unfold fdZ
  cases hf : (ky S).findIdx? (· == l) with
  | some i =>
    rw [List.findIdx?_eq_some_iff_getElem] at hf
    obtain ⟨hi, _⟩ := hf
    unfold ky at hi
    simp at hi
    simp only
    omega
  | none => simp only; omega
theorem hasB_snoc (S : List (ByteArray × Int)) (p : ByteArray × Int) (l : List UInt8) : hasB (S ++ [p]) l = (hasB S l || (nmL p.1 == l)) := by
  rw [Bool.eq_iff_iff, Bool.or_eq_true, hasB_iff, hasB_iff, ky_app, List.mem_append]
  unfold ky
  rw [List.map_cons, List.map_nil, List.mem_singleton, beq_iff_eq]
  exact ⟨fun h => h.imp id Eq.symm, fun h => h.imp id Eq.symm⟩
end Go.Proofs.Ytgkaalonmkcclab
