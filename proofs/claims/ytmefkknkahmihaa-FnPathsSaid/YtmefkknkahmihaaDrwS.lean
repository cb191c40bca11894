/-
  The model's draws of chapter 2: schemas, values, groupings; and the laws' own comparisons.
-/
import Derived.Test.YtmefkknkahmihaaCurB
import Derived.Test.YtmefkknkahmihaaSchM
import Derived.Test.YtmefkknkahmihaaSchO
import Derived.Test.YtmefkknkahmihaaStp
import Derived.Test.YtmefkknkahmihaaByS
import Derived.Deep.RegionLaw
import Derived.Outline
namespace Go.Proofs.Ytmefkknkahmihaa
open Go.RowKit
set_option maxRecDepth 100000

/-- A list of variables that is drawn. -/
def DrS (S : List (ByteArray × Int)) : Prop := S.length ≤ 7 ∧ ∀ p ∈ S, p.1.size ≤ 9 ∧ 1 ≤ p.2 ∧ p.2 ≤ 9
theorem DrS.nil : DrS [] := ⟨by simp, fun p hp => by cases hp⟩
theorem DrS.snoc {S : List (ByteArray × Int)} {p : ByteArray × Int} (h : DrS S) (hl : S.length ≤ 6) (hp : p.1.size ≤ 9 ∧ 1 ≤ p.2 ∧ p.2 ≤ 9) : DrS (S ++ [p]) := by
  refine ⟨by simp; omega, fun q hq => ?_⟩
  rcases List.mem_append.1 hq with hq | hq
  · exact h.2 q hq
  · simp at hq
    subst hq
    exact hp
theorem DrS.set {S : List (ByteArray × Int)} {p : ByteArray × Int} (h : DrS S) (k : Nat) (hp : p.1.size ≤ 9 ∧ 1 ≤ p.2 ∧ p.2 ≤ 9) : DrS (S.set k p) := by
  refine ⟨by simpa using h.1, fun q hq => ?_⟩
  rcases List.mem_or_eq_of_mem_set hq with hq | rfl
  · exact h.2 q hq
  · exact hp
theorem DrS.at {S : List (ByteArray × Int)} (h : DrS S) {i : Nat} {nm : ByteArray} {lv : Int} (hi : S[i]? = some (nm, lv)) : 1 ≤ lv ∧ lv ≤ 9 := (h.2 _ (List.mem_of_getElem? hi)).2
theorem DrS.cn {S : List (ByteArray × Int)} (h : DrS S) : ∀ i, i ≤ S.length → 1 ≤ cnZ (S.take i) ∧ cnZ (S.take i) ≤ 9 ^ i
  | 0, _ => ⟨Int.le_refl _, Int.le_refl _⟩
  | i + 1, hi => by
    obtain ⟨a, b⟩ := DrS.cn h i (by omega)
    have hl : i < S.length := hi
    have hat : S[i]? = some (S[i].1, S[i].2) := List.getElem?_eq_getElem hl
    obtain ⟨c, d⟩ := h.at hat
    rw [take_snoc hat, cnZ_snoc]
    have h1 : 1 ≤ cnZ (S.take i) * S[i].2 := by have := Int.mul_le_mul a c (by omega) (by omega); simpa using this
    have h2 : cnZ (S.take i) * S[i].2 ≤ 9 ^ i * 9 := Int.mul_le_mul b d (by omega) (Int.le_trans (by omega) b)
    rw [Int.pow_succ]
    exact ⟨h1, h2⟩
theorem DrS.cn_le {S : List (ByteArray × Int)} (h : DrS S) {i : Nat} (hi : i ≤ S.length) : 1 ≤ cnZ (S.take i) ∧ cnZ (S.take i) ≤ 4782969 := by
  obtain ⟨a, b⟩ := h.cn i hi
  refine ⟨a, Int.le_trans b ?_⟩
  have hl := h.1
  have : (9 : Int) ^ i ≤ 9 ^ 7 := by
    have := Nat.pow_le_pow_right (show 0 < 9 by omega) (show i ≤ 7 by omega)
    exact_mod_cast this
  exact Int.le_trans this (by decide)
theorem DrS.sin {S : List (ByteArray × Int)} (h : DrS S) : S.length ≤ 1048576 ∧ ∀ p ∈ S, p.1.size ≤ 9223372036854775807 ∧ IsI64 p.2 := by
  have hl := h.1
  refine ⟨by omega, fun p hp => ?_⟩
  obtain ⟨a, b, c⟩ := h.2 p hp
  exact ⟨by omega, by unfold IsI64; omega⟩
/-- Whoever writes new blocks alone leaves what was there as the cursor's writer does. -/
theorem grown_far {w w1 w2 : World} {b : Nat} {r : Option Nat} (h : w.grownBy w1 (some b)) (k : w1.grownBy w2 r) (hr : ∀ j, r = some j → w.heap.size ≤ j) : w.grownBy w2 (some b) :=
  ⟨k.os.trans h.os, k.tape.trans h.tape, k.output.trans h.output, Nat.le_trans h.size k.size, fun j hj hne => (k.block j (Nat.lt_of_lt_of_le hj h.size) (fun e => by have := hr j e.symm; omega)).trans (h.block j hj hne)⟩
theorem wb_grown {w w' : World} {g : Nat} {t : TypeId} {cs : Array Value} {r : Option Nat} (h : Wb w g t cs) (hg : w.grownBy w' r) (hne : ∀ j, r = some j → j ≠ g) : Wb w' g t cs :=
  (hg.block g h.inside (fun e => hne g e.symm rfl)).trans h
/-- The names that are drawn from. -/
def nmsA : Array Value := #[.string ⟨#[115, 101, 120]⟩, .string ⟨#[97, 103, 101]⟩, .string ⟨#[106, 111, 98]⟩, .string ⟨#[104, 111, 109, 101]⟩, .string ⟨#[115, 105, 122, 101]⟩, .string ⟨#[108, 97, 110, 103]⟩]
def nmD (i : Nat) : ByteArray := if i = 0 then ⟨#[115, 101, 120]⟩ else if i = 1 then ⟨#[97, 103, 101]⟩ else ⟨#[106, 111, 98]⟩
theorem nmD_at {i : Nat} (h : i < 3) : nmsA[i]? = some (.string (nmD i)) := by
  rcases (by omega : i = 0 ∨ i = 1 ∨ i = 2) with rfl | rfl | rfl <;> rfl
theorem nmD_len (i : Nat) : (nmD i).size ≤ 9 := by unfold nmD; split; · decide
                                                   · split <;> decide
theorem own_cur2 {w w' : World} {b base e size n : Nat} {v : Value} {xs : List Value} (h : w.ownsRow base e size v n xs) (hb : b < base) (hg : w.grownBy w' (some b)) : w'.ownsRow base e size v n xs := by
  refine h.kept hg ?_
  cases hv : v.ownBlock with
  | none => exact Or.inl rfl
  | some k => exact Or.inr (fun e => by injection e with e; have := (h.lt k hv).1; omega)
theorem ByRd.drewW {w : World} {x : Option Addr} {n : Nat} (h : ByRd w x n) : ByRd w.drew x n := h
theorem drew_back {w w' : World} {r : Option Nat} (h : w.drew.grownBy w' r) : w.grownBy w' r := ⟨h.os, h.tape, h.output, h.size, h.block⟩
end Go.Proofs.Ytmefkknkahmihaa
