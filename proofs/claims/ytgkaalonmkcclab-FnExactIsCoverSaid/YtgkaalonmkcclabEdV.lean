/-
  The walks of chapter 5: the levels in a set, how many lists of values fail an edit; involved variables; the program's and the model's.
-/
import Derived.Test.YtgkaalonmkcclabEdH
import Derived.Test.YtgkaalonmkcclabApp
namespace Go.Proofs.Ytgkaalonmkcclab
open Go.RowKit
set_option maxRecDepth 100000

/-- A list that a function hands back. -/
def RetL (L : List Int) (w : World) (e : Ending) (w' : World) : Prop := ∃ v, e = .returned v ∧ w'.ownsRow w.heap.size 3 1 v L.length (iC L) ∧ Below w.heap.size w w'
def RetLB (L : List Int) (b : Bool) (w : World) (e : Ending) (w' : World) : Prop := ∃ v, e = .returned (.tuple #[v, .bool b]) ∧ w'.ownsRow w.heap.size 3 1 v L.length (iC L) ∧ Below w.heap.size w w'
theorem iC_appE (A B : List Int) : iC (A ++ B) = iC A ++ iC B := by unfold iC; rw [List.map_append]
theorem rd_oneE (w : World) (t : TypeId) (n : Int) (g : Nat) (h : w.heap.size = g) : Rd (w.alloc (.cells #[.int .i64 n] t)) (some ⟨g, 0, none⟩) (iC [n]) := by
  subst h
  refine Or.inr ⟨w.heap.size, 0, rfl, by simp, fun j u hj => ?_⟩
  rw [Nat.zero_add, World.cell?_alloc_at _ _ _ _ rfl, ← hj, ← Array.getElem?_toList]
  rfl
theorem own_snocE {w : World} {base e k : Nat} {u : Value} {L M : List Int} {a : Int} (h : w.ownsRow base e 1 u (L.length + 1) (iC L ++ iC [a])) (hk : M = L ++ [a]) (hn : k = M.length) : w.ownsRow base e 1 u k (iC M) := by
  subst hk hn
  rw [iC_appE, List.length_append]
  exact h
theorem QB.restE {w1 w3 : World} {g : Nat} {y : Option Addr} {n c : Nat} {o : Obj} {r : Option Nat} (h : QB w1 g y n c) (hg : (w1.alloc o).grownBy w3 r) (hr : ∀ k, r = some k → g < k) : QB w3 g y n c :=
  (h.below ((Below.refl _ _).alloc (Nat.le_refl _) o)).grown hg (fun e => by have := hr g e.symm; omega)
theorem wrapU (i : Nat) (h : i ≤ 100) : IntKind.u64.wrap (i : Int) = i := by rw [show IntKind.u64.wrap (i : Int) = (i : Int) % 18446744073709551616 by simp [IntKind.wrap, IntKind.bits, IntKind.signed]]; omega
theorem div_pos8 {x : Int} {i : Nat} (h0 : 0 ≤ x) (h1 : x ≤ 255) (hi : i ≤ 8) : (0 < x / 2 ^ i → i < 8) ∧ (¬ 0 < x / 2 ^ i → x.toNat < 2 ^ i) := by
  obtain ⟨a, rfl⟩ := Int.eq_ofNat_of_zero_le h0
  have hp : 0 < 2 ^ i := Nat.two_pow_pos i
  constructor
  · intro h
    rcases Nat.lt_or_ge i 8 with h8 | h8
    · exact h8
    · obtain rfl : i = 8 := by omega
      omega
  · intro h
    rw [Int.toNat_natCast]
    rcases Nat.lt_or_ge a (2 ^ i) with h2 | h2
    · exact h2
    · exfalso
      apply h
      have h3 : 0 < a / 2 ^ i := Nat.div_pos h2 hp
      have h4 : (((a / 2 ^ i : Nat)) : Int) = (a : Int) / 2 ^ i := by push_cast; rfl
      omega
end Go.Proofs.Ytgkaalonmkcclab
