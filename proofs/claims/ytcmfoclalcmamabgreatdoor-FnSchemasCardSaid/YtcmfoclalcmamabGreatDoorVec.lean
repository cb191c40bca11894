/-
  The laws' helpers on lists of integers: the size, a copy, a comparison, marks and their test.
-/
import Derived.Test.YtcmfoclalcmamabGreatDoorRd
import Derived.Test.YtcmfoclalcmamabGreatDoorRows
import Derived.Outline
namespace Go.Proofs.YtcmfoclalcmamabGreatDoor
open Go.RowKit
set_option maxRecDepth 100000

theorem below_drewN {B : Nat} {a w : World} (h : Below B a w) (n : Nat) : Below B a (w.drewN n) := ⟨h.os, h.tape, h.output, h.size, h.block⟩
theorem Tryz.infoInt : (Tryz.prog.info? 3).map (fun i => (i.zero, i.size, i.bytes)) = some (some (.int .i64 0), 1, 8) := by kernel_rfl

/-- A cell of a row that the call owns. -/
theorem own_cell {w : World} {base e size g cap n : Nat} {xs : List Value} (h : w.ownsRow base e size (.slice (some ⟨g, 0, none⟩) n cap) n xs) {j : Nat} (hj : j < n * size) :
    ∃ u, xs[j]? = some u ∧ w.cell? ⟨g, j, none⟩ = some u := by
  have hl : j < xs.length := by rw [h.1]; exact hj
  exact ⟨xs[j], List.getElem?_eq_getElem hl, by rw [h.cellAt j hj]; exact List.getElem?_eq_getElem hl⟩
theorem own_lt {w : World} {base e size g cap n : Nat} {xs : List Value} (h : w.ownsRow base e size (.slice (some ⟨g, 0, none⟩) n cap) n xs) : base ≤ g ∧ g < w.heap.size := h.lt g rfl
theorem own_below {w w' : World} {base e size n : Nat} {v : Value} {xs : List Value} (h : w.ownsRow base e size v n xs) (hb : Below w.heap.size w w') : w'.ownsRow base e size v n xs :=
  h.kept (row := none) ⟨hb.os, hb.tape, hb.output, hb.size, fun k hk _ => hb.block k hk⟩ (by cases v.ownBlock <;> simp)
theorem own_more {w : World} {base base' e size n : Nat} {v : Value} {xs : List Value} (h : w.ownsRow base e size v n xs) (hb : base' ≤ base) : w.ownsRow base' e size v n xs := by
  obtain ⟨h1, h2⟩ := h
  refine ⟨h1, ?_⟩
  rcases h2 with h2 | ⟨g, cap, cur, a, b, r⟩
  · exact Or.inl h2
  · exact Or.inr ⟨g, cap, cur, a, by omega, r⟩

/-- What is left of a size. -/
def szZ (left : Int) (len : Nat) : Int := if left < len then -1 else left - len
/-- The marks that are laid into n cells, from k on. -/
def mkL (k : Int) (n : Nat) : List Int := (List.range n).map fun i : Nat => k + (i : Int)
theorem mkL_len (k : Int) (n : Nat) : (mkL k n).length = n := by unfold mkL; simp
theorem mkL_at (k : Int) {n i : Nat} (h : i < n) : (mkL k n)[i]? = some (k + i) := by unfold mkL; simp [h]

/-- Block g holds just these cells, and all of them may be written. -/
def Wb (w : World) (g : Nat) (t : TypeId) (cs : Array Value) : Prop := w.heap[g]? = some (.cells cs t (0, 0))
theorem Wb.inside {w : World} {g : Nat} {t : TypeId} {cs : Array Value} (h : Wb w g t cs) : g < w.heap.size := by
  rcases Nat.lt_or_ge g w.heap.size with k | k
  · exact k
  · unfold Wb at h
    rw [Array.getElem?_eq_none k] at h
    cases h
theorem Wb.read {w : World} {g : Nat} {t : TypeId} {cs : Array Value} (h : Wb w g t cs) (j : Nat) : w.cell? ⟨g, j, none⟩ = cs[j]? := by
  unfold Wb at h
  simp [World.cell?, h]
theorem Wb.free {w : World} {g : Nat} {t : TypeId} {cs : Array Value} (h : Wb w g t cs) (j : Nat) : w.frozen? ⟨g, j, none⟩ = false := by
  unfold Wb at h
  simp [World.frozen?, h]
theorem Wb.kept {w w' : World} {g : Nat} {t : TypeId} {cs : Array Value} (h : Wb w g t cs) (hb : Below w.heap.size w w') : Wb w' g t cs := (hb.block g h.inside).trans h
theorem Wb.put {w : World} {g : Nat} {t : TypeId} {cs : Array Value} (h : Wb w g t cs) (j : Nat) (u : Value) : Wb (w.setCell ⟨g, j, none⟩ u) g t (cs.setIfInBounds j u) := by
  unfold Wb at h ⊢
  simp [World.setCell, Array.getElem?_modify, h]
theorem Wb.new (w : World) (t : TypeId) (cs : Array Value) : Wb (w.alloc (.cells cs t)) w.heap.size t cs := heap_alloc_new w _
theorem iC_one (L : List Int) : ∀ u ∈ iC L, u.oneCell' = true := by
  intro u hu
  unfold iC at hu
  obtain ⟨n, _, rfl⟩ := List.mem_map.1 hu
  rfl
theorem vC_one : ∀ S : List (ByteArray × Int), ∀ u ∈ vC S, u.oneCell' = true
  | [], u, hu => by cases hu
  | p :: r, u, hu => by
    simp only [vC, List.mem_cons] at hu
    rcases hu with rfl | rfl | hu
    · rfl
    · rfl
    · exact vC_one r u hu
end Go.Proofs.YtcmfoclalcmamabGreatDoor
