/-
  The cursor of the draws: what keeps it, and what keeps the rows beside it.
-/
import Derived.Test.YtcmfoclalcmamabGreatDoorCur
namespace Go.Proofs.YtcmfoclalcmamabGreatDoor
open Go.RowKit
set_option maxRecDepth 100000

theorem below_drewN0 {B : Nat} {a w : World} (h : Below B a w) (n : Nat) : Below B a (w.drewN n) := ⟨h.os, h.tape, h.output, h.size, h.block⟩
theorem grown_of_below {w w' : World} (h : Below w.heap.size w w') (b : Nat) : w.grownBy w' (some b) := ⟨h.os, h.tape, h.output, h.size, fun j hj _ => h.block j hj⟩
theorem grown_alloc {w w' : World} {b : Nat} (h : w.grownBy w' (some b)) (o : Obj) : w.grownBy (w'.alloc o) (some b) :=
  grown_trans h (grown_of_below ((Below.refl _ _).alloc (Nat.le_refl _) o) b)
theorem grown_drewN {w w' : World} {b : Nat} (h : w.grownBy w' (some b)) (q : Nat) : w.grownBy (w'.drewN q) (some b) :=
  grown_trans h (grown_of_below (below_drewN0 (Below.refl _ _) q) b)
theorem grown_set {w w' : World} {b c : Nat} (h : w.grownBy w' (some b)) (hc : w.heap.size ≤ c) (o : Nat) (v : Value) : w.grownBy (w'.setCell ⟨c, o, none⟩ v) (some b) :=
  ⟨h.os, h.tape, h.output, Nat.le_trans h.size (by simp [World.setCell]), fun j hj hne => (Below.heap_setCell _ _ _ _ (by show j ≠ c; omega)).trans (h.block j hj hne)⟩
theorem CurAt.below {w w' : World} {b : Nat} {x : Option Addr} {n cap k : Nat} (h : CurAt w b x n cap k) (hb : Below w.heap.size w w') : CurAt w' b x n cap k := by
  obtain ⟨s, c0, c1, c2, f1, f2, hs, hne⟩ := h
  exact ⟨s, (hb.cell hs).trans c0, (hb.cell hs).trans c1, (hb.cell hs).trans c2, (hb.frozen hs).trans f1, (hb.frozen hs).trans f2, Nat.lt_of_lt_of_le hs hb.size, hne⟩
theorem CurAt.set {w : World} {b c : Nat} {x : Option Addr} {n cap k : Nat} (h : CurAt w b x n cap k) (hc : c ≠ b) (o : Nat) (v : Value) : CurAt (w.setCell ⟨c, o, none⟩ v) b x n cap k := by
  obtain ⟨s, c0, c1, c2, f1, f2, hs, hne⟩ := h
  refine ⟨s, ?_, ?_, ?_, ?_, ?_, ?_, hne⟩
  · rw [World.cell?_setCell_far _ _ _ _ hc, c0]
  · rw [World.cell?_setCell_far _ _ _ _ hc, c1]
  · rw [World.cell?_setCell_far _ _ _ _ hc, c2]
  · rw [World.frozen?_setCell, f1]
  · rw [World.frozen?_setCell, f2]
  · simpa [World.setCell] using hs
theorem CurAt.inside {w : World} {b : Nat} {x : Option Addr} {n cap k : Nat} (h : CurAt w b x n cap k) : b < w.heap.size := by
  obtain ⟨_, _, _, _, _, _, hs, _⟩ := h
  exact hs
theorem ByRd.below {w w' : World} {x : Option Addr} {n : Nat} (h : ByRd w x n) (hb : Below w.heap.size w w') : ByRd w' x n := by
  rcases h with h | ⟨c, off, e, hc, hr⟩
  · exact Or.inl h
  · refine Or.inr ⟨c, off, e, Nat.lt_of_lt_of_le hc hb.size, fun i hi => ?_⟩
    obtain ⟨v, v0, v1, hv⟩ := hr i hi
    exact ⟨v, v0, v1, (hb.cell hc).trans hv⟩
theorem IRd.lit (w : World) (L : List Int) (ty : Nat) : IRd (w.alloc (.cells (L.map (Value.int .i64)).toArray ty)) (some ⟨w.heap.size, 0, none⟩) L := by
  refine ⟨w.heap.size, 0, rfl, by simp, fun i v hi => ?_⟩
  rw [World.cell?_alloc_at _ _ _ _ rfl, Nat.zero_add, List.getElem?_toArray, List.getElem?_map, hi]
  rfl
theorem CurAt.alloc {w : World} {b : Nat} {x : Option Addr} {n cap k : Nat} (h : CurAt w b x n cap k) (o : Obj) : CurAt (w.alloc o) b x n cap k :=
  h.below ((Below.refl _ _).alloc (Nat.le_refl _) _)
theorem ByRd.alloc {w : World} {x : Option Addr} {n : Nat} (h : ByRd w x n) (o : Obj) : ByRd (w.alloc o) x n :=
  h.below ((Below.refl _ _).alloc (Nat.le_refl _) _)
theorem below_of_grown {w w1 w' : World} {b : Nat} (h : Below w.heap.size w w1) (hg : w1.grownBy w' (some b)) (hb : w.heap.size ≤ b) : Below w.heap.size w w' :=
  ⟨hg.os.trans h.os, hg.tape.trans h.tape, hg.output.trans h.output, Nat.le_trans h.size hg.size, fun j hj => (hg.block j (Nat.lt_of_lt_of_le hj h.size) (fun q => by injection q; omega)).trans (h.block j hj)⟩

theorem CurAt.of_block {w w' : World} {b : Nat} {x : Option Addr} {n cap k : Nat} (h : CurAt w b x n cap k) (e : w'.heap[b]? = w.heap[b]?) (hs : w.heap.size ≤ w'.heap.size) : CurAt w' b x n cap k := by
  obtain ⟨s, c0, c1, c2, f1, f2, hb, hne⟩ := h
  exact ⟨s, (World.cell?_of_block (a := ⟨b, 0, none⟩) e).trans c0, (World.cell?_of_block (a := ⟨b, 1, none⟩) e).trans c1, (World.cell?_of_block (a := ⟨b, 2, none⟩) e).trans c2, (World.frozen?_of_block (a := ⟨b, 1, none⟩) e).trans f1, (World.frozen?_of_block (a := ⟨b, 2, none⟩) e).trans f2, Nat.lt_of_lt_of_le hb hs, hne⟩
/-- The cursor is kept by whoever writes no block up to it. -/
theorem CurAt.far {w w' : World} {b : Nat} {x : Option Addr} {n cap k : Nat} {r : Option Nat} (h : CurAt w b x n cap k) (hg : w.grownBy w' r) (hr : ∀ j, r = some j → b < j) : CurAt w' b x n cap k :=
  h.of_block (hg.block b h.inside (fun e => by have := hr b e.symm; omega)) hg.size
/-- A row behind the cursor is kept by whoever writes the cursor alone. -/
theorem own_cur {w w' : World} {b e size n : Nat} {v : Value} {xs : List Value} (h : w.ownsRow (b + 1) e size v n xs) (hg : w.grownBy w' (some b)) : w'.ownsRow (b + 1) e size v n xs := by
  refine h.kept hg ?_
  cases hv : v.ownBlock with
  | none => exact Or.inl rfl
  | some k => exact Or.inr (fun e => by injection e with e; have := (h.lt k hv).1; omega)
def lenV : Value → Nat
  | .slice _ n _ => n
  | _ => 0
theorem own_lenV {w : World} {base e size n : Nat} {v : Value} {xs : List Value} (h : w.ownsRow base e size v n xs) : lenV v = n := by
  rcases h.2 with ⟨rfl, rfl⟩ | ⟨g, cap, cur, rfl, _⟩ <;> rfl
theorem own_form {w : World} {base e size n : Nat} {v : Value} {xs : List Value} (h : w.ownsRow base e size v n xs) : ∃ x c, v = .slice x n c ∧ n ≤ c ∧ (x = none → c = 0) := by
  rcases h.2 with ⟨rfl, rfl⟩ | ⟨g, cap, cur, rfl, _, _, hc, _⟩
  · exact ⟨none, 0, rfl, Nat.le_refl _, fun _ => rfl⟩
  · exact ⟨_, _, rfl, hc, fun h => by cases h⟩

end Go.Proofs.YtcmfoclalcmamabGreatDoor
