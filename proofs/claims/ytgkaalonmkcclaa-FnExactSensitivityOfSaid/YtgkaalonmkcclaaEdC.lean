/-
  The walks of chapter 5: FirstPassing; the program's.
-/
import Derived.Test.YtgkaalonmkcclaaEdB
namespace Go.Proofs.Ytgkaalonmkcclaa
open Go.RowKit Go.Shelf
set_option maxRecDepth 100000
attribute [local go_sem] Oper.semAt_some

/-- What holds of a list of values (with its place) that is handed to the loop's body. -/
def PvR (S : List (ByteArray × Int)) (M : List (List Int)) (n₀ N : Nat) (x : Value × Nat) (W : World) : Prop :=
  (x.2 < N ∧ cpN S M x.2 = 0 ∧ faB M (atL S x.2) = false) ∧ W.ownsRow n₀ 3 1 x.1 (atL S x.2).length (iC (atL S x.2))
/-- The two result variables' boxes, as they are laid at the beginning. -/
def ResB (n : Nat) (v : Value) (b : Bool) (W : World) : Prop := Boxed W n 22 v ∧ Boxed W (n + 1) 4 (.bool b)
theorem resB_new (w : World) : ResB w.heap.size (.slice none 0 0) false ((w.alloc (.cells #[.slice none 0 0] 22)).alloc (.cells #[.bool false] 4)) := by
  refine ⟨(Boxed.new w 22 _).alloc _, ?_⟩
  have := Boxed.new (w.alloc (.cells #[.slice none 0 0] 22)) 4 (.bool false)
  rwa [World.size_alloc] at this
theorem ResB.below {n : Nat} {v : Value} {b : Bool} {w W : World} (h : ResB n v b w) (hb : Below w.heap.size w W) : ResB n v b W := ⟨(hb.block _ h.1.lt).trans h.1, (hb.block _ h.2.lt).trans h.2⟩
theorem ResB.set {n : Nat} {v v0 : Value} {b b0 : Bool} {W : World} (h : ResB n v0 b0 W) : ResB n v b ((W.setCell ⟨n, 0, none⟩ v).setCell ⟨n + 1, 0, none⟩ (.bool b)) :=
  ⟨(h.1.set v).other (by omega) _, (h.2.other (by omega) v).set (.bool b)⟩
theorem resB_to {n : Nat} {v : Value} {b : Bool} {w W : World} (hb : Below w.heap.size w W) (hn : w.heap.size ≤ n) : Below w.heap.size w ((W.setCell ⟨n, 0, none⟩ v).setCell ⟨n + 1, 0, none⟩ (.bool b)) :=
  (hb.setCell (p := ⟨n, 0, none⟩) hn v).setCell (p := ⟨n + 1, 0, none⟩) (by show w.heap.size ≤ n + 1; omega) _
theorem ResB.put {n l : Nat} {v : Value} {b : Bool} {W : World} {o : Obj} (h : ResB n v b W) (o' : Obj) (hl : W.heap[l]? = some o) (ho : o.isCells = false) : ResB n v b (W.putObj l o') := by
  have hne : ∀ k c t z, W.heap[k]? = some (.cells c t z) → k ≠ l := by
    rintro k c t z hk rfl
    rw [hk] at hl
    cases hl
    cases ho
  exact ⟨(World.putObj_heap_other (hne _ _ _ _ h.1)).trans h.1, (World.putObj_heap_other (hne _ _ _ _ h.2)).trans h.2⟩
theorem own_cells {X Y : World} {row : Option Nat} {n₀ e size n : Nat} {v : Value} {xs : List Value} (h : X.ownsRow n₀ e size v n xs) (hg : X.grownBy Y row) (hrow : ∀ r, row = some r → ∃ o : Obj, X.heap[r]? = some o ∧ o.isCells = false) : Y.ownsRow n₀ e size v n xs := by
  refine h.kept hg ?_
  rcases h.2 with ⟨rfl, _⟩ | ⟨g, cap, cur, rfl, _, hgb, _⟩
  · exact .inl rfl
  · refine .inr fun e' => ?_
    obtain ⟨o, ho, hc⟩ := hrow g (by simpa [Value.ownBlock] using e'.symm)
    rw [hgb] at ho
    cases ho
    cases hc
theorem pvR_own (S : List (ByteArray × Int)) (M : List (List Int)) (n₀ N : Nat) : Own (PvR S M n₀ N) := fun _ _ _ _ h hg hr => ⟨h.1, own_cells h.2 hg hr⟩
theorem resB_own {β : Type} (n : Nat) (f : β → Value) (b : Bool) : Own (fun s W => ResB n (f s) b W) := fun s A B row h hg hr =>
  ⟨boxed_own n 22 f s A B row h.1 hg hr, boxed_own (n + 1) 4 (fun _ => .bool b) s A B row h.2 hg hr⟩
theorem pvR_set {S : List (ByteArray × Int)} {M : List (List Int)} {n₀ N n : Nat} {x : Value × Nat} {W : World} {v v0 : Value} {b b0 : Bool} (h : PvR S M n₀ N x W) (r : ResB n v0 b0 W) : PvR S M n₀ N x ((W.setCell ⟨n, 0, none⟩ v).setCell ⟨n + 1, 0, none⟩ (.bool b)) := by
  have h1 := h.2.kept (grownBy_setCell' W n v) (.inr (Ne.symm (r.1.not_row (by decide) h.2)))
  have r2 := r.2.other (by omega) (B' := n) v
  exact ⟨h.1, h1.kept (grownBy_setCell' _ (n + 1) (.bool b)) (.inr (Ne.symm (r2.not_row (by decide) h1)))⟩
end Go.Proofs.Ytgkaalonmkcclaa
