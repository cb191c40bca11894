/-
  A range over a function whose loop's body returns in its first round: the law that FirstPassing wants: the body is told what holds at the yield.
-/
import Derived.Test.YtgkaalonmkcclabEdO
import Derived.Test.YtgkaalonmkcclabEdA
namespace Go.Proofs.Ytgkaalonmkcclab
open Go.RowKit Go.Shelf
set_option maxRecDepth 100000

/-- What an iterator's contract promises to a body that returns at once: it calls yield at most once, where J still holds and R x holds of the value. -/
def OneYield {β : Type} (P : Program) (gf : Nat) (lb : Array Value) (val : β → Value) (R : β → World → Prop) (Non : Prop) (w : World) : Prop :=
  ∀ (l : Nat) (J : World → Prop) (Jx : β → World → Prop) (W : World), Below w.heap.size w W → (∀ A B : World, J A → A.grownBy B none → J B) →
    (∀ x W1, J W1 → R x W1 → YieldAt Fence.wide 3 P l #[val x] W1 fun e W' => e = .returned (.bool false) ∧ Jx x W') → J W →
    CallsIn Fence.wide 4 P gf (#[.func (.yield l) #[] #[]] ++ lb) W fun e W' => (∃ v, e = .returned v) ∧ ((Non ∧ J W') ∨ ∃ x, Jx x W')

theorem range_first {β : Type} {P : Program} {g : Operand} {ps : Array Tmp} {assign body : Code} {Q : Exit → Act → World → Prop} {a : Act} {w w0 : World} {gf : Nat} {lb : Array Value}
    (hg : a.eval g = .func (.func gf) #[] lb) (eg : ∀ args w, (callFunc gf args).run P w = .ok (.enter gf args) w) (hps : ps.size = 1)
    (val : β → Value) (R : β → World → Prop) (hR : OwnFrom w.heap.size R) (Non : Prop) (hit : OneYield P gf lb val R Non w0) (hb0 : Below w0.heap.size w0 w)
    (I : Unit → World → Prop) (hI : OwnFrom w.heap.size I) (h0 : I () w) (X : β → World → Prop) (hX : OwnFrom w.heap.size X) (a₁ : β → Act)
    (hassign : ∀ (l : Nat) (x : β) (W : World) (K : Act → World → Prop), K (a₁ x) W →
      assign.wpIn (Fence.wide.inRound l) 3 P (Exit.then K (fun _ _ _ => False)) { tmps := (ps.zip #[val x]).foldl (fun t (p, v) => t.setIfInBounds p v) a.tmps, defers := [] } W)
    (hbody : ∀ (l : Nat) (x : β) (W : World), I () W → R x W → body.wpIn (Fence.wide.inRound l) 3 P (fun e _ W' => e = .ret ∧ KeepsFrom w.heap.size W W' ∧ X x W') (a₁ x) W)
    (hdone : ∀ W : World, Non → I () W → W.heap[w.heap.size]? = some (.deferred (some [])) → Q .normal { a with defers := { target := .collected w.heap.size, args := #[] } :: a.defers } W)
    (hstop : ∀ (x : β) (W : World), X x W → W.heap[w.heap.size]? = some (.deferred (some [])) → Code.ret.wpIn Fence.wide 5 P Q { a with defers := { target := .collected w.heap.size, args := #[] } :: a.defers } W) :
    (Code.rangeFunc g ps assign body).wpIn Fence.wide 5 P Q a w := by
  refine wpIn_rangeFunc ?_
  intro fn hfn
  rw [show Fence.wide.round = none from rfl]
  let r : LoopState → Option Code → Loop := fun st pe => { state := st, pending := pe, fn := fn, tmps := a.tmps, params := ps, assign := assign, body := body, defers := w.heap.size }
  let W1 := (w.alloc (.deferred (some []))).alloc (.loop (r .ready none))
  have hsz : (w.alloc (.deferred (some []))).heap.size = w.heap.size + 1 := World.size_alloc _ _
  have hL : W1.heap[w.heap.size + 1]? = some (.loop (r .ready none)) := by rw [← hsz]; exact World.alloc_heap_new _ _
  have hD : W1.heap[w.heap.size]? = some (.deferred (some [])) := (Below.heap_alloc _ _ _ (by omega)).trans (World.alloc_heap_new w _)
  have hIW : I () W1 := hI.alloc _ (hI.alloc _ h0)
  have hbW : Below w0.heap.size w0 W1 := hb0.trans (((Below.refl _ w).alloc (Nat.le_refl _) _ |>.alloc (by omega) _).mono hb0.size)
  refine ⟨w.heap.size + 1, [{ target := .collected w.heap.size, args := #[] }], W1, { target := .fn (.func gf) lb, args := #[.func (.yield (w.heap.size + 1)) #[] #[]] }, W1, gf, #[.func (.yield (w.heap.size + 1)) #[] #[]] ++ lb, W1, run_enterLoop_outer _ _ _ _ _, ?_, fun _ _ => trivial, ?_, fun _ => by omega, ?_⟩
  · simp only [resolve, hg]
    simp [go_sem]
  · simp [invoke, go_sem, eg]
  refine (hit (w.heap.size + 1) (fun W => I () W ∧ W.heap[w.heap.size + 1]? = some (.loop (r .ready none)) ∧ W.heap[w.heap.size]? = some (.deferred (some [])))
    (fun x W => X x W ∧ W.heap[w.heap.size + 1]? = some (.loop (r .done (some .ret))) ∧ W.heap[w.heap.size]? = some (.deferred (some []))) W1 hbW ?_ ?_ ⟨hIW, hL, hD⟩).mono ?_
  · rintro A B ⟨i, l, d⟩ hgr
    exact ⟨hI () A B none i hgr (by intro k hk; cases hk), (hgr.block _ (Array.getElem?_eq_some_iff.1 l).1 (by intro h; cases h)).trans l, (hgr.block _ (Array.getElem?_eq_some_iff.1 d).1 (by intro h; cases h)).trans d⟩
  · rintro x W ⟨i, l, d⟩ hr
    refine ⟨fn, _, assign, body, run_yield (args := #[val x]) l (by show 1 = ps.size; omega), roundIn_of_wpIn hfn (hassign _ x W _ ?_)⟩
    have hlt := (Array.getElem?_eq_some_iff.1 l).1
    refine ⟨_, run_beginRound l rfl, ?_⟩
    have l2 : (W.putObj (w.heap.size + 1) (.loop (r .busy none))).heap[w.heap.size + 1]? = some (.loop (r .busy none)) := World.putObj_heap_same hlt
    have d2 : (W.putObj (w.heap.size + 1) (.loop (r .busy none))).heap[w.heap.size]? = some (.deferred (some [])) := (World.putObj_heap_other (by omega)).trans d
    refine wpIn_mono (hbody _ x _ (hI.putObj _ i (by omega) l rfl) (hR.putObj _ hr (by omega) l rfl)) ?_
    rintro e a3 W3 ⟨rfl, hk, hx⟩
    have l3 := hk.same _ _ (by omega) l2 rfl
    have d3 := hk.same _ _ (Nat.le_refl _) d2 rfl
    exact ⟨_, _, run_endRound (some .ret) l3, rfl, hX.putObj _ hx (by omega) l3 rfl, World.putObj_heap_same (Array.getElem?_eq_some_iff.1 l3).1, (World.putObj_heap_other (by omega)).trans d3⟩
  · rintro e W2 ⟨⟨v, rfl⟩, ⟨hn, i, l, d⟩ | ⟨x, hx, l, d⟩⟩
    · exact ⟨none, _, run_endLoop l (by intro h; cases h), hdone _ hn (hI.putObj _ i (by omega) l rfl) ((World.putObj_heap_other (by omega)).trans d)⟩
    · exact ⟨some .ret, _, run_endLoop l (by intro h; cases h), hstop x _ (hX.putObj _ hx (by omega) l rfl) ((World.putObj_heap_other (by omega)).trans d)⟩
end Go.Proofs.Ytgkaalonmkcclab
