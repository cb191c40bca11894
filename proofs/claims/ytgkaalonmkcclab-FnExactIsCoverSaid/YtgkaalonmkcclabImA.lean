/-
  A range over a function whose iterator tells the loop's body what it hands over: rounds that go on and a round that returns: the law that chapter 6 wants.
-/
import Derived.Test.YtgkaalonmkcclabEdB
namespace Go.Proofs.Ytgkaalonmkcclab
open Go.RowKit Go.Shelf
set_option maxRecDepth 100000

/-- What an iterator promises: at each yield J holds of what has come and R of what is handed over; at the end all has come, or a round has said no. -/
def RowSeq {β : Type} (n : Nat) (P : Program) (gf : Nat) (lb : Array Value) (val : β → Value) (Kp : World → World → Prop) (R : List β → β → World → Prop) (S : List β → Prop) (w : World) : Prop :=
  ∀ (l : Nat) (J Jx : List β → World → Prop) (W : World), Below w.heap.size w W → OwnFrom W.heap.size J → OwnFrom W.heap.size Jx →
    (∀ pre x W1, J pre W1 → R pre x W1 → YieldAt Fence.wide (n - 1) P l #[val x] W1 fun e W' => KeepsFrom W.heap.size W1 W' ∧ ((e = .returned (.bool true) ∧ J (pre ++ [x]) W' ∧ Kp W1 W') ∨ (e = .returned (.bool false) ∧ Jx (pre ++ [x]) W'))) → J [] W →
    CallsIn Fence.wide n P gf (#[.func (.yield l) #[] #[]] ++ lb) W fun e W' => (∃ v, e = .returned v) ∧ ((∃ ys, S ys ∧ J ys W') ∨ ∃ pre, Jx pre W')

/-- How a round ends: it goes on, or it returns. -/
def RowPost {β : Type} (B : Nat) (Kp : World → World → Prop) (I Ix : List β → World → Prop) (s : List β) (W : World) (e : Exit) (_ : Act) (W' : World) : Prop :=
  match e with
  | .normal => KeepsFrom B W W' ∧ Kp W W' ∧ I s W'
  | .ret => KeepsFrom B W W' ∧ Ix s W'
  | _ => False

theorem rowPost_on {β : Type} {B : Nat} {Kp : World → World → Prop} {I Ix : List β → World → Prop} {s : List β} {W W' : World} {a : Act} (h1 : KeepsFrom B W W') (h2 : Kp W W') (h3 : I s W') : RowPost B Kp I Ix s W .normal a W' := ⟨h1, h2, h3⟩
theorem rowPost_ret {β : Type} {B : Nat} {Kp : World → World → Prop} {I Ix : List β → World → Prop} {s : List β} {W W' : World} {a : Act} (h1 : KeepsFrom B W W') (h2 : Ix s W') : RowPost B Kp I Ix s W .ret a W' := ⟨h1, h2⟩
theorem keeps_mono {B B' : Nat} {W W' : World} (h : KeepsFrom B W W') (hb : B ≤ B') : KeepsFrom B' W W' := ⟨h.size, fun k o hk h0 hc => h.same k o (Nat.le_trans hb hk) h0 hc⟩
theorem keeps_put {B l : Nat} (W : World) (o : Obj) (hl : l < B) : KeepsFrom B W (W.putObj l o) := KeepsFrom.of_grownBy (grownBy_putObj' W l o) (fun j e => by cases e; exact hl)
theorem range_rows {β : Type} {n : Nat} {P : Program} {g : Operand} {ps : Array Tmp} {assign body : Code} {Q : Exit → Act → World → Prop} {a : Act} {w w0 : World} {gf : Nat} {lb : Array Value} (h1 : 1 ≤ n)
    (hg : a.eval g = .func (.func gf) #[] lb) (eg : ∀ args w, (callFunc gf args).run P w = .ok (.enter gf args) w) (hps : ps.size = 1)
    (val : β → Value) (Kp : World → World → Prop) (R : List β → β → World → Prop) (S : List β → Prop) (hit : RowSeq (n - 1) P gf lb val Kp R S w0) (hb0 : Below w0.heap.size w0 w)
    (hKt : ∀ A B C : World, Kp A B → Kp B C → Kp A C) (hKb : (∃ A B, Kp A B) → ∀ (W : World) (l : Nat) (o o' : Obj), w.heap.size ≤ l → W.heap[l]? = some o → o.isCells = false → o.isWalk = false → Kp W (W.putObj l o'))
    (I Ix : List β → World → Prop) (hI : OwnFrom w.heap.size I) (hIx : OwnFrom w.heap.size Ix) (h0 : I [] w) (Ax : List β → β → Act → World → Prop) (hAx : ∀ pre x a', OwnFrom w.heap.size (fun (_ : Unit) W => Ax pre x a' W))
    (hassign : ∀ (l : Nat) (pre : List β) (x : β) (W : World) (K : Act → World → Prop), I pre W → R pre x W → (∀ a' W', KeepsFrom w.heap.size W W' → ((∃ A B, Kp A B) → Kp W W') → I pre W' → Ax pre x a' W' → K a' W') →
      assign.wpIn (Fence.wide.inRound l) (n - 1 - 1) P (Exit.then K (fun _ _ _ => False)) { tmps := (ps.zip #[val x]).foldl (fun t (p, v) => t.setIfInBounds p v) a.tmps, defers := [] } W)
    (hbody : ∀ (l : Nat) (pre : List β) (x : β) (a' : Act) (W : World), w.heap.size ≤ l → (∃ r, W.heap[l]? = some (.loop r)) → I pre W → Ax pre x a' W → body.wpIn (Fence.wide.inRound l) (n - 1 - 1) P (RowPost w.heap.size Kp I Ix (pre ++ [x]) W) a' W)
    (hdone : ∀ (ys : List β) (W : World), S ys → I ys W → W.heap[w.heap.size]? = some (.deferred (some [])) → Q .normal { a with defers := { target := .collected w.heap.size, args := #[] } :: a.defers } W)
    (hstop : ∀ (pre : List β) (W : World), Ix pre W → W.heap[w.heap.size]? = some (.deferred (some [])) → Code.ret.wpIn Fence.wide n P Q { a with defers := { target := .collected w.heap.size, args := #[] } :: a.defers } W) :
    (Code.rangeFunc g ps assign body).wpIn Fence.wide n P Q a w := by
  refine wpIn_rangeFunc ?_
  intro fn hfn
  rw [show Fence.wide.round = none from rfl]
  let r : LoopState → Option Code → Loop := fun st pe => { state := st, pending := pe, fn := fn, tmps := a.tmps, params := ps, assign := assign, body := body, defers := w.heap.size }
  let W1 := (w.alloc (.deferred (some []))).alloc (.loop (r .ready none))
  have hsz : (w.alloc (.deferred (some []))).heap.size = w.heap.size + 1 := World.size_alloc _ _
  have hL : W1.heap[w.heap.size + 1]? = some (.loop (r .ready none)) := by rw [← hsz]; exact World.alloc_heap_new _ _
  have hD : W1.heap[w.heap.size]? = some (.deferred (some [])) := (Below.heap_alloc _ _ _ (by omega)).trans (World.alloc_heap_new w _)
  have hs1 : W1.heap.size = w.heap.size + 2 := by show ((w.alloc _).alloc _).heap.size = _; rw [World.size_alloc, World.size_alloc]
  have hIW : I [] W1 := hI.alloc _ (hI.alloc _ h0)
  have hbW : Below w0.heap.size w0 W1 := hb0.trans (((Below.refl _ w).alloc (Nat.le_refl _) _ |>.alloc (by omega) _).mono hb0.size)
  refine ⟨w.heap.size + 1, [{ target := .collected w.heap.size, args := #[] }], W1, { target := .fn (.func gf) lb, args := #[.func (.yield (w.heap.size + 1)) #[] #[]] }, W1, gf, #[.func (.yield (w.heap.size + 1)) #[] #[]] ++ lb, W1, run_enterLoop_outer _ _ _ _ _, ?_, fun _ _ => trivial, ?_, fun _ => h1, ?_⟩
  · simp only [resolve, hg]
    simp [go_sem]
  · simp [invoke, go_sem, eg]
  refine (hit (w.heap.size + 1) (fun pre W => I pre W ∧ W.heap[w.heap.size + 1]? = some (.loop (r .ready none)) ∧ W.heap[w.heap.size]? = some (.deferred (some [])))
    (fun pre W => Ix pre W ∧ W.heap[w.heap.size + 1]? = some (.loop (r .done (some .ret))) ∧ W.heap[w.heap.size]? = some (.deferred (some []))) W1 hbW ?_ ?_ ?_ ⟨hIW, hL, hD⟩).mono ?_
  · rintro pre A B row ⟨i, l, d⟩ hgr hrow
    exact ⟨hI pre A B row i hgr (fun k hk => ⟨by have := (hrow k hk).1; omega, (hrow k hk).2⟩), (hgr.block _ (Array.getElem?_eq_some_iff.1 l).1 (fun h => by have := (hrow _ h.symm).1; omega)).trans l, (hgr.block _ (Array.getElem?_eq_some_iff.1 d).1 (fun h => by have := (hrow _ h.symm).1; omega)).trans d⟩
  · rintro pre A B row ⟨i, l, d⟩ hgr hrow
    exact ⟨hIx pre A B row i hgr (fun k hk => ⟨by have := (hrow k hk).1; omega, (hrow k hk).2⟩), (hgr.block _ (Array.getElem?_eq_some_iff.1 l).1 (fun h => by have := (hrow _ h.symm).1; omega)).trans l, (hgr.block _ (Array.getElem?_eq_some_iff.1 d).1 (fun h => by have := (hrow _ h.symm).1; omega)).trans d⟩
  · rintro pre x W ⟨i, l, d⟩ hr
    refine ⟨fn, _, assign, body, run_yield (args := #[val x]) l (by show 1 = ps.size; omega), roundIn_of_wpIn hfn (hassign _ pre x W _ i hr ?_)⟩
    rintro a' Wa ka kpa ia ax
    replace l := ka.same _ _ (by omega) l rfl
    replace d := ka.same _ _ (Nat.le_refl _) d rfl
    have hlt := (Array.getElem?_eq_some_iff.1 l).1
    refine ⟨_, run_beginRound l rfl, ?_⟩
    have l2 : (Wa.putObj (w.heap.size + 1) (.loop (r .busy none))).heap[w.heap.size + 1]? = some (.loop (r .busy none)) := World.putObj_heap_same hlt
    have d2 : (Wa.putObj (w.heap.size + 1) (.loop (r .busy none))).heap[w.heap.size]? = some (.deferred (some [])) := (World.putObj_heap_other (by omega)).trans d
    refine wpIn_mono (hbody _ pre x a' _ (by omega) ⟨_, l2⟩ (hI.putObj _ ia (by omega) l rfl) ((hAx pre x a').putObj (s := ()) _ ax (by omega) l rfl)) ?_
    rintro e a3 W3 hp
    cases e with
    | normal =>
      obtain ⟨hk, hkp, hi⟩ := hp
      have l3 := hk.same _ _ (by omega) l2 rfl
      have d3 := hk.same _ _ (Nat.le_refl _) d2 rfl
      have hex : ∃ A B, Kp A B := ⟨_, _, hkp⟩
      have kp2 : Kp Wa (Wa.putObj (w.heap.size + 1) (.loop (r .busy none))) := hKb hex _ _ _ _ (by omega) l rfl rfl
      exact ⟨_, _, run_endRound none l3, (keeps_mono ka (by omega)).trans ((keeps_put _ _ (by omega)).trans ((keeps_mono hk (by omega)).trans (keeps_put _ _ (by omega)))), .inl ⟨rfl, ⟨hI.putObj _ hi (by omega) l3 rfl, World.putObj_heap_same (Array.getElem?_eq_some_iff.1 l3).1, (World.putObj_heap_other (by omega)).trans d3⟩, hKt _ _ _ (kpa hex) (hKt _ _ _ (hKt _ _ _ kp2 hkp) (hKb hex _ _ _ _ (by omega) l3 rfl rfl))⟩⟩
    | ret =>
      obtain ⟨hk, hx⟩ := hp
      have l3 := hk.same _ _ (by omega) l2 rfl
      have d3 := hk.same _ _ (Nat.le_refl _) d2 rfl
      exact ⟨_, _, run_endRound (some .ret) l3, (keeps_mono ka (by omega)).trans ((keeps_put _ _ (by omega)).trans ((keeps_mono hk (by omega)).trans (keeps_put _ _ (by omega)))), .inr ⟨rfl, hIx.putObj _ hx (by omega) l3 rfl, World.putObj_heap_same (Array.getElem?_eq_some_iff.1 l3).1, (World.putObj_heap_other (by omega)).trans d3⟩⟩
    | exit id => exact hp.elim
    | goto t => exact hp.elim
    | panic ch => exact hp.elim
    | outgrown => exact hp.elim
  · rintro e W2 ⟨⟨v, rfl⟩, ⟨ys, hs, i, l, d⟩ | ⟨pre, hx, l, d⟩⟩
    · exact ⟨none, _, run_endLoop l (by intro h; cases h), hdone ys _ hs (hI.putObj _ i (by omega) l rfl) ((World.putObj_heap_other (by omega)).trans d)⟩
    · exact ⟨some .ret, _, run_endLoop l (by intro h; cases h), hstop pre _ (hIx.putObj _ hx (by omega) l rfl) ((World.putObj_heap_other (by omega)).trans d)⟩
end Go.Proofs.Ytgkaalonmkcclab
