import Derived.Test.YtmcibcechffppaaMxM
import Derived.Test.YtmcibcechffppaaImU
import Derived.Test.YtmcibcechffppaaImA
namespace Go.Proofs.Ytmcibcechffppaa
open Go.RowKit Go.Shelf
set_option maxRecDepth 100000

theorem own_same {w w' : World} {base e s n : Nat} {v : Value} {xs : List Value} (h : w.ownsRow base e s v n xs) (hk : ∀ (g : Nat) (cur : Array Value) (fz : Nat × Nat), w.heap[g]? = some (Obj.cells cur e fz) → w'.heap[g]? = w.heap[g]?) : w'.ownsRow base e s v n xs := by
  refine ⟨h.1, ?_⟩
  rcases h.2 with hn | ⟨g, cap, cur, rfl, hb, hgg, rest⟩
  · exact .inl hn
  · exact .inr ⟨g, cap, cur, rfl, hb, (hk g cur _ hgg).trans hgg, rest⟩
theorem own_typ {w : World} {base e s n : Nat} {v : Value} {xs : List Value} (h : w.ownsRow base e s v n xs) : ∀ k, v.ownBlock = some k → ∃ (cs : Array Value) (fz : Nat × Nat), w.heap[k]? = some (Obj.cells cs e fz) := by
  intro k hk
  rcases h.2 with ⟨rfl, _⟩ | ⟨g, cap, cur, rfl, _, hgg, _⟩
  · cases hk
  · injection hk with hk
    subst hk
    exact ⟨cur, _, hgg⟩
/-- Blocks of cells of other types than two stay. -/
def KxT (a b : Nat) (w w' : World) : Prop := w.heap.size ≤ w'.heap.size ∧ ∀ (g : Nat) (cur : Array Value) (e : Nat) (fz : Nat × Nat), w.heap[g]? = some (Obj.cells cur e fz) → e ≠ a → e ≠ b → w'.heap[g]? = w.heap[g]?
theorem KxT.refl (a b : Nat) (w : World) : KxT a b w w := ⟨Nat.le_refl _, fun _ _ _ _ _ _ _ => rfl⟩
theorem KxT.trans {a b : Nat} {w1 w2 w3 : World} (h : KxT a b w1 w2) (k : KxT a b w2 w3) : KxT a b w1 w3 := ⟨Nat.le_trans h.1 k.1, fun g cur e fz hg ha hb => by
  have e1 := h.2 g cur e fz hg ha hb
  exact (k.2 g cur e fz (e1.trans hg) ha hb).trans e1⟩
theorem KxT.of_below {a b : Nat} {w w' : World} (h : Below w.heap.size w w') : KxT a b w w' := ⟨h.size, fun g _ _ _ hg _ _ => h.block g (Array.getElem?_eq_some_iff.1 hg).1⟩
theorem KxT.of_set {a b : Nat} {w : World} {p : Addr} {cs : Array Value} {fz : Nat × Nat} (h : w.heap[p.block]? = some (Obj.cells cs a fz)) (u : Value) : KxT a b w (w.setCell p u) := ⟨by simp, fun g cur e fz2 hg ha _ => Below.heap_setCell _ _ _ _ (by rintro rfl; rw [h] at hg; cases hg; exact ha rfl)⟩
theorem KxT.of_grown {a b : Nat} {w w' : World} {r : Option Nat} (h : w.grownBy w' r) (hr : ∀ k, r = some k → ∃ (cs : Array Value) (fz : Nat × Nat), w.heap[k]? = some (Obj.cells cs b fz)) : KxT a b w w' := ⟨h.size, fun g cur e fz hg _ hb => h.block g (Array.getElem?_eq_some_iff.1 hg).1 (fun he => by
  obtain ⟨cs, fz2, hk⟩ := hr g he.symm
  rw [hk] at hg
  cases hg
  exact hb rfl)⟩
theorem KxT.own {a b : Nat} {w w' : World} {base e s n : Nat} {v : Value} {xs : List Value} (k : KxT a b w w') (h : w.ownsRow base e s v n xs) (ha : e ≠ a) (hb : e ≠ b) : w'.ownsRow base e s v n xs := own_same h fun g cur fz hg => k.2 g cur e fz hg ha hb

/-- A list of edits that a call owns: its row, the rows of its edits, no block twice. -/
def OwL (w : World) (lo : Nat) (v : Value) (T : List PR) : Prop :=
  w.ownsRow lo 62 1 v T.length (eC T) ∧ (∀ q ∈ T, w.ownsRow lo 3 1 q.v q.L.length (iC q.L)) ∧ (T.filterMap fun q => q.v.ownBlock).Nodup
theorem OwL.nil (w : World) (lo : Nat) : OwL w lo (.slice none 0 0) [] := ⟨World.ownsRow_nil _ _ _ _, (fun q h => by cases h), List.nodup_nil⟩
theorem OwL.below {w w' : World} {lo : Nat} {v : Value} {T : List PR} (h : OwL w lo v T) (hb : Below w.heap.size w w') : OwL w' lo v T := ⟨own_below h.1 hb, fun q hq => own_below (h.2.1 q hq) hb, h.2.2⟩
theorem OwL.more {w : World} {lo lo' : Nat} {v : Value} {T : List PR} (h : OwL w lo v T) (hl : lo' ≤ lo) : OwL w lo' v T := ⟨own_more h.1 hl, fun q hq => own_more (h.2.1 q hq) hl, h.2.2⟩
theorem OwL.lt {w : World} {lo : Nat} {v : Value} {T : List PR} (h : OwL w lo v T) : ∀ p ∈ T, ∀ k, p.v.ownBlock = some k → k < w.heap.size := fun p hp k hk => ((h.2.1 p hp).lt k hk).2
theorem OwL.set {w : World} {lo a : Nat} {v : Value} {T : List PR} {p : Addr} {cs : Array Value} {fz : Nat × Nat} (h : OwL w lo v T) (hp : w.heap[p.block]? = some (Obj.cells cs a fz)) (ha : 62 ≠ a) (ha2 : 3 ≠ a) (u : Value) : OwL (w.setCell p u) lo v T := by
  have k : ∀ e : Nat, e ≠ a → ∀ (g : Nat) (cur : Array Value) (fz2 : Nat × Nat), w.heap[g]? = some (Obj.cells cur e fz2) → (w.setCell p u).heap[g]? = w.heap[g]? := fun e he g cur fz2 hg => Below.heap_setCell _ _ _ _ (by rintro rfl; rw [hp] at hg; cases hg; exact he rfl)
  exact ⟨own_same h.1 (k _ ha), fun q hq => own_same (h.2.1 q hq) (k _ ha2), h.2.2⟩
theorem OwL.snoc {w1 w2 : World} {lo nq : Nat} {v v' : Value} {T : List PR} {q : PR} {o : Obj} (h : OwL w1 lo v T) (hg : (w1.alloc o).grownBy w2 v.ownBlock) (hrow : w2.ownsRow lo 62 1 v' (T.length + 1) (eC T ++ eC [q])) (hq : w1.ownsRow nq 3 1 q.v q.L.length (iC q.L)) (hlo : lo ≤ nq) (hfr : ∀ p ∈ T, ∀ k, p.v.ownBlock = some k → k < nq) : OwL w2 lo v' (T ++ [q]) := by
  refine ⟨own_eq hrow (by simp) (by unfold eC; rw [List.map_append]), fun p hp => ?_, ?_⟩
  · rcases List.mem_append.1 hp with h1 | h1
    · exact ((h.2.1 p h1).alloc o).kept hg (rows_apart (h.2.1 p h1) h.1 (by decide))
    · obtain rfl := List.mem_singleton.1 h1
      exact own_more ((hq.alloc o).kept hg (rows_apart hq h.1 (by decide))) hlo
  · rw [List.filterMap_append, List.nodup_append]
    refine ⟨h.2.2, ?_, ?_⟩
    · cases e : q.v.ownBlock with
      | none => simp [List.filterMap, e]
      | some k => simp [List.filterMap, e]
    · intro a ha b hb
      obtain ⟨p, hp, ep⟩ := List.mem_filterMap.1 ha
      obtain ⟨r, hr, er⟩ := List.mem_filterMap.1 hb
      obtain rfl := List.mem_singleton.1 hr
      have h1 := hfr p hp a ep
      have h2 := (hq.lt b er).1
      omega
theorem OwL.owE {w : World} {lo : Nat} {v : Value} {T : List PR} (h : OwL w lo v T) : OwE w lo w.heap.size 62 3 v T := ⟨OwR.of h.1, ⟨fun q hq => OwR.of (h.2.1 q hq), h.2.2⟩, fun q hq k hk e => by
  rcases rows_apart (h.2.1 q hq) h.1 (by decide) with h0 | h0
  · rw [h0] at e; cases e
  · exact h0 (e.trans hk.symm)⟩
/-- A list of edits and a Bool, handed back. -/
def eE (b : Bool) (L : List (List Int)) : List (List Int) := if b then L else []
theorem eE_yes {b : Bool} (L : List (List Int)) (h : b = true) : eE b L = L := by rw [h]; rfl
theorem eE_no {b : Bool} (L : List (List Int)) (h : b = false) : eE b L = [] := by rw [h]; rfl
def RetEL (L : List (List Int)) (b : Bool) (w : World) (e : Ending) (w' : World) : Prop := ∃ v T, e = .returned (.tuple #[v, .bool b]) ∧ eM T = L ∧ OwL w' w.heap.size v T ∧ Below w.heap.size w w'
theorem retEL_no {L : List (List Int)} {b : Bool} {w w' : World} (hb : b = false) (h : Below w.heap.size w w') : RetEL (eE b L) b w (.returned (.tuple #[.slice none 0 0, .bool false])) w' := ⟨_, [], by rw [hb], (eE_no L hb).symm, OwL.nil _ _, h⟩
theorem retEL_yes {L : List (List Int)} {b : Bool} {w w' : World} {v : Value} {T : List PR} (hb : b = true) (hT : eM T = L) (ho : OwL w' w.heap.size v T) (h : Below w.heap.size w w') : RetEL (eE b L) b w (.returned (.tuple #[v, .bool true])) w' := ⟨v, T, by rw [hb], by rw [eE_yes L hb]; exact hT, ho, h⟩
/-- A schema's cells, read at a known place. -/
theorem sin_box {w : World} {x : Option Addr} {c : Nat} {S : List (ByteArray × Int)} (h : SIn w x c S) (hs : schB S = true) : ∃ b off, x = some ⟨b, off, none⟩ ∧ b < w.heap.size ∧ ∀ j, j < S.length → w.cell? ⟨b, off + j * 2, none⟩ = some (.string (nmA S j)) ∧ w.cell? ⟨b, off + j * 2 + 1, none⟩ = some (.int .i64 (lvA S j)) := by
  have hsl := schB_len hs
  obtain ⟨b, off, _, _, hx, hb, _, _, _⟩ := h.rd.var (i := 0) (by omega)
  refine ⟨b, off, hx, hb, fun j hj => ?_⟩
  obtain ⟨b', off', nm, lv, hx', _, hSj, c0, c1⟩ := h.rd.var (i := j) hj
  rw [hx] at hx'
  injection hx' with hx'
  injection hx' with e1 e2
  subst e1 e2
  have := at_nm hj
  rw [hSj] at this
  injection this with this
  injection this with e3 e4
  rw [← e3, ← e4]
  exact ⟨c0, c1⟩
end Go.Proofs.Ytmcibcechffppaa

namespace Go.Proofs.Ytmcibcechffppaa
open Go.RowKit Go.Shelf
set_option maxRecDepth 100000

/-- What such an iterator promises: its own blocks end at hi; at each yield J holds of what has come and R of what is handed over; between yields it writes its own blocks alone. -/
def GapSeq {β : Type} (n : Nat) (P : Program) (gf : Nat) (lb : Array Value) (val : β → Value) (Kp : Nat → World → World → Prop) (R : Nat → List β → β → World → Prop) (S : List β → Prop) (w : World) : Prop :=
  ∀ (l : Nat) (J Jx : Nat → List β → World → Prop) (W : World), Below w.heap.size w W → (∀ hi, OwnFrom W.heap.size (J hi)) → (∀ hi, OwnFrom W.heap.size (Jx hi)) →
    (∀ hi pre A B g, J hi pre A → A.grownBy B (some g) → W.heap.size ≤ g → g < hi → J hi pre B) →
    (∀ hi pre x W1, W.heap.size ≤ hi → J hi pre W1 → R hi pre x W1 → YieldAt Fence.wide (n - 1) P l #[val x] W1 fun e W' => KeepsFrom W.heap.size W1 W' ∧ ((e = .returned (.bool true) ∧ J hi (pre ++ [x]) W' ∧ Kp hi W1 W') ∨ (e = .returned (.bool false) ∧ Jx hi (pre ++ [x]) W'))) →
    (∀ hi W1, W.grownBy W1 none → W.heap.size ≤ hi → hi ≤ W1.heap.size → J hi [] W1) →
    CallsIn Fence.wide n P gf (#[.func (.yield l) #[] #[]] ++ lb) W fun e W' => (∃ v, e = .returned v) ∧ ((∃ hi ys, S ys ∧ J hi ys W') ∨ ∃ hi pre, Jx hi pre W')

theorem range_gap {β : Type} {n : Nat} {P : Program} {g : Operand} {ps : Array Tmp} {assign body : Code} {Q : Exit → Act → World → Prop} {a : Act} {w w0 : World} {gf : Nat} {lb : Array Value} (h1 : 1 ≤ n)
    (hg : a.eval g = .func (.func gf) #[] lb) (eg : ∀ args w, (callFunc gf args).run P w = .ok (.enter gf args) w) (hps : ps.size = 1)
    (val : β → Value) (Kp : Nat → World → World → Prop) (R : Nat → List β → β → World → Prop) (S : List β → Prop) (hit : GapSeq (n - 1) P gf lb val Kp R S w0) (hb0 : Below w0.heap.size w0 w)
    (hKt : ∀ (hi : Nat) (A B C : World), Kp hi A B → Kp hi B C → Kp hi A C) (hKb : ∀ (hi : Nat) (W : World) (l : Nat) (o o' : Obj), w.heap.size ≤ l → W.heap[l]? = some o → o.isCells = false → o.isWalk = false → Kp hi W (W.putObj l o'))
    (I Ix : Nat → List β → World → Prop) (hI : ∀ hi, OwnFrom w.heap.size (I hi)) (hIx : ∀ hi, OwnFrom w.heap.size (Ix hi)) (hIg : ∀ hi pre A B g, I hi pre A → A.grownBy B (some g) → w.heap.size ≤ g → g < hi → I hi pre B) (h0 : ∀ hi, w.heap.size ≤ hi → I hi [] w) (Ax : Nat → List β → β → Act → World → Prop) (hAx : ∀ hi pre x a', OwnFrom w.heap.size (fun (_ : Unit) W => Ax hi pre x a' W))
    (hassign : ∀ (hi l : Nat) (pre : List β) (x : β) (W : World) (K : Act → World → Prop), w.heap.size + 2 ≤ hi → I hi pre W → R hi pre x W → (∀ a' W', KeepsFrom w.heap.size W W' → Kp hi W W' → I hi pre W' → Ax hi pre x a' W' → K a' W') →
      assign.wpIn (Fence.wide.inRound l) (n - 1 - 1) P (Exit.then K (fun _ _ _ => False)) { tmps := (ps.zip #[val x]).foldl (fun t (p, v) => t.setIfInBounds p v) a.tmps, defers := [] } W)
    (hbody : ∀ (hi l : Nat) (pre : List β) (x : β) (a' : Act) (W : World), w.heap.size + 2 ≤ hi → w.heap.size ≤ l → (∃ r, W.heap[l]? = some (.loop r)) → I hi pre W → Ax hi pre x a' W → body.wpIn (Fence.wide.inRound l) (n - 1 - 1) P (RowPost w.heap.size (Kp hi) (I hi) (Ix hi) (pre ++ [x]) W) a' W)
    (hdone : ∀ (hi : Nat) (ys : List β) (W : World), S ys → I hi ys W → W.heap[w.heap.size]? = some (.deferred (some [])) → Q .normal { a with defers := { target := .collected w.heap.size, args := #[] } :: a.defers } W)
    (hstop : ∀ (hi : Nat) (pre : List β) (W : World), Ix hi pre W → W.heap[w.heap.size]? = some (.deferred (some [])) → Code.ret.wpIn Fence.wide n P Q { a with defers := { target := .collected w.heap.size, args := #[] } :: a.defers } W) :
    (Code.rangeFunc g ps assign body).wpIn Fence.wide n P Q a w := by
  refine wpIn_rangeFunc ?_
  intro fn hfn
  rw [show Fence.wide.round = none from rfl]
  let r : LoopState → Option Code → Loop := fun st pe => { state := st, pending := pe, fn := fn, tmps := a.tmps, params := ps, assign := assign, body := body, defers := w.heap.size }
  let W1 := (w.alloc (.deferred (some []))).alloc (.loop (r .ready none))
  have hsz : (w.alloc (.deferred (some []))).heap.size = w.heap.size + 1 := World.size_alloc _ _
  have hL : W1.heap[w.heap.size + 1]? = some (.loop (r .ready none)) := by rw [← hsz]; exact World.alloc_heap_new _ _
  have hD : W1.heap[w.heap.size]? = some (.deferred (some [])) := (Below.heap_alloc _ _ _ (by omega)).trans (World.alloc_heap_new w _)
  have hs1 : W1.heap.size = w.heap.size + 2 := by show ((w.alloc _).alloc _).heap.size = _; rw [World.size_alloc, World.size_alloc]
  have hIW : ∀ hi, W1.heap.size ≤ hi → I hi [] W1 := fun hi hh => (hI hi).alloc _ ((hI hi).alloc _ (h0 hi (by omega)))
  have hbW : Below w0.heap.size w0 W1 := hb0.trans (((Below.refl _ w).alloc (Nat.le_refl _) _ |>.alloc (by omega) _).mono hb0.size)
  refine ⟨w.heap.size + 1, [{ target := .collected w.heap.size, args := #[] }], W1, { target := .fn (.func gf) lb, args := #[.func (.yield (w.heap.size + 1)) #[] #[]] }, W1, gf, #[.func (.yield (w.heap.size + 1)) #[] #[]] ++ lb, W1, run_enterLoop_outer _ _ _ _ _, ?_, fun _ _ => trivial, ?_, fun _ => h1, ?_⟩
  · simp only [resolve, hg]
    simp [go_sem]
  · simp [invoke, go_sem, eg]
  refine (hit (w.heap.size + 1) (fun hi pre W => I hi pre W ∧ W.heap[w.heap.size + 1]? = some (.loop (r .ready none)) ∧ W.heap[w.heap.size]? = some (.deferred (some [])))
    (fun hi pre W => Ix hi pre W ∧ W.heap[w.heap.size + 1]? = some (.loop (r .done (some .ret))) ∧ W.heap[w.heap.size]? = some (.deferred (some []))) W1 hbW ?_ ?_ ?_ ?_ ?_).mono ?_
  · rintro hi pre A B row ⟨i, l, d⟩ hgr hrow
    exact ⟨hI hi pre A B row i hgr (fun k hk => ⟨by have := (hrow k hk).1; omega, (hrow k hk).2⟩), (hgr.block _ (Array.getElem?_eq_some_iff.1 l).1 (fun h => by have := (hrow _ h.symm).1; omega)).trans l, (hgr.block _ (Array.getElem?_eq_some_iff.1 d).1 (fun h => by have := (hrow _ h.symm).1; omega)).trans d⟩
  · rintro hi pre A B row ⟨i, l, d⟩ hgr hrow
    exact ⟨hIx hi pre A B row i hgr (fun k hk => ⟨by have := (hrow k hk).1; omega, (hrow k hk).2⟩), (hgr.block _ (Array.getElem?_eq_some_iff.1 l).1 (fun h => by have := (hrow _ h.symm).1; omega)).trans l, (hgr.block _ (Array.getElem?_eq_some_iff.1 d).1 (fun h => by have := (hrow _ h.symm).1; omega)).trans d⟩
  · rintro hi pre A B g ⟨i, l, d⟩ hgr h1 h2
    exact ⟨hIg hi pre A B g i hgr (by omega) h2, (hgr.block _ (Array.getElem?_eq_some_iff.1 l).1 (fun h => by injection h with h; omega)).trans l, (hgr.block _ (Array.getElem?_eq_some_iff.1 d).1 (fun h => by injection h with h; omega)).trans d⟩
  · rintro hi pre x W hhi ⟨i, l, d⟩ hr
    refine ⟨fn, _, assign, body, run_yield (args := #[val x]) l (by show 1 = ps.size; omega), roundIn_of_wpIn hfn (hassign hi _ pre x W _ (by omega) i hr ?_)⟩
    rintro a' Wa ka kpa ia ax
    replace l := ka.same _ _ (by omega) l rfl
    replace d := ka.same _ _ (Nat.le_refl _) d rfl
    have hlt := (Array.getElem?_eq_some_iff.1 l).1
    refine ⟨_, run_beginRound l rfl, ?_⟩
    have l2 : (Wa.putObj (w.heap.size + 1) (.loop (r .busy none))).heap[w.heap.size + 1]? = some (.loop (r .busy none)) := World.putObj_heap_same hlt
    have d2 : (Wa.putObj (w.heap.size + 1) (.loop (r .busy none))).heap[w.heap.size]? = some (.deferred (some [])) := (World.putObj_heap_other (by omega)).trans d
    refine wpIn_mono (hbody hi _ pre x a' _ (by omega) (by omega) ⟨_, l2⟩ ((hI hi).putObj _ ia (by omega) l rfl) ((hAx hi pre x a').putObj (s := ()) _ ax (by omega) l rfl)) ?_
    rintro e a3 W3 hp
    cases e with
    | normal =>
      obtain ⟨hk, hkp, hi3⟩ := hp
      have l3 := hk.same _ _ (by omega) l2 rfl
      have d3 := hk.same _ _ (Nat.le_refl _) d2 rfl
      have kp2 : Kp hi Wa (Wa.putObj (w.heap.size + 1) (.loop (r .busy none))) := hKb hi _ _ _ _ (by omega) l rfl rfl
      exact ⟨_, _, run_endRound none l3, (keeps_mono ka (by omega)).trans ((keeps_put _ _ (by omega)).trans ((keeps_mono hk (by omega)).trans (keeps_put _ _ (by omega)))), .inl ⟨rfl, ⟨(hI hi).putObj _ hi3 (by omega) l3 rfl, World.putObj_heap_same (Array.getElem?_eq_some_iff.1 l3).1, (World.putObj_heap_other (by omega)).trans d3⟩, hKt hi _ _ _ kpa (hKt hi _ _ _ (hKt hi _ _ _ kp2 hkp) (hKb hi _ _ _ _ (by omega) l3 rfl rfl))⟩⟩
    | ret =>
      obtain ⟨hk, hx⟩ := hp
      have l3 := hk.same _ _ (by omega) l2 rfl
      have d3 := hk.same _ _ (Nat.le_refl _) d2 rfl
      exact ⟨_, _, run_endRound (some .ret) l3, (keeps_mono ka (by omega)).trans ((keeps_put _ _ (by omega)).trans ((keeps_mono hk (by omega)).trans (keeps_put _ _ (by omega)))), .inr ⟨rfl, (hIx hi).putObj _ hx (by omega) l3 rfl, World.putObj_heap_same (Array.getElem?_eq_some_iff.1 l3).1, (World.putObj_heap_other (by omega)).trans d3⟩⟩
    | exit id => exact hp.elim
    | goto t => exact hp.elim
    | panic ch => exact hp.elim
    | outgrown => exact hp.elim
  · rintro hi Wx hgr h1 h2
    have hl := hL
    have hd := hD
    exact ⟨hI hi [] W1 Wx none (hIW hi h1) hgr (fun k hk => by cases hk), (hgr.block _ (Array.getElem?_eq_some_iff.1 hL).1 (fun h => by cases h)).trans hL, (hgr.block _ (Array.getElem?_eq_some_iff.1 hD).1 (fun h => by cases h)).trans hD⟩
  · rintro e W2 ⟨⟨v, rfl⟩, ⟨hi, ys, hs, i, l, d⟩ | ⟨hi, pre, hx, l, d⟩⟩
    · exact ⟨none, _, run_endLoop l (by intro h; cases h), hdone hi ys _ hs ((hI hi).putObj _ i (by omega) l rfl) ((World.putObj_heap_other (by omega)).trans d)⟩
    · exact ⟨some .ret, _, run_endLoop l (by intro h; cases h), hstop hi pre _ ((hIx hi).putObj _ hx (by omega) l rfl) ((World.putObj_heap_other (by omega)).trans d)⟩
end Go.Proofs.Ytmcibcechffppaa
