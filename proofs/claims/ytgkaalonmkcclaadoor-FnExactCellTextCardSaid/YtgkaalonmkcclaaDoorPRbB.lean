import Derived.Test.YtgkaalonmkcclaaDoorPRbA
import Derived.Test.YtgkaalonmkcclaaDoorKit
namespace Go.Proofs.YtgkaalonmkcclaaDoor
open Go.RowKit Go.Shelf
set_option maxRecDepth 100000

/-- What an iterator's contract promises to a body that returns at once: it calls yield at most once, where J still holds and R x holds of the value. -/
def OneYield {β : Type} (P : Program) (gf : Nat) (lb : Array Value) (val : β → Value) (R : β → World → Prop) (Non : Prop) (w : World) : Prop :=
  ∀ (l : Nat) (J : World → Prop) (Jx : β → World → Prop) (W : World), Below w.heap.size w W → (∀ A B : World, J A → A.grownBy B none → J B) →
    (∀ x W1, J W1 → R x W1 → YieldAt Fence.wide 3 P l #[val x] W1 fun e W' => e = .returned (.bool false) ∧ Jx x W') → J W →
    CallsIn Fence.wide 4 P gf (#[.func (.yield l) #[] #[]] ++ lb) W fun e W' => (∃ v, e = .returned v) ∧ ((Non ∧ J W') ∨ ∃ x, Jx x W')

theorem range_first {β : Type} {P : Program} {g : Operand} {ps : Array Tmp} {assign body : Code} {Q : Exit → Act → World → Prop} {a : Act} {w w0 : World} {gf : Nat} {lb : Array Value}
    (hg : a.eval g = .func (.func gf) #[] lb) (eg : ∀ args w, (callFunc gf args).run P w = .ok (.enter gf args) w) (hps : ps.size = 1)
    (val : β → Value) (R : β → World → Prop) (hR : OwnFrom w.heap.size R) (Non : Prop) (hit : OneYield P gf lb val R Non w0) (hb0 : Below w0.heap.size w0 w)
    (I : Unit → World → Prop) (hI : OwnFrom w.heap.size I) (h0 : I () w) (X : β → World → Prop) (hX : OwnFrom w.heap.size X) (a₁ : β → Act)
    (hassign : ∀ (l : Nat) (x : β) (W : World) (K : Act → World → Prop), K (a₁ x) W →
      assign.wpIn (Fence.wide.inRound l) 3 P (Exit.then K (fun _ _ _ => False)) { tmps := (ps.zip #[val x]).foldl (fun t (p, v) => t.setIfInBounds p v) a.tmps, defers := [] } W)
    (hbody : ∀ (l : Nat) (x : β) (W : World), I () W → R x W → body.wpIn (Fence.wide.inRound l) 3 P (fun e _ W' => e = .ret ∧ KeepsFrom w.heap.size W W' ∧ X x W') (a₁ x) W)
    (hdone : ∀ W : World, Non → I () W → W.heap[w.heap.size]? = some (.deferred (some [])) → Q .normal { a with defers := { target := .collected w.heap.size, args := #[] } :: a.defers } W)
    (hstop : ∀ (x : β) (W : World), X x W → W.heap[w.heap.size]? = some (.deferred (some [])) → Code.ret.wpIn Fence.wide 5 P Q { a with defers := { target := .collected w.heap.size, args := #[] } :: a.defers } W) :
    (Code.rangeFunc g ps assign body).wpIn Fence.wide 5 P Q a w := by
  refine wpIn_rangeFunc ?_
  intro fn hfn
  rw [show Fence.wide.round = none from rfl]
  let r : LoopState → Option Code → Loop := fun st pe => { state := st, pending := pe, fn := fn, tmps := a.tmps, params := ps, assign := assign, body := body, defers := w.heap.size }
  let W1 := (w.alloc (.deferred (some []))).alloc (.loop (r .ready none))
  have hsz : (w.alloc (.deferred (some []))).heap.size = w.heap.size + 1 := World.size_alloc _ _
  have hL : W1.heap[w.heap.size + 1]? = some (.loop (r .ready none)) := by rw [← hsz]; exact World.alloc_heap_new _ _
  have hD : W1.heap[w.heap.size]? = some (.deferred (some [])) := (Below.heap_alloc _ _ _ (by omega)).trans (World.alloc_heap_new w _)
  have hIW : I () W1 := hI.alloc _ (hI.alloc _ h0)
  have hbW : Below w0.heap.size w0 W1 := hb0.trans (((Below.refl _ w).alloc (Nat.le_refl _) _ |>.alloc (by omega) _).mono hb0.size)
  refine ⟨w.heap.size + 1, [{ target := .collected w.heap.size, args := #[] }], W1, { target := .fn (.func gf) lb, args := #[.func (.yield (w.heap.size + 1)) #[] #[]] }, W1, gf, #[.func (.yield (w.heap.size + 1)) #[] #[]] ++ lb, W1, run_enterLoop_outer _ _ _ _ _, ?_, fun _ _ => trivial, ?_, fun _ => by omega, ?_⟩
  · simp only [resolve, hg]
    simp [go_sem]
  · simp [invoke, go_sem, eg]
  refine (hit (w.heap.size + 1) (fun W => I () W ∧ W.heap[w.heap.size + 1]? = some (.loop (r .ready none)) ∧ W.heap[w.heap.size]? = some (.deferred (some [])))
    (fun x W => X x W ∧ W.heap[w.heap.size + 1]? = some (.loop (r .done (some .ret))) ∧ W.heap[w.heap.size]? = some (.deferred (some []))) W1 hbW ?_ ?_ ⟨hIW, hL, hD⟩).mono ?_
  · rintro A B ⟨i, l, d⟩ hgr
    exact ⟨hI () A B none i hgr (by intro k hk; cases hk), (hgr.block _ (Array.getElem?_eq_some_iff.1 l).1 (by intro h; cases h)).trans l, (hgr.block _ (Array.getElem?_eq_some_iff.1 d).1 (by intro h; cases h)).trans d⟩
  · rintro x W ⟨i, l, d⟩ hr
    refine ⟨fn, _, assign, body, run_yield (args := #[val x]) l (by show 1 = ps.size; omega), roundIn_of_wpIn hfn (hassign _ x W _ ?_)⟩
    have hlt := (Array.getElem?_eq_some_iff.1 l).1
    refine ⟨_, run_beginRound l rfl, ?_⟩
    have l2 : (W.putObj (w.heap.size + 1) (.loop (r .busy none))).heap[w.heap.size + 1]? = some (.loop (r .busy none)) := World.putObj_heap_same hlt
    have d2 : (W.putObj (w.heap.size + 1) (.loop (r .busy none))).heap[w.heap.size]? = some (.deferred (some [])) := (World.putObj_heap_other (by omega)).trans d
    refine wpIn_mono (hbody _ x _ (hI.putObj _ i (by omega) l rfl) (hR.putObj _ hr (by omega) l rfl)) ?_
    rintro e a3 W3 ⟨rfl, hk, hx⟩
    have l3 := hk.same _ _ (by omega) l2 rfl
    have d3 := hk.same _ _ (Nat.le_refl _) d2 rfl
    exact ⟨_, _, run_endRound (some .ret) l3, rfl, hX.putObj _ hx (by omega) l3 rfl, World.putObj_heap_same (Array.getElem?_eq_some_iff.1 l3).1, (World.putObj_heap_other (by omega)).trans d3⟩
  · rintro e W2 ⟨⟨v, rfl⟩, ⟨hn, i, l, d⟩ | ⟨x, hx, l, d⟩⟩
    · exact ⟨none, _, run_endLoop l (by intro h; cases h), hdone _ hn (hI.putObj _ i (by omega) l rfl) ((World.putObj_heap_other (by omega)).trans d)⟩
    · exact ⟨some .ret, _, run_endLoop l (by intro h; cases h), hstop x _ (hX.putObj _ hx (by omega) l rfl) ((World.putObj_heap_other (by omega)).trans d)⟩
end Go.Proofs.YtgkaalonmkcclaaDoor

namespace Go.Proofs.YtgkaalonmkcclaaDoor
open Go.RowKit Go.Shelf
set_option maxRecDepth 100000
attribute [local go_sem] Oper.semAt_some

/-- What holds of a list of values (with its place) that is handed to the loop's body. -/
def PvR (S : List (ByteArray × Int)) (M : List (List Int)) (n₀ N : Nat) (x : Value × Nat) (W : World) : Prop :=
  (x.2 < N ∧ cpN S M x.2 = 0 ∧ faB M (atL S x.2) = false) ∧ W.ownsRow n₀ 3 1 x.1 (atL S x.2).length (iC (atL S x.2))
/-- The two result variables' boxes, as they are laid at the beginning. -/
def ResB (n : Nat) (v : Value) (b : Bool) (W : World) : Prop := Boxed W n 22 v ∧ Boxed W (n + 1) 4 (.bool b)
theorem resB_new (w : World) : ResB w.heap.size (.slice none 0 0) false ((w.alloc (.cells #[.slice none 0 0] 22)).alloc (.cells #[.bool false] 4)) := by
  refine ⟨(Boxed.new w 22 _).alloc _, ?_⟩
  have := Boxed.new (w.alloc (.cells #[.slice none 0 0] 22)) 4 (.bool false)
  rwa [World.size_alloc] at this
theorem ResB.below {n : Nat} {v : Value} {b : Bool} {w W : World} (h : ResB n v b w) (hb : Below w.heap.size w W) : ResB n v b W := ⟨(hb.block _ h.1.lt).trans h.1, (hb.block _ h.2.lt).trans h.2⟩
theorem ResB.set {n : Nat} {v v0 : Value} {b b0 : Bool} {W : World} (h : ResB n v0 b0 W) : ResB n v b ((W.setCell ⟨n, 0, none⟩ v).setCell ⟨n + 1, 0, none⟩ (.bool b)) :=
  ⟨(h.1.set v).other (by omega) _, (h.2.other (by omega) v).set (.bool b)⟩
theorem resB_to {n : Nat} {v : Value} {b : Bool} {w W : World} (hb : Below w.heap.size w W) (hn : w.heap.size ≤ n) : Below w.heap.size w ((W.setCell ⟨n, 0, none⟩ v).setCell ⟨n + 1, 0, none⟩ (.bool b)) :=
  (hb.setCell (p := ⟨n, 0, none⟩) hn v).setCell (p := ⟨n + 1, 0, none⟩) (by show w.heap.size ≤ n + 1; omega) _
theorem ResB.put {n l : Nat} {v : Value} {b : Bool} {W : World} {o : Obj} (h : ResB n v b W) (o' : Obj) (hl : W.heap[l]? = some o) (ho : o.isCells = false) : ResB n v b (W.putObj l o') := by
  have hne : ∀ k c t z, W.heap[k]? = some (.cells c t z) → k ≠ l := by
    rintro k c t z hk rfl
    rw [hk] at hl
    cases hl
    cases ho
  exact ⟨(World.putObj_heap_other (hne _ _ _ _ h.1)).trans h.1, (World.putObj_heap_other (hne _ _ _ _ h.2)).trans h.2⟩
theorem own_cells {X Y : World} {row : Option Nat} {n₀ e size n : Nat} {v : Value} {xs : List Value} (h : X.ownsRow n₀ e size v n xs) (hg : X.grownBy Y row) (hrow : ∀ r, row = some r → ∃ o : Obj, X.heap[r]? = some o ∧ o.isCells = false) : Y.ownsRow n₀ e size v n xs := by
  refine h.kept hg ?_
  rcases h.2 with ⟨rfl, _⟩ | ⟨g, cap, cur, rfl, _, hgb, _⟩
  · exact .inl rfl
  · refine .inr fun e' => ?_
    obtain ⟨o, ho, hc⟩ := hrow g (by simpa [Value.ownBlock] using e'.symm)
    rw [hgb] at ho
    cases ho
    cases hc
theorem pvR_own (S : List (ByteArray × Int)) (M : List (List Int)) (n₀ N : Nat) : Own (PvR S M n₀ N) := fun _ _ _ _ h hg hr => ⟨h.1, own_cells h.2 hg hr⟩
theorem resB_own {β : Type} (n : Nat) (f : β → Value) (b : Bool) : Own (fun s W => ResB n (f s) b W) := fun s A B row h hg hr =>
  ⟨boxed_own n 22 f s A B row h.1 hg hr, boxed_own (n + 1) 4 (fun _ => .bool b) s A B row h.2 hg hr⟩
theorem pvR_set {S : List (ByteArray × Int)} {M : List (List Int)} {n₀ N n : Nat} {x : Value × Nat} {W : World} {v v0 : Value} {b b0 : Bool} (h : PvR S M n₀ N x W) (r : ResB n v0 b0 W) : PvR S M n₀ N x ((W.setCell ⟨n, 0, none⟩ v).setCell ⟨n + 1, 0, none⟩ (.bool b)) := by
  have h1 := h.2.kept (grownBy_setCell' W n v) (.inr (Ne.symm (r.1.not_row (by decide) h.2)))
  have r2 := r.2.other (by omega) (B' := n) v
  exact ⟨h.1, h1.kept (grownBy_setCell' _ (n + 1) (.bool b)) (.inr (Ne.symm (r2.not_row (by decide) h1)))⟩
end Go.Proofs.YtgkaalonmkcclaaDoor

namespace Go.Proofs.YtgkaalonmkcclaaDoor
open Go.RowKit Go.Shelf
set_option maxRecDepth 100000
attribute [local go_sem] Oper.semAt_some

/-- Two result variables' boxes. -/
def ResT (t n : Nat) (v : Value) (b : Bool) (W : World) : Prop := Boxed W n t v ∧ Boxed W (n + 1) 4 (.bool b)
theorem resT_new (t : Nat) (z : Value) (w : World) : ResT t w.heap.size z false ((w.alloc (.cells #[z] t)).alloc (.cells #[.bool false] 4)) := by
  refine ⟨(Boxed.new w t _).alloc _, ?_⟩
  have := Boxed.new (w.alloc (.cells #[z] t)) 4 (.bool false)
  rwa [World.size_alloc] at this
theorem ResT.below {t n : Nat} {v : Value} {b : Bool} {w W : World} (h : ResT t n v b w) (hb : Below w.heap.size w W) : ResT t n v b W := ⟨(hb.block _ h.1.lt).trans h.1, (hb.block _ h.2.lt).trans h.2⟩
theorem ResT.set {t n : Nat} {v v0 : Value} {b b0 : Bool} {W : World} (h : ResT t n v0 b0 W) : ResT t n v b ((W.setCell ⟨n, 0, none⟩ v).setCell ⟨n + 1, 0, none⟩ (.bool b)) :=
  ⟨(h.1.set v).other (by omega) _, (h.2.other (by omega) v).set (.bool b)⟩
theorem ResT.put {t n l : Nat} {v : Value} {b : Bool} {W : World} {o : Obj} (h : ResT t n v b W) (o' : Obj) (hl : W.heap[l]? = some o) (ho : o.isCells = false) : ResT t n v b (W.putObj l o') := by
  have hne : ∀ k c t z, W.heap[k]? = some (.cells c t z) → k ≠ l := by
    rintro k c t z hk rfl
    rw [hk] at hl
    cases hl
    cases ho
  exact ⟨(World.putObj_heap_other (hne _ _ _ _ h.1)).trans h.1, (World.putObj_heap_other (hne _ _ _ _ h.2)).trans h.2⟩
theorem resT_own {β : Type} (t n : Nat) (f : β → Value) (b : Bool) : Own (fun s W => ResT t n (f s) b W) := fun s A B row h hg hr =>
  ⟨boxed_own n t f s A B row h.1 hg hr, boxed_own (n + 1) 4 (fun _ => .bool b) s A B row h.2 hg hr⟩
end Go.Proofs.YtgkaalonmkcclaaDoor

namespace Go.Proofs.YtgkaalonmkcclaaDoor
open Go.RowKit
set_option maxRecDepth 100000

/-- Strictly increasing from b on, below n. -/
def rsU (n : Int) : Int → List Int → Bool
  | _, [] => true
  | b, v :: r => decide (b ≤ v ∧ v < n) && rsU n (v + 1) r
theorem rsU_at {n b : Int} {F : List Int} {i : Nat} {v : Int} (h : F[i]? = some v) : rsU n b (F.drop i) = (decide (b ≤ v ∧ v < n) && rsU n (v + 1) (F.drop (i + 1))) := by
  obtain ⟨hi, e⟩ := List.getElem?_eq_some_iff.1 h
  rw [List.drop_eq_getElem_cons hi, e]
  rfl
theorem rs_end {n b : Int} {F : List Int} : rsU n b (F.drop F.length) = true := by rw [List.drop_length]; rfl
theorem rs_bd {n : Int} : ∀ {b : Int} {F : List Int}, rsU n b F = true → ∀ v ∈ F, b ≤ v ∧ v < n
  | _, [], _, v, hv => by cases hv
  | b, u :: r, h, v, hv => by
    unfold rsU at h
    rw [Bool.and_eq_true, decide_eq_true_eq] at h
    rcases List.mem_cons.1 hv with rfl | hm
    · exact h.1
    · have := rs_bd h.2 v hm
      omega
def rsB (S : List (ByteArray × Int)) (F : List Int) : Bool := rsU S.length 0 F
theorem ag_hit {F V x : List Int} {i : Nat} {v : Int} (h : F[i]? = some v) (hne : ¬ x[v.toNat]? = V[v.toNat]?) : agB F V x = false := by
  unfold agB
  rw [List.all_eq_false]
  exact ⟨v, List.mem_of_getElem? h, by simp [hne]⟩
theorem ag_all {F V x : List Int} (h : ∀ j, j < F.length → ∃ v, F[j]? = some v ∧ x[v.toNat]? = V[v.toNat]?) : agB F V x = true := by
  unfold agB
  rw [List.all_eq_true]
  intro v hv
  obtain ⟨j, hj, e⟩ := List.getElem_of_mem hv
  obtain ⟨u, h1, h2⟩ := h j hj
  rw [List.getElem?_eq_getElem hj, e] at h1
  cases h1
  exact decide_eq_true h2
theorem ag_snoc {F V x : List Int} {i : Nat} {v : Int} (h : F[i]? = some v) : agB (F.take (i + 1)) V x = (agB (F.take i) V x && decide (x[v.toNat]? = V[v.toNat]?)) := by
  unfold agB
  rw [take_snoc h, List.all_append]
  simp
theorem ag_zero (F V x : List Int) : agB (F.take 0) V x = true := by rw [List.take_zero]; rfl
/-- Is all well asked? -/
def cgG (S : List (ByteArray × Int)) (M : List (List Int)) (F V : List Int) : Bool := smB S M && rsB S F && fitB S V
def ccB (S : List (ByteArray × Int)) (M : List (List Int)) (F V : List Int) : Bool := cgG S M F V && (coN S M F V).isSome
theorem cg_no1 {S : List (ByteArray × Int)} {M : List (List Int)} {F V : List Int} (h : smB S M = false) : cgG S M F V = false := by unfold cgG; rw [h]; rfl
theorem cg_no2 {S : List (ByteArray × Int)} {M : List (List Int)} {F V : List Int} (h : rsB S F = false) : cgG S M F V = false := by unfold cgG; rw [h, Bool.and_false]; rfl
theorem cg_no3 {S : List (ByteArray × Int)} {M : List (List Int)} {F V : List Int} (h : fitB S V = false) : cgG S M F V = false := by unfold cgG; rw [h, Bool.and_false]
theorem cg_yes {S : List (ByteArray × Int)} {M : List (List Int)} {F V : List Int} (h : smB S M = true) (k : rsB S F = true) (m : fitB S V = true) : cgG S M F V = true := by unfold cgG; rw [h, k, m]; rfl
theorem cg_get {S : List (ByteArray × Int)} {M : List (List Int)} {F V : List Int} (h : cgG S M F V = true) : smB S M = true ∧ rsB S F = true ∧ fitB S V = true := by
  unfold cgG at h
  rw [Bool.and_eq_true, Bool.and_eq_true] at h
  exact ⟨h.1.1, h.1.2, h.2⟩
theorem cc_no {S : List (ByteArray × Int)} {M : List (List Int)} {F V : List Int} (h : cgG S M F V = false) : ccB S M F V = false := by unfold ccB; rw [h]; rfl
theorem cc_ok {S : List (ByteArray × Int)} {M : List (List Int)} {F V : List Int} (h : cgG S M F V = true) : ccB S M F V = (coN S M F V).isSome := by unfold ccB; rw [h]; rfl
theorem co_none {S : List (ByteArray × Int)} {M : List (List Int)} {F V : List Int} (h : coN S M F V = none) : coL S M F V = [] := by unfold coL; rw [h]
theorem co_some {S : List (ByteArray × Int)} {M : List (List Int)} {F V : List Int} {k : Nat} (h : coN S M F V = some k) : coL S M F V = atL S k := by unfold coL; rw [h]
theorem co_len (S : List (ByteArray × Int)) (M : List (List Int)) (F V : List Int) : (coL S M F V).length ≤ S.length := by
  cases h : coN S M F V with
  | none => rw [co_none h]; exact Nat.zero_le _
  | some k => rw [co_some h, atL_len]; exact Nat.le_refl _
theorem coP_eq {S : List (ByteArray × Int)} {M : List (List Int)} {F V : List Int} (k : Nat) : coP S M F V k = (!faB M (atL S k) && agB F V (atL S k)) := rfl
set_option maxHeartbeats 1000000 in
theorem areIndices_any (y : Option Addr) (c2 : Nat) (n : Nat) (F : List Int) (w : World) (hm : n ≤ 1048576) (hF : IIn w y F) :
    Calls Tryd.prog 69 #[.slice y F.length c2, .int .i64 (n : Int)] w fun e w' => e = .returned (.bool (rsU n 0 F)) ∧ w = w' := by
  have hFh := Lib.hid hF
  have hFl := hF.1
  clear hF
  go_enter Tryd.func69, Tryd.ntmps69
  go_wp2
  go_loopw [5, 10] (fun b c wr => ∃ (i : Nat) (bz : Int), i ≤ F.length ∧ c = .int .i64 i ∧ b = .int .i64 bz ∧ 0 ≤ bz ∧ bz ≤ 1048576 ∧ Hid (rsU n bz (F.drop i) = rsU n 0 F) ∧ w = wr) (fun _ c _ => F.length - (intOf c).toNat)
  case atStart => exact ⟨0, 0, by omega, rfl, rfl, by omega, by omega, (by unfold Hid; rw [List.drop_zero]), rfl⟩
  case round =>
    obtain ⟨i, bz, hi, rfl, rfl, hb0, hb1, hrs, rfl⟩ := hrel
    by_cases hlt : i < F.length
    · obtain ⟨bl, off, v, rfl, hbl, hFi, hc0⟩ := hFh.out.2.2.int hlt
      have hv64 := hFh.out.2.1 v (List.mem_of_getElem? hFi)
      unfold IsI64 at hv64
      have hat := Lib.hid (rsU_at (n := (n : Int)) (b := bz) hFi)
      have hlt' : (i : Int) < (F.length : Int) := by omega
      have hi0 : (0 : Int) ≤ (i : Int) := by omega
      clear hFi
      by_cases h1 : v < bz
      · have hv : Hid (rsU n 0 F = false) := by unfold Hid; rw [← hrs.out, hat.out, decide_eq_false (by omega)]; rfl
        go_wp2
        go_ret
        exact ⟨ret_bool hv.out.symm, rfl⟩
      · by_cases h2 : (n : Int) ≤ v
        · have hv : Hid (rsU n 0 F = false) := by unfold Hid; rw [← hrs.out, hat.out, decide_eq_false (by omega)]; rfl
          go_wp2
          go_ret
          exact ⟨ret_bool hv.out.symm, rfl⟩
        · have hv : Hid (rsU n (v + 1) (F.drop (i + 1)) = rsU n 0 F) := by unfold Hid; rw [← hrs.out, hat.out, decide_eq_true (by omega), Bool.true_and]
          go_wp2
          go_roundw
          case rel => exact ⟨i + 1, v + 1, by omega, by go_num, by go_num, by omega, by omega, hv.out, by first | rfl | trivial⟩
          case measure => simp [intOf]; omega
    · have hij : i = F.length := by omega
      subst hij
      have hv : Hid (rsU n 0 F = true) := by unfold Hid; rw [← hrs.out]; exact rs_end
      clear hrs
      go_wp2
      go_ret
      exact ⟨ret_bool hv.out.symm, rfl⟩
theorem areVariablesOf_any (x y : Option Addr) (c1 c2 : Nat) (S : List (ByteArray × Int)) (F : List Int) (w : World) (hm : S.length ≤ 1048576) (hF : IIn w y F) :
    Calls Tryd.prog 52 #[.slice x S.length c1, .slice y F.length c2] w fun e w' => e = .returned (.bool (rsB S F)) ∧ w = w' := by
  have hFh := Lib.hid hF
  clear hF
  go_enter Tryd.func52, Tryd.ntmps52
  go_wp2_with fail
  refine (areIndices_any _ _ S.length F _ hm hFh.out).mono ?_
  rintro e w1 ⟨rfl, rfl⟩
  go_wp2
  go_ret
  exact ⟨rfl, rfl⟩
set_option maxHeartbeats 2000000 in
theorem l1Rising_any (y : Option Addr) (c2 : Nat) (S : List (ByteArray × Int)) (F : List Int) (w : World) (hm : S.length ≤ 1048576) (hF : IIn w y F) :
    Calls Tryd.prog 37 #[.slice y F.length c2, .int .i64 0, .int .i64 ((S.length : Int) - 1)] w fun e w' => e = .returned (.bool (rsB S F)) ∧ Below w.heap.size w w' := by
  have hFh := Lib.hid hF
  have hFl := hF.1
  clear hF
  go_enter Tryd.func37, Tryd.ntmps37
  go_wp2
  go_loopw [11] (fun c wr => ∃ (i : Nat) (bz : Int), i ≤ F.length ∧ c = .int .i64 i ∧ Hid ((i = 0 ∧ bz = 0) ∨ ∃ u, 0 < i ∧ F[i - 1]? = some u ∧ bz = u + 1) ∧ 0 ≤ bz ∧ bz ≤ 1048576 ∧ Hid (rsU S.length bz (F.drop i) = rsB S F) ∧ Below w.heap.size w wr) (fun c _ => F.length - (intOf c).toNat)
  case atStart => exact ⟨0, 0, by omega, rfl, .inl ⟨rfl, rfl⟩, by omega, by omega, (by unfold Hid; rw [List.drop_zero]; rfl), Below.refl _ _⟩
  case round =>
    obtain ⟨i, bz, hi, rfl, hpre, hb0, hb1, hrs, hBr⟩ := hrel
    by_cases hlt : i < F.length
    · obtain ⟨bl, off, v, hy, hbl, hFi, hc0⟩ := (hFh.out.below hBr).2.2.int hlt
      have hv64 := hFh.out.2.1 v (List.mem_of_getElem? hFi)
      unfold IsI64 at hv64
      have hat := Lib.hid (rsU_at (n := (S.length : Int)) (b := bz) hFi)
      have hFih := Lib.hid hFi
      have hlt' : (i : Int) < (F.length : Int) := by omega
      have hi0 : (0 : Int) ≤ (i : Int) := by omega
      clear hFi
      subst hy
      go_wp2_with fail
      refine (l1In_any _ _ _ _).mono ?_
      rintro e w2 ⟨rfl, rfl⟩
      by_cases hin : 0 ≤ v ∧ v < (S.length : Int)
      · have hb : inB v 0 ((S.length : Int) - 1) = true := (inB_iff ..).2 ⟨hin.1, by omega⟩
        rw [hb]
        clear hb
        rcases hpre.out with ⟨rfl, rfl⟩ | ⟨u, hi1, hu, rfl⟩
        · have hv : Hid (rsU S.length (v + 1) (F.drop (0 + 1)) = rsB S F) := by unfold Hid; rw [← hrs.out, hat.out, decide_eq_true (by omega), Bool.true_and]
          go_wp2
          go_roundw
          case rel => exact ⟨0 + 1, v + 1, by omega, by go_num, .inr ⟨v, by omega, by simpa using hFih.out, rfl⟩, by omega, by omega, hv.out, (by repeat (first | exact Below.refl _ _ | assumption | refine Below.drew ?_ | refine below_drewN ?_ _ | refine Below.alloc' ?_ _ | (refine Below.setCell ?_ (by first | omega | (simp; done) | (simp; omega) | exact Below.size (by assumption) | exact Nat.le_trans (Below.size (by assumption)) (by simp)) _) | (refine Below.via' ?_ (by assumption)) | (refine Below.alloc ?_ (by first | omega | (simp; done) | (simp; omega) | exact Below.size (by assumption) | exact Nat.le_trans (Below.size (by assumption)) (by simp)) _) | (refine Below.via ?_ (by assumption) (by first | omega | (simp; done) | (simp; omega) | exact Below.size (by assumption) | exact Nat.le_trans (Below.size (by assumption)) (by simp)))))⟩
          case measure => simp [intOf]; omega
        · obtain ⟨bl2, off2, u2, e2, hbl2, hu2, hc1⟩ := (hFh.out.below hBr).2.2.int (i := i - 1) (by omega)
          injection e2 with e2
          injection e2 with e2 e3
          subst e2 e3
          obtain rfl := Option.some.inj (hu2.symm.trans hu)
          have hpos : (0 : Int) < (i : Int) := by omega
          have hge : (0 : Int) ≤ (i : Int) - 1 := by omega
          have hlt2 : (i : Int) - 1 < (F.length : Int) := by omega
          replace hu := Lib.hid hu
          replace hu2 := Lib.hid hu2
          by_cases h1 : v ≤ u2
          · have hv : Hid (rsB S F = false) := by unfold Hid; rw [← hrs.out, hat.out, decide_eq_false (by omega)]; rfl
            go_wp2
            go_ret
            exact ⟨ret_bool hv.out.symm, (by repeat (first | exact Below.refl _ _ | assumption | refine Below.drew ?_ | refine below_drewN ?_ _ | refine Below.alloc' ?_ _ | (refine Below.setCell ?_ (by first | omega | (simp; done) | (simp; omega) | exact Below.size (by assumption) | exact Nat.le_trans (Below.size (by assumption)) (by simp)) _) | (refine Below.via' ?_ (by assumption)) | (refine Below.alloc ?_ (by first | omega | (simp; done) | (simp; omega) | exact Below.size (by assumption) | exact Nat.le_trans (Below.size (by assumption)) (by simp)) _) | (refine Below.via ?_ (by assumption) (by first | omega | (simp; done) | (simp; omega) | exact Below.size (by assumption) | exact Nat.le_trans (Below.size (by assumption)) (by simp)))))⟩
          · have hv : Hid (rsU S.length (v + 1) (F.drop (i + 1)) = rsB S F) := by unfold Hid; rw [← hrs.out, hat.out, decide_eq_true (by omega), Bool.true_and]
            go_wp2
            go_roundw
            case rel => exact ⟨i + 1, v + 1, by omega, by go_num, .inr ⟨v, by omega, by simpa using hFih.out, rfl⟩, by omega, by omega, hv.out, (by repeat (first | exact Below.refl _ _ | assumption | refine Below.drew ?_ | refine below_drewN ?_ _ | refine Below.alloc' ?_ _ | (refine Below.setCell ?_ (by first | omega | (simp; done) | (simp; omega) | exact Below.size (by assumption) | exact Nat.le_trans (Below.size (by assumption)) (by simp)) _) | (refine Below.via' ?_ (by assumption)) | (refine Below.alloc ?_ (by first | omega | (simp; done) | (simp; omega) | exact Below.size (by assumption) | exact Nat.le_trans (Below.size (by assumption)) (by simp)) _) | (refine Below.via ?_ (by assumption) (by first | omega | (simp; done) | (simp; omega) | exact Below.size (by assumption) | exact Nat.le_trans (Below.size (by assumption)) (by simp)))))⟩
            case measure => simp [intOf]; omega
      · have hb : inB v 0 ((S.length : Int) - 1) = false := by
          cases h : inB v 0 ((S.length : Int) - 1) with
          | false => rfl
          | true => exact absurd ⟨((inB_iff ..).1 h).1, by have := ((inB_iff ..).1 h).2; omega⟩ hin
        have hv : Hid (rsB S F = false) := by unfold Hid; rw [← hrs.out, hat.out, decide_eq_false (by omega)]; rfl
        rw [hb]
        clear hb
        go_wp2
        go_ret
        exact ⟨ret_bool hv.out.symm, (by repeat (first | exact Below.refl _ _ | assumption | refine Below.drew ?_ | refine below_drewN ?_ _ | refine Below.alloc' ?_ _ | (refine Below.setCell ?_ (by first | omega | (simp; done) | (simp; omega) | exact Below.size (by assumption) | exact Nat.le_trans (Below.size (by assumption)) (by simp)) _) | (refine Below.via' ?_ (by assumption)) | (refine Below.alloc ?_ (by first | omega | (simp; done) | (simp; omega) | exact Below.size (by assumption) | exact Nat.le_trans (Below.size (by assumption)) (by simp)) _) | (refine Below.via ?_ (by assumption) (by first | omega | (simp; done) | (simp; omega) | exact Below.size (by assumption) | exact Nat.le_trans (Below.size (by assumption)) (by simp)))))⟩
    · have hij : i = F.length := by omega
      subst hij
      have hv : Hid (rsB S F = true) := by unfold Hid; rw [← hrs.out]; exact rs_end
      clear hrs hpre
      go_wp2
      go_ret
      exact ⟨ret_bool hv.out.symm, hBr⟩
end Go.Proofs.YtgkaalonmkcclaaDoor

namespace Go.Proofs.YtgkaalonmkcclaaDoor
open Go.RowKit

/-- Is it a geography? -/
def geB (P : List Int) : Bool := inB P.length 1 30 && decide (P[0]? = some (-1)) && (List.range P.length).all fun i => decide (i = 0) || inB (P.getD i 0) 0 ((i : Int) - 1)
theorem ge_short {P : List Int} (h : P.length = 0 ∨ 30 < P.length) : geB P = false := by
  unfold geB
  rw [(inB_no _ _ _).2 (by omega)]
  rfl
theorem ge_root {P : List Int} (h : P[0]? ≠ some (-1)) : geB P = false := by
  unfold geB
  rw [decide_eq_false h, Bool.and_false]
  rfl
theorem ge_bad {P : List Int} {i : Nat} {v : Int} (h1 : 1 ≤ i) (h : P[i]? = some v) (hb : ¬ (0 ≤ v ∧ v < i)) : geB P = false := by
  unfold geB
  rw [Bool.and_eq_false_iff]
  right
  rw [List.all_eq_false]
  refine ⟨i, List.mem_range.2 (List.getElem?_eq_some_iff.1 h).1, ?_⟩
  rw [List.getD_eq_getElem?_getD, h, Option.getD_some, (inB_no _ _ _).2 (by omega), decide_eq_false (by omega)]
  simp
theorem ge_ok {P : List Int} (h0 : 1 ≤ P.length) (h1 : P.length ≤ 30) (h2 : P[0]? = some (-1)) (h : ∀ i, 1 ≤ i → i < P.length → ∃ v, P[i]? = some v ∧ 0 ≤ v ∧ v < i) : geB P = true := by
  unfold geB
  rw [(inB_iff _ _ _).2 ⟨by omega, by omega⟩, decide_eq_true h2, Bool.and_true, Bool.true_and, List.all_eq_true]
  intro i hi
  rcases Nat.eq_zero_or_pos i with e | e
  · rw [decide_eq_true e]; rfl
  · obtain ⟨v, hv, a, b⟩ := h i e (List.mem_range.1 hi)
    rw [List.getD_eq_getElem?_getD, hv, Option.getD_some, (inB_iff _ _ _).2 ⟨a, by omega⟩, Bool.or_true]
theorem ge_len {P : List Int} (h : geB P = true) : 1 ≤ P.length ∧ P.length ≤ 30 := by
  unfold geB at h
  simp only [Bool.and_eq_true] at h
  have := (inB_iff _ _ _).1 h.1.1
  omega
theorem ge_zero {P : List Int} (h : geB P = true) : P[0]? = some (-1) := by
  unfold geB at h
  simp only [Bool.and_eq_true, decide_eq_true_eq] at h
  exact h.1.2
theorem ge_par {P : List Int} (h : geB P = true) {i : Nat} (h1 : 1 ≤ i) (hi : i < P.length) : ∃ p : Nat, P[i]? = some (p : Int) ∧ p < i := by
  unfold geB at h
  simp only [Bool.and_eq_true] at h
  have := List.all_eq_true.1 h.2 i (List.mem_range.2 hi)
  rw [decide_eq_false (by omega), Bool.false_or, inB_iff, List.getD_eq_getElem?_getD, List.getElem?_eq_getElem hi, Option.getD_some] at this
  exact ⟨P[i].toNat, by rw [List.getElem?_eq_getElem hi]; congr 1; omega, by omega⟩

/-- An area and its ancestors, the area first; the path to it. -/
def upW (P : List Int) (i : Nat) : List Int := (i : Int) :: (if _h : i ≠ 0 ∧ (P.getD i 0).toNat < i then upW P (P.getD i 0).toNat else [])
termination_by i
decreasing_by exact _h.2
def ptL (P : List Int) (i : Nat) : List Int := (upW P i).reverse
def dpN (P : List Int) (i : Nat) : Nat := (ptL P i).length - 1
theorem upW_zero (P : List Int) : upW P 0 = [0] := by rw [upW]; simp
theorem upW_step {P : List Int} {i p : Nat} (h : P[i]? = some (p : Int)) (hp : p < i) : upW P i = (i : Int) :: upW P p := by
  rw [upW]
  have e : (P.getD i 0).toNat = p := by rw [List.getD_eq_getElem?_getD, h]; simp
  rw [e, dif_pos ⟨by omega, hp⟩]
theorem pt_zero (P : List Int) : ptL P 0 = [0] := by unfold ptL; rw [upW_zero]; rfl
theorem pt_step {P : List Int} {i p : Nat} (h : P[i]? = some (p : Int)) (hp : p < i) : ptL P i = ptL P p ++ [(i : Int)] := by unfold ptL; rw [upW_step h hp, List.reverse_cons]
theorem dp_zero (P : List Int) : dpN P 0 = 0 := by unfold dpN; rw [pt_zero]; rfl
theorem pt_len (P : List Int) (i : Nat) : (ptL P i).length = dpN P i + 1 := by
  have : 1 ≤ (ptL P i).length := by unfold ptL; rw [upW]; simp
  unfold dpN
  omega
theorem dp_step {P : List Int} {i p : Nat} (h : P[i]? = some (p : Int)) (hp : p < i) : dpN P i = dpN P p + 1 := by
  have := pt_len P i
  rw [pt_step h hp, List.length_append, pt_len] at this
  simp at this
  omega
/-- Areas by their parents. -/
theorem ge_ind {P : List Int} (h : geB P = true) {Q : Nat → Prop} (h0 : Q 0) (h1 : ∀ i p : Nat, i < P.length → P[i]? = some (p : Int) → p < i → Q p → Q i) : ∀ i, i < P.length → Q i := by
  intro i
  induction i using Nat.strongRecOn with
  | _ i ih =>
    intro hi
    rcases Nat.eq_zero_or_pos i with e | e
    · subst e; exact h0
    · obtain ⟨p, hp, hl⟩ := ge_par h e hi
      exact h1 i p hi hp hl (ih p hl (by omega))
theorem dp_le {P : List Int} (h : geB P = true) {i : Nat} (hi : i < P.length) : dpN P i ≤ i := by
  refine ge_ind h (Q := fun i => dpN P i ≤ i) (by rw [dp_zero]; omega) (fun i p _ h1 h2 h3 => ?_) i hi
  have := dp_step h1 h2
  show _ ≤ _
  have h3' : dpN P p ≤ p := h3
  omega
theorem pt_mem {P : List Int} (h : geB P = true) {i : Nat} (hi : i < P.length) : ∀ x ∈ ptL P i, 0 ≤ x ∧ x ≤ i := by
  refine ge_ind h (Q := fun i => ∀ x ∈ ptL P i, 0 ≤ x ∧ x ≤ (i : Int)) (by rw [pt_zero]; simp) (fun i p _ h1 h2 h3 => ?_) i hi
  intro x hx
  rw [pt_step h1 h2, List.mem_append, List.mem_singleton] at hx
  rcases hx with hx | hx
  · have := h3 x hx
    omega
  · omega
theorem pt_last (P : List Int) {i : Nat} : (ptL P i)[dpN P i]? = some (i : Int) := by
  have e : dpN P i = (ptL P i).length - 1 := rfl
  rw [e, ← List.getLast?_eq_getElem?]
  unfold ptL
  rw [upW]
  simp
/-- An ancestor, or -1. -/
def anZ (P : List Int) (i : Nat) (l : Int) : Int := if 0 ≤ l ∧ l ≤ dpN P i then (ptL P i).getD l.toNat 0 else -1
theorem an_low {P : List Int} {i : Nat} {l : Int} (h : l < 0) : anZ P i l = -1 := if_neg (by omega)
theorem an_high {P : List Int} {i : Nat} {l : Int} (h : (dpN P i : Int) < l) : anZ P i l = -1 := if_neg (by omega)
theorem an_at {P : List Int} {i l : Nat} {v : Int} (h : (ptL P i)[l]? = some v) : anZ P i l = v := by
  have := (List.getElem?_eq_some_iff.1 h).1
  rw [pt_len] at this
  unfold anZ
  rw [if_pos (by omega), List.getD_eq_getElem?_getD, Int.toNat_natCast, h]
  rfl
theorem an_pre {P : List Int} {i j l : Nat} (h : ptL P j <+: ptL P i) (hl : dpN P j = l) : anZ P i l = j := by
  refine an_at ?_
  obtain ⟨t, ht⟩ := h
  rw [← ht, List.getElem?_append_left (by rw [pt_len]; omega), ← hl]
  exact pt_last P
theorem an_bd {P : List Int} (h : geB P = true) {i : Nat} (hi : i < P.length) (l : Int) : -1 ≤ anZ P i l ∧ anZ P i l ≤ 29 ∧ (0 ≤ anZ P i l ↔ 0 ≤ l ∧ l ≤ dpN P i) := by
  have hl := ge_len h
  unfold anZ
  by_cases hk : 0 ≤ l ∧ l ≤ dpN P i
  · rw [if_pos hk]
    have hlt : l.toNat < (ptL P i).length := by rw [pt_len]; omega
    rw [List.getD_eq_getElem?_getD, List.getElem?_eq_getElem hlt, Option.getD_some]
    have := pt_mem h hi _ (List.getElem_mem hlt)
    refine ⟨by omega, by omega, ⟨fun _ => hk, fun _ => this.1⟩⟩
  · rw [if_neg hk]
    exact ⟨by omega, by omega, ⟨fun h => by omega, fun h => absurd h hk⟩⟩

/-- The numbers below k that a test takes. -/
def selK (p : Nat → Bool) (k : Nat) : List Int := ((List.range k).filter p).map fun i : Nat => (i : Int)
theorem sel_zero (p : Nat → Bool) : selK p 0 = [] := rfl
theorem sel_yes {p : Nat → Bool} {k : Nat} (h : p k = true) : selK p (k + 1) = selK p k ++ [(k : Int)] := by unfold selK; rw [List.range_succ, List.filter_append]; simp [h]
theorem sel_no {p : Nat → Bool} {k : Nat} (h : p k = false) : selK p (k + 1) = selK p k := by unfold selK; rw [List.range_succ, List.filter_append]; simp [h]
theorem sel_len (p : Nat → Bool) (k : Nat) : (selK p k).length ≤ k := by
  unfold selK
  rw [List.length_map]
  exact Nat.le_trans (List.length_filter_le _ _) (by simp)
theorem sel_congr {p q : Nat → Bool} {k : Nat} (h : ∀ i, i < k → p i = q i) : selK p k = selK q k := by
  unfold selK
  rw [List.filter_congr (fun i hi => h i (List.mem_range.1 hi))]
theorem sel_mem {p : Nat → Bool} {k : Nat} {x : Int} : x ∈ selK p k ↔ ∃ i : Nat, x = (i : Int) ∧ i < k ∧ p i = true := by
  unfold selK
  simp only [List.mem_map, List.mem_filter, List.mem_range]
  constructor
  · rintro ⟨i, ⟨a, b⟩, rfl⟩; exact ⟨i, rfl, a, b⟩
  · rintro ⟨i, rfl, a, b⟩; exact ⟨i, ⟨a, b⟩, rfl⟩
/-- The places that hold a number. -/
def eqP (L : List Int) (n : Int) : Nat → Bool := fun i => decide (L[i]? = some n)
def awL (L : List Int) (n : Int) : List Int := selK (eqP L n) L.length
theorem eqP_at {L : List Int} {n v : Int} {i : Nat} (h : L[i]? = some v) : eqP L n i = decide (v = n) := by unfold eqP; rw [h]; simp
/-- Depths, counts of children; leaves, levels. -/
def dpL (P : List Int) : List Int := (List.range P.length).map fun i : Nat => (dpN P i : Int)
def cnK (P : List Int) (k i : Nat) : Int := (selK (eqP P i) k).length
def cnL (P : List Int) : List Int := (List.range P.length).map fun i : Nat => cnK P P.length i
def lvL (P : List Int) (l : Int) : List Int := selK (fun i => decide ((dpN P i : Int) = l)) P.length
def lfP (P : List Int) : Nat → Bool := fun i => decide ((awL P i).length = 0)
def lfL (P : List Int) : List Int := selK (lfP P) P.length
theorem dpL_len (P : List Int) : (dpL P).length = P.length := by unfold dpL; simp
theorem cnL_len (P : List Int) : (cnL P).length = P.length := by unfold cnL; simp
theorem dpL_at {P : List Int} {i : Nat} (h : i < P.length) : (dpL P)[i]? = some (dpN P i : Int) := by unfold dpL; simp [h]
theorem cnL_at {P : List Int} {i : Nat} (h : i < P.length) : (cnL P)[i]? = some (cnK P P.length i) := by unfold cnL; simp [h]
theorem lv_aw (P : List Int) (l : Int) : awL (dpL P) l = lvL P l := by
  unfold awL lvL
  rw [dpL_len]
  refine sel_congr fun i hi => ?_
  rw [eqP_at (dpL_at hi)]
theorem lf_aw (P : List Int) : awL (cnL P) 0 = lfL P := by
  unfold awL lfL
  rw [cnL_len]
  refine sel_congr fun i hi => ?_
  rw [eqP_at (cnL_at hi)]
  unfold lfP cnK awL
  rw [decide_eq_decide]
  omega
theorem gcn_zero (P : List Int) (h : geB P = true) (i : Nat) : cnK P 1 i = 0 := by
  unfold cnK
  rw [sel_no (by rw [eqP_at (ge_zero h)]; exact decide_eq_false (by omega)), sel_zero]
  rfl
theorem gcn_yes {P : List Int} {k p : Nat} (h : P[k]? = some (p : Int)) : cnK P (k + 1) p = cnK P k p + 1 := by
  unfold cnK
  rw [sel_yes (by rw [eqP_at h]; exact decide_eq_true rfl), List.length_append]
  simp
theorem gcn_no {P : List Int} {k p q : Nat} (h : P[k]? = some (p : Int)) (hq : q ≠ p) : cnK P (k + 1) q = cnK P k q := by
  unfold cnK
  rw [sel_no (by rw [eqP_at h]; exact decide_eq_false (by omega))]
theorem gcn_bd (P : List Int) (k i : Nat) : 0 ≤ cnK P k i ∧ cnK P k i ≤ k := by
  have := sel_len (eqP P i) k
  unfold cnK
  omega

/-- What two paths have in common, from the root on; its last area. -/
def cpL : List Int → List Int → List Int
  | a :: r, b :: s => if a = b then a :: cpL r s else []
  | _, _ => []
def mtZ (P : List Int) (i k : Nat) : Int := (cpL (ptL P i) (ptL P k)).getLastD 0
theorem cp_same : ∀ a : List Int, cpL a a = a
  | [] => rfl
  | a :: r => by simp [cpL, cp_same r]
theorem cp_comm : ∀ a b : List Int, cpL a b = cpL b a
  | [], [] => rfl
  | [], b :: s => rfl
  | a :: r, [] => rfl
  | a :: r, b :: s => by
    unfold cpL
    by_cases h : a = b
    · subst h; rw [if_pos rfl, if_pos rfl, cp_comm r s]
    · rw [if_neg h, if_neg (fun e => h e.symm)]
theorem cp_snoc {c : Int} : ∀ {a b : List Int}, c ∉ b → cpL (a ++ [c]) b = cpL a b
  | [], [], _ => rfl
  | [], b :: s, h => by
    simp only [List.mem_cons, not_or] at h
    show cpL [c] (b :: s) = []
    unfold cpL
    rw [if_neg h.1]
  | a :: r, [], _ => rfl
  | a :: r, b :: s, h => by
    simp only [List.mem_cons, not_or] at h
    simp only [List.cons_append, cpL]
    rw [cp_snoc h.2]
theorem mt_same (P : List Int) (i : Nat) : mtZ P i i = i := by
  unfold mtZ
  rw [cp_same, List.getLastD_eq_getLast?]
  unfold ptL
  rw [upW]
  simp
theorem mt_comm (P : List Int) (i k : Nat) : mtZ P i k = mtZ P k i := by unfold mtZ; rw [cp_comm]
theorem mt_up {P : List Int} (hg : geB P = true) {i p k : Nat} (h : P[i]? = some (p : Int)) (hp : p < i) (hk : k < P.length) (hik : k < i) : mtZ P i k = mtZ P p k := by
  unfold mtZ
  rw [pt_step h hp, cp_snoc]
  intro hm
  have := pt_mem hg hk _ hm
  omega
theorem cp_take : ∀ (a b : List Int) (n : Nat) (x : Int), n = (cpL (a.take n) (b.take n)).length → a[n]? = some x → b[n]? = some x → cpL (a.take (n + 1)) (b.take (n + 1)) = cpL (a.take n) (b.take n) ++ [x]
  | [], b, n, x, _, h, _ => by simp at h
  | a :: r, [], n, x, _, _, h => by simp at h
  | a :: r, b :: s, 0, x, _, h1, h2 => by
    simp at h1 h2
    subst h1 h2
    simp [cpL]
  | a :: r, b :: s, n + 1, x, h, h1, h2 => by
    simp only [List.take_succ_cons, cpL] at h ⊢
    by_cases e : a = b
    · subst e
      rw [if_pos rfl] at h ⊢
      rw [if_pos rfl]
      simp only [List.length_cons, Nat.add_right_cancel_iff, List.getElem?_cons_succ, List.cons_append, List.cons.injEq, true_and] at h h1 h2 ⊢
      have := cp_take r s n x h h1 h2
      simpa using this
    · rw [if_neg e] at h
      simp at h
theorem cp_end : ∀ (a b : List Int) (n : Nat), n = (cpL (a.take n) (b.take n)).length → (n = a.length ∨ n = b.length ∨ ∃ x y, a[n]? = some x ∧ b[n]? = some y ∧ x ≠ y) → cpL a b = cpL (a.take n) (b.take n)
  | [], b, n, h, _ => by simp [cpL]
  | a :: r, [], n, h, _ => by simp [cpL]
  | a :: r, b :: s, 0, h, hk => by
    rcases hk with hk | hk | ⟨x, y, h1, h2, hne⟩
    · simp at hk
    · simp at hk
    · simp at h1 h2
      subst h1 h2
      simp [cpL, hne]
  | a :: r, b :: s, n + 1, h, hk => by
    simp only [List.take_succ_cons, cpL] at h ⊢
    by_cases e : a = b
    · subst e
      rw [if_pos rfl] at h ⊢
      rw [if_pos rfl]
      congr 1
      refine cp_end r s n (by simpa using h) ?_
      simpa using hk
    · rw [if_neg e] at h
      simp at h

/-- One step of a sum, and all steps above k. -/
def suS (P : List Int) (V : List Int) (i : Nat) : List Int := V.set (P.getD i 0).toNat (wrap64 (V.getD (P.getD i 0).toNat 0 + V.getD i 0))
def suK (P : List Int) (V : List Int) : Nat → List Int
  | 0 => V
  | n + 1 => suS P (suK P V n) (V.length - 1 - n)
def suL (P V : List Int) : List Int := suK P V (V.length - 1)
theorem suS_at {P V : List Int} {i p : Nat} {a b : Int} (hp : P[i]? = some (p : Int)) (ha : V[p]? = some a) (hb : V[i]? = some b) : suS P V i = V.set p (wrap64 (a + b)) := by
  unfold suS
  rw [show P.getD i 0 = (p : Int) by rw [List.getD_eq_getElem?_getD, hp]; rfl, Int.toNat_natCast, List.getD_eq_getElem?_getD, ha, List.getD_eq_getElem?_getD, hb]
  rfl
theorem suK_len (P V : List Int) : ∀ n, (suK P V n).length = V.length
  | 0 => rfl
  | n + 1 => by unfold suK suS; rw [List.length_set, suK_len]
theorem suL_len (P V : List Int) : (suL P V).length = V.length := suK_len P V _
end Go.Proofs.YtgkaalonmkcclaaDoor
