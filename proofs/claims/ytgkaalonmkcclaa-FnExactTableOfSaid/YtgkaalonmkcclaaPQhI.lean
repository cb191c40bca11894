import Derived.Test.YtgkaalonmkcclaaPQhH
import Derived.Test.YtgkaalonmkcclaaSchV
import Derived.Test.YtgkaalonmkcclaaApp
import Derived.Test.YtgkaalonmkcclaaEdV
import Derived.Test.YtgkaalonmkcclaaAtJ
import Derived.Test.YtgkaalonmkcclaaPQhA
namespace Go.Proofs.Ytgkaalonmkcclaa
open Go.RowKit
set_option maxRecDepth 100000

/-- The array of the levels that are met. -/
def UsedAt (w : World) (g : Nat) (t : TypeId) (G : List Int) : Prop := ∃ cs : Array Value, Wb w g t cs ∧ cs.size = 8 ∧ ∀ j : Nat, j < 8 → cs[j]? = some (.bool (decide ((j : Int) ∈ G)))
theorem UsedAt.start (w : World) (t : TypeId) : UsedAt (w.alloc (.cells #[.bool false, .bool false, .bool false, .bool false, .bool false, .bool false, .bool false, .bool false] t)) w.heap.size t [] := by
  refine ⟨_, Wb.new w t _, rfl, fun j hj => ?_⟩
  have : j = 0 ∨ j = 1 ∨ j = 2 ∨ j = 3 ∨ j = 4 ∨ j = 5 ∨ j = 6 ∨ j = 7 := by omega
  rcases this with rfl | rfl | rfl | rfl | rfl | rfl | rfl | rfl <;> rfl
theorem UsedAt.same {w : World} {g : Nat} {t : TypeId} {G : List Int} {k : Nat} (h : UsedAt w g t G) (hk : (k : Int) ∈ G) : UsedAt w g t (G ++ [(k : Int)]) := by
  obtain ⟨cs, h1, h2, h3⟩ := h
  refine ⟨cs, h1, h2, fun j hj => ?_⟩
  rw [h3 j hj]
  congr 2
  rw [decide_eq_decide, List.mem_append, List.mem_singleton]
  exact ⟨Or.inl, fun h => h.elim id (fun e => e ▸ hk)⟩
theorem UsedAt.put {w : World} {g : Nat} {t : TypeId} {G : List Int} {k : Nat} (h : UsedAt w g t G) (hk : k < 8) : UsedAt (w.setCell ⟨g, k, none⟩ (.bool true)) g t (G ++ [(k : Int)]) := by
  obtain ⟨cs, h1, h2, h3⟩ := h
  refine ⟨_, h1.put k (.bool true), by simpa using h2, fun j hj => ?_⟩
  rw [Array.getElem?_setIfInBounds]
  split
  · rename_i e
    subst e
    rw [if_pos (by omega)]
    simp
  · rename_i e
    rw [h3 j hj]
    congr 2
    rw [decide_eq_decide, List.mem_append, List.mem_singleton]
    exact ⟨Or.inl, fun h => h.elim id (fun e2 => absurd (by omega) e)⟩
theorem UsedAt.facts {w : World} {g : Nat} {t : TypeId} {G : List Int} (h : UsedAt w g t G) {k : Nat} (hk : k < 8) : w.cell? ⟨g, k, none⟩ = some (.bool (decide ((k : Int) ∈ G))) ∧ w.frozen? ⟨g, k, none⟩ = false ∧ g < w.heap.size := by
  obtain ⟨cs, h1, h2, h3⟩ := h
  exact ⟨(h1.read k).trans (h3 k hk), h1.free k, h1.inside⟩
theorem met_step {G : List Int} {i : Nat} {v : Int} (h : G[i]? = some v) : ((metL (G.take (i + 1))).length : Int) = if v ∈ G.take i then ((metL (G.take i)).length : Int) else (metL (G.take i)).length + 1 := by
  rw [take_snoc h, metL_snoc, putL_len]
  by_cases hv : v ∈ metL (G.take i)
  · rw [if_pos hv, if_pos ((metL_mem _ _).1 hv)]
  · rw [if_neg hv, if_neg (fun h => hv ((metL_mem _ _).2 h))]
    omega

end Go.Proofs.Ytgkaalonmkcclaa

namespace Go.Proofs.Ytgkaalonmkcclaa
open Go.RowKit Go.Shelf
set_option maxRecDepth 100000
attribute [local go_sem] Oper.semAt_some

/-- The first i numbers of a list, added to another. -/
def acK (Z L : List Int) : Nat → List Int
  | 0 => Z
  | i + 1 => (acK Z L i).set i (Z.getD i 0 + L.getD i 0)
theorem acK_len (Z L : List Int) : ∀ i, (acK Z L i).length = Z.length
  | 0 => rfl
  | i + 1 => by unfold acK; rw [List.length_set, acK_len]
theorem acK_late (Z L : List Int) : ∀ i j, i ≤ j → (acK Z L i)[j]? = Z[j]?
  | 0, _, _ => rfl
  | i + 1, j, h => by
    unfold acK
    rw [List.getElem?_set, if_neg (by omega)]
    exact acK_late Z L i j (by omega)
theorem acK_early (Z L : List Int) : ∀ i j, j < i → j < Z.length → (acK Z L i)[j]? = some (Z.getD j 0 + L.getD j 0)
  | 0, _, h, _ => by omega
  | i + 1, j, h, hl => by
    unfold acK
    rw [List.getElem?_set]
    by_cases e : i = j
    · subst e
      rw [if_pos rfl, if_pos (by rw [acK_len]; exact hl)]
    · rw [if_neg e]
      exact acK_early Z L i j (by omega) hl
theorem acK_step {Z L : List Int} {i : Nat} {a b : Int} (h : Z[i]? = some a) (k : L[i]? = some b) : acK Z L (i + 1) = (acK Z L i).set i (a + b) := by
  show (acK Z L i).set i _ = _
  rw [List.getD_eq_getElem?_getD, List.getD_eq_getElem?_getD, h, k]
  rfl
/-- Added to zeros, a list is itself. -/
theorem acK_zero (L : List Int) : acK (List.replicate L.length 0) L L.length = L := by
  apply List.ext_getElem?
  intro j
  rcases Nat.lt_or_ge j L.length with h | h
  · rw [acK_early _ _ _ _ h (by simpa using h), List.getElem?_eq_getElem h, List.getD_eq_getElem?_getD, List.getD_eq_getElem?_getD, List.getElem?_replicate, if_pos h, List.getElem?_eq_getElem h]
    simp
  · rw [List.getElem?_eq_none (by rw [acK_len]; simpa using h), List.getElem?_eq_none h]
def cvB (L : List Int) : Bool := decide (L.length ≤ 600) && inR L (-1000000) 1000000
def acB (A B : List Int) : Bool := decide (A.length = B.length) && (cvB A && cvB B)
def acL (A B : List Int) : List Int := eIf (acB A B) (acK A B A.length)
theorem ac_no {A B : List Int} (h : acB A B = false) : acL A B = [] := eIf_f h
theorem ac_no1 {A B : List Int} (h : A.length ≠ B.length) : acB A B = false := by unfold acB; rw [decide_eq_false h]; rfl
theorem ac_no2 {A B : List Int} (h : cvB A = false) : acB A B = false := by unfold acB; rw [h, Bool.false_and, Bool.and_false]
theorem ac_no3 {A B : List Int} (h : cvB B = false) : acB A B = false := by unfold acB; rw [h, Bool.and_false, Bool.and_false]
theorem ac_yes {A B : List Int} (h : A.length = B.length) (k : cvB A = true) (q : cvB B = true) : acB A B = true ∧ acL A B = acK A B A.length := by
  have e : acB A B = true := by unfold acB; rw [decide_eq_true h, k, q]; rfl
  exact ⟨e, eIf_t e⟩
theorem ac_len {A B : List Int} : (acL A B).length ≤ A.length := by
  unfold acL
  cases h : acB A B
  · rw [eIf_f rfl]; simp
  · rw [eIf_t rfl, acK_len]; exact Nat.le_refl _
theorem cv_at {L : List Int} (h : cvB L = true) {i : Nat} {a : Int} (k : L[i]? = some a) : -1000000 ≤ a ∧ a ≤ 1000000 := by
  unfold cvB inR at h
  rw [Bool.and_eq_true, List.all_eq_true] at h
  exact (inB_iff _ _ _).1 (h.2 a (List.mem_of_getElem? k))
theorem cv_len {L : List Int} (h : cvB L = true) : L.length ≤ 600 := by
  unfold cvB at h
  rw [Bool.and_eq_true, decide_eq_true_eq] at h
  exact h.1

theorem iC_setT (L : List Int) (k : Nat) (v : Int) : (iC L).set k (.int .i64 v) = iC (L.set k v) := by unfold iC; rw [List.map_set]
end Go.Proofs.Ytgkaalonmkcclaa

namespace Go.Proofs.Ytgkaalonmkcclaa
open Go.RowKit Go.Shelf
set_option maxRecDepth 100000
attribute [local go_sem] Oper.semAt_some

/-- The places of a list. -/
abbrev AlI (L : List Int) := { j : Nat // j < L.length }
def alM {L : List Int} (pre : List (AlI L)) : List Nat := pre.map (·.1)
def alV (L : List Int) (j : Nat) : Int := L.getD j 0
theorem alV_at {L : List Int} {j : Nat} {v : Int} (h : L[j]? = some v) : alV L j = v := by unfold alV; rw [List.getD_eq_getElem?_getD, h]; rfl
end Go.Proofs.Ytgkaalonmkcclaa

namespace Go.Proofs.Ytgkaalonmkcclaa
open Go.RowKit Go.Shelf
set_option maxRecDepth 100000
attribute [local go_sem] Oper.semAt_some

/-- A list's numbers, at the places of another list, added to sums. -/
def acF (Z L : List Int) (ks : List Nat) : List Int := ks.foldl (fun X k => X.set k (X.getD k 0 + alV L k)) Z
theorem acF_snoc (Z L : List Int) (ks : List Nat) (k : Nat) : acF Z L (ks ++ [k]) = (acF Z L ks).set k ((acF Z L ks).getD k 0 + alV L k) := by unfold acF; rw [List.foldl_append]; rfl
theorem acF_len (Z L : List Int) (ks : List Nat) : (acF Z L ks).length = Z.length := by
  refine rev_ind (P := fun ks => (acF Z L ks).length = Z.length) rfl (fun r k ih => ?_) ks
  rw [acF_snoc, List.length_set]
  exact ih
theorem acF_bd {Z L : List Int} (hZ : ∀ j, -1000000 ≤ Z.getD j 0 ∧ Z.getD j 0 ≤ 1000000) (hL : ∀ j, -1000000 ≤ alV L j ∧ alV L j ≤ 1000000) (ks : List Nat) : ∀ j, -1000000 * ((ks.length : Int) + 1) ≤ (acF Z L ks).getD j 0 ∧ (acF Z L ks).getD j 0 ≤ 1000000 * ((ks.length : Int) + 1) := by
  refine rev_ind (P := fun ks => ∀ j, -1000000 * ((ks.length : Int) + 1) ≤ (acF Z L ks).getD j 0 ∧ (acF Z L ks).getD j 0 ≤ 1000000 * ((ks.length : Int) + 1)) (fun j => ?_) (fun r k ih j => ?_) ks
  · have := hZ j
    show _ ≤ Z.getD j 0 ∧ Z.getD j 0 ≤ _
    simp only [List.length_nil]
    omega
  · rw [acF_snoc, List.getD_eq_getElem?_getD, List.getElem?_set]
    have h1 := ih j
    have h2 := ih k
    have h3 := hL k
    simp only [List.length_append, List.length_cons, List.length_nil]
    split
    · split
      · simp only [Option.getD_some]
        omega
      · simp only [Option.getD_none]
        omega
    · rw [← List.getD_eq_getElem?_getD]
      omega
theorem acF_range (Z L : List Int) : ∀ m, m ≤ Z.length → acF Z L (List.range m) = acK Z L m
  | 0, _ => rfl
  | m + 1, h => by
    rw [List.range_succ, acF_snoc, acF_range Z L m (by omega)]
    show _ = (acK Z L m).set m _
    rw [List.getD_eq_getElem?_getD, acK_late Z L m m (Nat.le_refl _), ← List.getD_eq_getElem?_getD]
    rfl
/-- The sums after j lists. -/
def acS (A B : List Int) : Nat → List Int
  | 0 => List.replicate A.length 0
  | 1 => A
  | _ => acK A B A.length
theorem acS_len (A B : List Int) : ∀ j, (acS A B j).length = A.length
  | 0 => by unfold acS; simp
  | 1 => rfl
  | n + 2 => by show (acK A B A.length).length = _; rw [acK_len]
end Go.Proofs.Ytgkaalonmkcclaa

namespace Go.Proofs.Ytgkaalonmkcclaa
open Go.RowKit Go.Shelf
set_option maxRecDepth 100000
attribute [local go_sem] Oper.semAt_some

theorem own_intA {w : World} {base e g cap n : Nat} {L : List Int} (h : w.ownsRow base e 1 (.slice (some ⟨g, 0, none⟩) n cap) n (iC L)) {j : Nat} (hj : j < n) : w.cell? ⟨g, j, none⟩ = some (.int .i64 (L.getD j 0)) := by
  obtain ⟨u, hu, k⟩ := own_cell h (j := j) (by omega)
  rw [k]
  have e : (iC L)[j]? = (L[j]?).map (fun n => Value.int .i64 n) := by unfold iC; simp
  rw [e] at hu
  rw [List.getD_eq_getElem?_getD]
  cases hq : L[j]? with
  | none => rw [hq] at hu; cases hu
  | some v => rw [hq] at hu; cases hu; rfl
theorem ac_post {w W : World} {n₀ g Bi Bs e n : Nat} {tv : TypeId} {vv : Value} {L : List Int} (B : Nat) (b1 : Boxed W Bi tv vv) (r1 : W.ownsRow g e 1 (.slice (some ⟨g, 0, none⟩) n n) n (iC L)) (hB : Below n₀ w W)
    (hg : n₀ ≤ g) (h1 : Bi ≠ g) (h3 : Bs ≠ g) (j : Nat) (v : Int) :
    KeepsFrom B W (W.setCell ⟨g, j, none⟩ (.int .i64 v)) ∧ KpB n₀ Bs W (W.setCell ⟨g, j, none⟩ (.int .i64 v)) ∧
      ((Boxed (W.setCell ⟨g, j, none⟩ (.int .i64 v)) Bi tv vv ∧ (W.setCell ⟨g, j, none⟩ (.int .i64 v)).ownsRow g e 1 (.slice (some ⟨g, 0, none⟩) n n) n (iC (L.set j v))) ∧ Below n₀ w (W.setCell ⟨g, j, none⟩ (.int .i64 v))) := by
  have a1 := boxed_far b1 ⟨g, j, none⟩ h1 (.int .i64 v)
  have a4 := (r1.stored j (.int .i64 v)).1
  rw [← iC_setA] at a4
  have a5 : Below n₀ W (W.setCell ⟨g, j, none⟩ (.int .i64 v)) := ((Below.refl n₀ W).setCell (p := ⟨g, j, none⟩) hg _)
  exact ⟨(KeepsOthers.setCell _ _ _).from _, ⟨a5, Below.heap_setCell _ _ _ _ h3⟩, ⟨⟨a1, a4⟩, hB.trans a5⟩⟩
theorem zr_bd (n j : Nat) : -1000000 ≤ (List.replicate n (0 : Int)).getD j 0 ∧ (List.replicate n (0 : Int)).getD j 0 ≤ 1000000 := by
  have e : (List.replicate n (0 : Int)).getD j 0 = 0 := by
    rw [List.getD_eq_getElem?_getD, List.getElem?_replicate]
    split <;> rfl
  rw [e]
  omega
theorem ownFrom_obj {β : Type} {B D : Nat} {o : Obj} (hD : D < B) : OwnFrom B (fun (_ : β) W => W.heap[D]? = some o) :=
  fun _ X Y row hs hg hr => (hg.block D (Array.getElem?_eq_some_iff.1 hs).1 (by intro e; have := (hr D e.symm).1; omega)).trans hs
theorem alV_bd {L : List Int} (h : cvB L = true) (j : Nat) : -1000000 ≤ alV L j ∧ alV L j ≤ 1000000 := by
  unfold alV
  rw [List.getD_eq_getElem?_getD]
  cases hq : L[j]? with
  | none => simp
  | some v => exact cv_at h hq
theorem al_cells {w W : World} {x : Option Addr} {L : List Int} (h : IIn w x L) (hb : Below w.heap.size w W) (j : Nat) (hj : j < L.length) : ∃ b off, x = some ⟨b, off, none⟩ ∧ b < w.heap.size ∧ W.cell? ⟨b, off + j, none⟩ = some (.int .i64 (alV L j)) := by
  obtain ⟨bl, off, v, rfl, hbl, hLi, hc0⟩ := h.2.2.int hj
  exact ⟨bl, off, rfl, hbl, by rw [alV_at hLi]; exact (hb.cell (p := ⟨bl, off + j, none⟩) hbl).trans hc0⟩
end Go.Proofs.Ytgkaalonmkcclaa
