/-
  The walks of chapter 3: the program's sorted records.
-/
import Derived.Test.YtdakmdjcmjpogaaRecJ
import Derived.Test.YtdakmdjcmjpogaaRecC
import Derived.Test.YtdakmdjcmjpogaaRecD
import Derived.Test.YtdakmdjcmjpogaaShelf
import Derived.Shelf.SlSortCmp.NoneTotal
import Derived.Lib.QuietBelow
namespace Go.Proofs.Ytdakmdjcmjpogaa
open Go.RowKit
set_option maxRecDepth 100000

theorem grow_of_BD {w w' : World} (h : BD w w') : ∃ q os, w' = Sort.grow (w.drewN q) os := by
  obtain ⟨p, e⟩ := regrown_of_below h.1
  have hd : w.drawn ≤ p.d := by have := h.2; rw [e] at this; exact this
  refine ⟨p.d - w.drawn, p.os, ?_⟩
  rw [e]
  congr 1
  unfold redrawn World.drewN
  congr 1
  omega

section
variable {T0 : List PR}
/-- The records of a list, each with the word that it is among them. -/
def enR (x : {q : PR // q ∈ T0}) : List Value := x.1.cs
def cfR (x y : {q : PR // q ∈ T0}) : Int := rcZ x.1.m y.1.m
theorem enR_len (x : {q : PR // q ∈ T0}) : (enR x).length = 3 := rfl
theorem enR_one (x : {q : PR // q ∈ T0}) : ∀ v ∈ enR x, v.oneCell' = true := by
  intro v hv
  unfold enR PR.cs at hv
  simp only [List.mem_cons, List.not_mem_nil, or_false] at hv
  rcases hv with rfl | rfl | rfl <;> rfl
theorem swoR : Sort.SWO (ltOf (cfR (T0 := T0))) where
  irrefl x := by unfold ltOf cfR; rw [rcZ_self]; rfl
  trans x y z h1 h2 := by
    unfold ltOf cfR at *
    rw [decide_eq_true_eq] at *
    have h3 := rcZ_trans (p := x.1.m) (q := y.1.m) (r := z.1.m) (by omega) (by omega)
    by_cases h0 : rcZ x.1.m z.1.m = 0
    · have e := rcZ_zero h0
      rw [e] at h1
      have := rcZ_neg z.1.m y.1.m
      omega
    · omega
  ntrans x y z h1 h2 := by
    unfold ltOf cfR at *
    rw [decide_eq_false_iff_not] at *
    have n1 := rcZ_neg x.1.m y.1.m
    have n2 := rcZ_neg y.1.m z.1.m
    have n3 := rcZ_neg x.1.m z.1.m
    have := rcZ_trans (p := z.1.m) (q := y.1.m) (r := x.1.m) (by omega) (by omega)
    omega
theorem flat_pC [Inhabited {q : PR // q ∈ T0}] (d : Array {q : PR // q ∈ T0}) : (Sort.flatK enR 3 d).toList = pC (d.toList.map (·.1)) := by
  apply List.ext_getElem?
  intro t
  by_cases ht : t < d.size * 3
  · have h3 : t / 3 < d.size := by omega
    have hq : (d.toList.map (·.1))[t / 3]? = some (d[t / 3]!).1 := by
      rw [List.getElem?_map, Array.getElem?_toList, Array.getElem?_eq_getElem h3, getElem!_pos d (t / 3) h3]
      rfl
    have e : (Sort.flatK enR 3 d).toList[t]? = some ((enR d[t / 3]!)[t % 3]!) := by
      rw [Array.getElem?_toList, Array.getElem?_eq_getElem (by simpa using ht), ← getElem!_pos (Sort.flatK enR 3 d) t (by simpa using ht), Sort.get_flatK _ _ _ _ ht]
    rw [e]
    have hm : t = t / 3 * 3 + t % 3 := by omega
    rcases (by omega : t % 3 = 0 ∨ t % 3 = 1 ∨ t % 3 = 2) with h | h | h
    · rw [h] at hm ⊢
      have := pC_at0 hq
      rw [Nat.add_zero] at hm
      rw [← hm] at this
      rw [this]; rfl
    · rw [h] at hm ⊢
      have := pC_at1 hq
      rw [← hm] at this
      rw [this]; rfl
    · rw [h] at hm ⊢
      have := pC_at2 hq
      rw [← hm] at this
      rw [this]; rfl
  · rw [List.getElem?_eq_none (by simp; omega), List.getElem?_eq_none (by rw [pC_len]; simp; omega)]
theorem holds_own [Inhabited {q : PR // q ∈ T0}] {w : World} {base e g n cap : Nat} {d : Array {q : PR // q ∈ T0}} (h : w.ownsRow base e 3 (.slice (some ⟨g, 0, none⟩) n cap) n (pC (d.toList.map (·.1)))) (hn : d.size = n) : Sort.HoldsK enR 3 w g 0 d := by
  intro j hj
  rw [Sort.size_flatK, hn] at hj
  have hk : (Sort.flatK enR 3 d)[j]? = (pC (d.toList.map (·.1)))[j]? := by rw [← flat_pC, Array.getElem?_toList]
  rw [Nat.zero_add]
  refine ⟨?_, h.frozenAt j⟩
  rw [h.cellAt j (by omega), ← hk, Array.getElem?_eq_getElem (by simp [hn]; omega), getElem!_pos _ j (by simp [hn]; omega)]
  rfl
theorem heap_sort [Inhabited {q : PR // q ∈ T0}] {w : World} {g n : Nat} {os : Array Obj} {cur : Array Value} {e : TypeId} {fr : Nat × Nat} (d : Array {q : PR // q ∈ T0}) (hb : w.heap[g]? = some (.cells cur e fr)) :
    (sortWorldK enR 3 w g 0 n d os).heap[g]? = some (.cells (Sort.putCells id 0 (Sort.flatK enR 3 d) cur) e fr) := by
  have hg : g < w.heap.size := (Array.getElem?_eq_some_iff.1 hb).1
  unfold sortWorldK Sort.putRowK
  rw [Sort.heap_grow_old _ _ (by simpa using hg)]
  simp [Sort.putRow, Sort.mapBlock, Sort.ahead, Array.getElem?_modify, hb, Sort.onCells]
theorem grown_sort [Inhabited {q : PR // q ∈ T0}] {w : World} {g n : Nat} {os : Array Obj} (d : Array {q : PR // q ∈ T0}) : w.grownBy (sortWorldK enR 3 w g 0 n d os) (some g) := by
  unfold sortWorldK Sort.putRowK
  refine ⟨rfl, rfl, rfl, by simp, fun k hk hne => ?_⟩
  rw [Sort.heap_grow_old _ _ (by simpa using hk)]
  have : g ≠ k := fun e => hne (by rw [e])
  simp [Sort.putRow, Sort.mapBlock, Sort.ahead, Array.getElem?_modify, this]
theorem own_sort [Inhabited {q : PR // q ∈ T0}] {w : World} {base e g n m cap : Nat} {os : Array Obj} {xs : List Value} {d : Array {q : PR // q ∈ T0}} (h : w.ownsRow base e 3 (.slice (some ⟨g, 0, none⟩) n cap) n xs) (hn : d.size = n) :
    (sortWorldK enR 3 w g 0 m d os).ownsRow base e 3 (.slice (some ⟨g, 0, none⟩) n cap) n (pC (d.toList.map (·.1))) := by
  rcases h.2 with ⟨h1, _⟩ | ⟨g', cap', cur, hv, hb, hg, h1, h2, h3, h4⟩
  · cases h1
  · injection hv with e1 e2 e3
    injection e1 with e1
    injection e1 with e1
    subst e1 e3
    refine ⟨by rw [pC_len]; simp [hn], Or.inr ⟨g, cap, _, rfl, hb, heap_sort d hg, h1, h2, by simp [Sort.putCells, h3], ?_⟩⟩
    rw [← flat_pC]
    apply List.ext_getElem?
    intro j
    by_cases hj : j < n * 3
    · rw [List.getElem?_take_of_lt hj, Array.getElem?_toList, Array.getElem?_toList]
      have hc : j < cur.size := by rw [h3]; have := Nat.mul_le_mul_right 3 h1; omega
      have hf : j < (Sort.flatK enR 3 d).size := by rw [Sort.size_flatK, hn]; exact hj
      simp only [Sort.putCells, Array.getElem?_mapIdx, Array.getElem?_eq_getElem hc, Option.map_some, Nat.zero_le, true_and, Nat.zero_add, if_pos hf, Nat.sub_zero, id, Array.getElem?_eq_getElem hf]
      rw [getElem!_pos _ j hf]
    · rw [List.getElem?_take_eq_none (by omega), List.getElem?_eq_none (by simp; omega)]
end
end Go.Proofs.Ytdakmdjcmjpogaa
