/- What the laws' rows of chapter 2 share: a list of variables and a list of integers that come in are opened. -/
import Derived.Test.YtgkaalonmkcclabSchN
import Derived.OpenShut
import Derived.Deep.SlicePairs
namespace Go.Proofs.Ytgkaalonmkcclab
open Go.ChangeShapes Go.WideShapes Go.ChangeAt Go.RowKit
open Go.Joins
set_option maxRecDepth 100000

theorem own : ownKnob Try.prog.godebug = none := by kernel_rfl
theorem laidOut : laidOutB Try.prog = true := by kernel_rfl
theorem cInt : Try.prog.cellsOf 3 = 1 := by kernel_rfl
theorem cStr : Try.prog.cellsOf 9 = 1 := by kernel_rfl
theorem cellsV : Try.prog.cellsOf 82 = 2 := by kernel_rfl

/-- A list of variables that comes in. -/
theorem open_vars {H : Type} {enc : TypeId × Value → H} {W : World} {base : Nat} {v : Value} {d : DataW H} {p : List MemPlace} (hv : Value.okWide Try.prog W .any base 22 v)
    (h : DataW.Trod enc Try.prog W 0 (fun _ => true) true 22 v d p) : ∃ x cap S, v = .slice x S.length cap ∧ S.length ≤ 9223372036854775807 ∧ Hid (∀ q ∈ S, q.1.size ≤ 9223372036854775807 ∧ IsI64 q.2) ∧ Hid (Rd W x (vC S)) := by
  obtain ⟨a0, len, cap, rfl⟩ := okWide_slice Try.underlying22 hv
  obtain ⟨fuel, hf⟩ := h
  rcases Deep.open_slice_pairs Try.underlying22 Try.underlying82 cellsV rfl rfl cStr cInt hf with ⟨hcs, _⟩ | ⟨a, len', cap', m, n, V0, V1, D0, D1, P0, P1, hcs, _, hl, hm, hmm, _, hi⟩
  · simp [Value.cells] at hcs
    obtain ⟨rfl, rfl, rfl⟩ := hcs
    exact ⟨none, 0, [], rfl, by simp, (fun q hq => by cases hq), Or.inl rfl⟩
  · simp [Value.cells] at hcs
    obtain ⟨rfl, rfl, rfl⟩ := hcs
    simp only [if_true] at hmm
    subst hmm
    have num : ∀ i, i < m → ∃ (x : ByteArray) (y : Int), V0 i = .string x ∧ V1 i = .int .i64 y ∧ x.size ≤ maxLen ∧ IsI64 y := by
      intro i him
      obtain ⟨_, _, t0, t1⟩ := hi i him
      obtain ⟨x, e0, _, h0⟩ := DataW.trod_string Try.underlying9 t0
      obtain ⟨y, e1, _, h1⟩ := DataW.trod_int Try.underlying3 t1
      simp at e0 e1
      exact ⟨x, y, e0, e1, h0, isI64_of_wf h1⟩
    have hlen : ((List.range len).map fun i => ((match V0 i with | .string x => x | _ => ⟨#[]⟩, match V1 i with | .int _ y => y | _ => 0) : ByteArray × Int)).length = len := by simp
    refine ⟨some a, m, (List.range len).map fun i => (match V0 i with | .string x => x | _ => ⟨#[]⟩, match V1 i with | .int _ y => y | _ => 0), by rw [hlen], by rw [hlen]; unfold maxLen at hm; omega, ?_, ?_⟩
    · intro q hq
      obtain ⟨i, hi1, rfl⟩ := List.mem_map.1 hq
      obtain ⟨x, y, e0, e1, h0, h1⟩ := num i (by have := List.mem_range.1 hi1; omega)
      simp only [e0, e1]
      exact ⟨by unfold maxLen at h0; omega, h1⟩
    by_cases h0 : len = 0
    · subst h0
      exact Or.inl (by simp [vC])
    obtain ⟨b, off, spot⟩ := a
    have hc0 := (hi 0 (by omega)).1
    have hspot : spot = none := by simpa [Addr.add] using World.cell?_spot hc0
    subst hspot
    have hblk : b < W.heap.size := World.block_lt_of_cell? W _ (by simpa [Addr.add] using hc0)
    refine Or.inr ⟨b, off, rfl, hblk, fun j u hj => ?_⟩
    have hjl : j < len * 2 := by
      have := (List.getElem?_eq_some_iff.1 hj).1
      rw [vC_len, hlen] at this
      exact this
    have hat : ∀ i, i < len → ((List.range len).map fun i => ((match V0 i with | .string x => x | _ => ⟨#[]⟩, match V1 i with | .int _ y => y | _ => 0) : ByteArray × Int))[i]? = some (match V0 i with | .string x => x | _ => ⟨#[]⟩, match V1 i with | .int _ y => y | _ => 0) := by
      intro i hil
      rw [List.getElem?_map, List.getElem?_range hil]
      rfl
    rcases (by omega : j = (j / 2) * 2 ∨ j = (j / 2) * 2 + 1) with e | e
    · obtain ⟨k0, k1, _, _⟩ := hi (j / 2) (by omega)
      obtain ⟨x, y, e0, e1, _, _⟩ := num (j / 2) (by omega)
      have := vC_at0 (hat (j / 2) (by omega))
      rw [← e, hj] at this
      simp only [e0] at this
      cases this
      rw [addr_add, e0, ← e] at k0
      exact k0
    · obtain ⟨k0, k1, _, _⟩ := hi (j / 2) (by omega)
      obtain ⟨x, y, e0, e1, _, _⟩ := num (j / 2) (by omega)
      have := vC_at1 (hat (j / 2) (by omega))
      rw [← e, hj] at this
      simp only [e1] at this
      cases this
      rw [addr_add, e1, ← e] at k1
      exact k1

/-- The cells of a list of integers that comes in. -/
theorem open_intC {H : Type} {enc : TypeId × Value → H} {W : World} {fuel : Nat} {cs : List Value} {z : DataW H × List MemPlace}
    (hf : DataW.trod enc Try.prog W 0 (fun _ => true) true fuel 24 cs = some z) : ∃ x cap L, cs = [.slice x L.length cap] ∧ L.length ≤ 9223372036854775807 ∧ Hid (∀ n ∈ L, IsI64 n) ∧ Hid (Rd W x (iC L)) := by
  rcases open_ints Try.underlying24 Try.underlying3 cInt hf with ⟨hcs, _⟩ | ⟨a, len, cap, zs, hcs, _, hl, hm, hz, _, hc, hw⟩
  · exact ⟨none, 0, [], hcs, by simp, (fun q hq => by cases hq), Or.inl rfl⟩
  · simp only [if_true] at hz
    have hlen : (zs.take len).length = len := by rw [List.length_take]; omega
    refine ⟨some a, cap, zs.take len, by rw [hlen]; exact hcs, by rw [hlen]; unfold maxLen at hm; omega, fun n hn => isI64_of_wf (hw n (List.mem_of_mem_take hn)), ?_⟩
    by_cases h0 : len = 0
    · subst h0
      exact Or.inl (by simp [iC])
    obtain ⟨b, off, spot⟩ := a
    have hc0 := hc 0 (by omega)
    have hspot : spot = none := by simpa [Addr.add] using World.cell?_spot hc0
    subst hspot
    have hblk : b < W.heap.size := World.block_lt_of_cell? W _ (by simpa [Addr.add] using hc0)
    refine Or.inr ⟨b, off, rfl, hblk, fun j u hj => ?_⟩
    have hjl : j < len := by
      have := (List.getElem?_eq_some_iff.1 hj).1
      rw [iC_len, hlen] at this
      exact this
    have hzj : zs[j]? = some (zs[j]'(by omega)) := List.getElem?_eq_getElem (by omega)
    have e : (zs.take len)[j]? = some (zs[j]'(by omega)) := by rw [List.getElem?_take, if_pos hjl]; exact hzj
    rw [iC_at e] at hj
    cases hj
    have k0 := hc j (by omega)
    rw [addr_add, List.getD, hzj] at k0
    exact k0
/-- A list of integers that comes in. -/
theorem open_intS {H : Type} {enc : TypeId × Value → H} {W : World} {base : Nat} {v : Value} {d : DataW H} {p : List MemPlace} (hv : Value.okWide Try.prog W .any base 24 v)
    (h : DataW.Trod enc Try.prog W 0 (fun _ => true) true 24 v d p) : ∃ x cap L, v = .slice x L.length cap ∧ L.length ≤ 9223372036854775807 ∧ Hid (∀ n ∈ L, IsI64 n) ∧ Hid (Rd W x (iC L)) := by
  obtain ⟨a0, len, cap, rfl⟩ := okWide_slice Try.underlying24 hv
  obtain ⟨fuel, hf⟩ := h
  obtain ⟨x, cap', L, hcs, r⟩ := open_intC hf
  simp only [Value.cells] at hcs
  injection hcs with hcs
  exact ⟨x, cap', L, hcs, r⟩
/-- A string that comes in. -/
theorem open_str {H : Type} {enc : TypeId × Value → H} {W : World} {base : Nat} {v : Value} {d : DataW H} {p : List MemPlace} (hv : Value.okWide Try.prog W .any base 9 v)
    (h : DataW.Trod enc Try.prog W 0 (fun _ => true) true 9 v d p) : ∃ s : ByteArray, v = .string s ∧ s.size ≤ 9223372036854775807 := by
  obtain ⟨s, rfl⟩ := okWide_string Try.underlying9 hv
  obtain ⟨fuel, hf⟩ := h
  obtain ⟨x, e0, _, h0⟩ := DataW.trod_string Try.underlying9 hf
  simp [Value.cells] at e0
  subst e0
  exact ⟨s, rfl, by unfold maxLen at h0; omega⟩
/-- An integer that comes in. -/
theorem open_int {H : Type} {enc : TypeId × Value → H} {W : World} {v : Value} {d : DataW H} {p : List MemPlace}
    (h : DataW.Trod enc Try.prog W 0 (fun _ => true) true 3 v d p) (hv : ∃ n, v = .int .i64 n) : ∃ n : Int, v = .int .i64 n ∧ IsI64 n := by
  obtain ⟨n, rfl⟩ := hv
  obtain ⟨fuel, hf⟩ := h
  obtain ⟨x, e0, _, h0⟩ := DataW.trod_int Try.underlying3 hf
  simp [Value.cells] at e0
  subst e0
  exact ⟨n, rfl, isI64_of_wf h0⟩
end Go.Proofs.Ytgkaalonmkcclab
