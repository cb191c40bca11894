/- What the laws' rows of chapter 2 share: a list of variables and a list of integers that come in are opened. -/
import Derived.Test.YtcmfoclalcmamabGreatDoorSchN
import Derived.OpenShut
import Derived.Deep.SlicePairs
namespace Go.Proofs.YtcmfoclalcmamabGreatDoor
open Go.ChangeShapes Go.WideShapes Go.ChangeAt Go.RowKit
open Go.Joins
set_option maxRecDepth 100000

theorem own : ownKnob Tryz.prog.godebug = none := by kernel_rfl
theorem laidOut : laidOutB Tryz.prog = true := by kernel_rfl
theorem cInt : Tryz.prog.cellsOf 3 = 1 := by kernel_rfl
theorem cStr : Tryz.prog.cellsOf 9 = 1 := by kernel_rfl
/-- The cells of a list of integers that comes in. -/
theorem open_intC {H : Type} {enc : TypeId × Value → H} {W : World} {fuel : Nat} {cs : List Value} {z : DataW H × List MemPlace}
    (hf : DataW.trod enc Tryz.prog W 0 (fun _ => true) true fuel 26 cs = some z) : ∃ x cap L, cs = [.slice x L.length cap] ∧ L.length ≤ 9223372036854775807 ∧ Hid (∀ n ∈ L, IsI64 n) ∧ Hid (Rd W x (iC L)) := by
  rcases open_ints Tryz.underlying26 Tryz.underlying3 cInt hf with ⟨hcs, _⟩ | ⟨a, len, cap, zs, hcs, _, hl, hm, hz, _, hc, hw⟩
  · exact ⟨none, 0, [], hcs, by simp, (fun q hq => by cases hq), Or.inl rfl⟩
  · simp only [if_true] at hz
    have hlen : (zs.take len).length = len := by rw [List.length_take]; omega
    refine ⟨some a, cap, zs.take len, by rw [hlen]; exact hcs, by rw [hlen]; unfold maxLen at hm; omega, fun n hn => isI64_of_wf (hw n (List.mem_of_mem_take hn)), ?_⟩
    by_cases h0 : len = 0
    · subst h0
      exact Or.inl (by simp [iC])
    obtain ⟨b, off, spot⟩ := a
    have hc0 := hc 0 (by omega)
    have hspot : spot = none := by simpa [Addr.add] using World.cell?_spot hc0
    subst hspot
    have hblk : b < W.heap.size := World.block_lt_of_cell? W _ (by simpa [Addr.add] using hc0)
    refine Or.inr ⟨b, off, rfl, hblk, fun j u hj => ?_⟩
    have hjl : j < len := by
      have := (List.getElem?_eq_some_iff.1 hj).1
      rw [iC_len, hlen] at this
      exact this
    have hzj : zs[j]? = some (zs[j]'(by omega)) := List.getElem?_eq_getElem (by omega)
    have e : (zs.take len)[j]? = some (zs[j]'(by omega)) := by rw [List.getElem?_take, if_pos hjl]; exact hzj
    rw [iC_at e] at hj
    cases hj
    have k0 := hc j (by omega)
    rw [addr_add, List.getD, hzj] at k0
    exact k0
/-- A list of integers that comes in. -/
theorem open_intS {H : Type} {enc : TypeId × Value → H} {W : World} {base : Nat} {v : Value} {d : DataW H} {p : List MemPlace} (hv : Value.okWide Tryz.prog W .any base 26 v)
    (h : DataW.Trod enc Tryz.prog W 0 (fun _ => true) true 26 v d p) : ∃ x cap L, v = .slice x L.length cap ∧ L.length ≤ 9223372036854775807 ∧ Hid (∀ n ∈ L, IsI64 n) ∧ Hid (Rd W x (iC L)) := by
  obtain ⟨a0, len, cap, rfl⟩ := okWide_slice Tryz.underlying26 hv
  obtain ⟨fuel, hf⟩ := h
  obtain ⟨x, cap', L, hcs, r⟩ := open_intC hf
  simp only [Value.cells] at hcs
  injection hcs with hcs
  exact ⟨x, cap', L, hcs, r⟩
/-- A string that comes in. -/
theorem open_str {H : Type} {enc : TypeId × Value → H} {W : World} {base : Nat} {v : Value} {d : DataW H} {p : List MemPlace} (hv : Value.okWide Tryz.prog W .any base 9 v)
    (h : DataW.Trod enc Tryz.prog W 0 (fun _ => true) true 9 v d p) : ∃ s : ByteArray, v = .string s ∧ s.size ≤ 9223372036854775807 := by
  obtain ⟨s, rfl⟩ := okWide_string Tryz.underlying9 hv
  obtain ⟨fuel, hf⟩ := h
  obtain ⟨x, e0, _, h0⟩ := DataW.trod_string Tryz.underlying9 hf
  simp [Value.cells] at e0
  subst e0
  exact ⟨s, rfl, by unfold maxLen at h0; omega⟩
/-- An integer that comes in. -/
theorem open_int {H : Type} {enc : TypeId × Value → H} {W : World} {v : Value} {d : DataW H} {p : List MemPlace}
    (h : DataW.Trod enc Tryz.prog W 0 (fun _ => true) true 3 v d p) (hv : ∃ n, v = .int .i64 n) : ∃ n : Int, v = .int .i64 n ∧ IsI64 n := by
  obtain ⟨n, rfl⟩ := hv
  obtain ⟨fuel, hf⟩ := h
  obtain ⟨x, e0, _, h0⟩ := DataW.trod_int Tryz.underlying3 hf
  simp [Value.cells] at e0
  subst e0
  exact ⟨n, rfl, isI64_of_wf h0⟩
end Go.Proofs.YtcmfoclalcmamabGreatDoor
