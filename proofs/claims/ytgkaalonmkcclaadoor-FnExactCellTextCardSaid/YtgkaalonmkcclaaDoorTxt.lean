/-
  Lists of texts in memory.
-/
import Derived.Test.YtgkaalonmkcclaaDoorApp
import Derived.Test.YtgkaalonmkcclaaDoorSch
namespace Go.Proofs.YtgkaalonmkcclaaDoor
open Go.RowKit
set_option maxRecDepth 100000

theorem Tryd.infoStr : (Tryd.prog.info? 9).map (fun i => (i.zero, i.size, i.bytes)) = some (some (.string ⟨#[]⟩), 1, 16) := by kernel_rfl
/-- The cells of a list of texts. -/
def tC (L : List ByteArray) : List Value := L.map Value.string
theorem tC_len (L : List ByteArray) : (tC L).length = L.length := by unfold tC; simp
theorem tC_app (A B : List ByteArray) : tC (A ++ B) = tC A ++ tC B := by unfold tC; rw [List.map_append]
theorem tC_one (L : List ByteArray) : ∀ u ∈ tC L, u.oneCell' = true := by
  intro u hu
  obtain ⟨x, _, rfl⟩ := List.mem_map.1 hu
  rfl
theorem tC_at {L : List ByteArray} {i : Nat} {v : ByteArray} (h : L[i]? = some v) : (tC L)[i]? = some (.string v) := by unfold tC; rw [List.getElem?_map, h]; rfl
theorem Rd.oneS (w : World) (t : TypeId) (s : ByteArray) : Rd (w.alloc (.cells #[.string s] t)) (some ⟨w.heap.size, 0, none⟩) (tC [s]) := by
  refine Or.inr ⟨w.heap.size, 0, rfl, by simp, fun j u hj => ?_⟩
  have : j = 0 := by
    have := (List.getElem?_eq_some_iff.1 hj).1
    simp [tC] at this
    exact this
  subst this
  simp [tC] at hj
  subst hj
  rw [World.cell?_alloc_at _ _ _ _ rfl]
  rfl
theorem Rd.text {w : World} {x : Option Addr} {L : List ByteArray} {i : Nat} (h : Rd w x (tC L)) (hi : i < L.length) :
    ∃ b off s, x = some ⟨b, off, none⟩ ∧ b < w.heap.size ∧ L[i]? = some s ∧ w.cell? ⟨b, off + i, none⟩ = some (.string s) := by
  rcases h with h | ⟨b, off, e, hl, hc⟩
  · have := tC_len L
    rw [h] at this
    simp at this
    omega
  · exact ⟨b, off, L[i], e, hl, List.getElem?_eq_getElem hi, hc i _ (tC_at (List.getElem?_eq_getElem hi))⟩

theorem own_some2 {w : World} {base e size n : Nat} {v : Value} {xs : List Value} (h : w.ownsRow base e size v n xs) (hn : 0 < n) : ∃ g cap, v = .slice (some ⟨g, 0, none⟩) n cap := by
  rcases h.2 with ⟨_, h2⟩ | ⟨g, cap, cur, hv, _⟩
  · omega
  · exact ⟨g, cap, hv⟩
/-- One byte, read back as a string. -/
def byteT (n : Int) : ByteArray := ⟨#[UInt8.ofNat n.toNat]⟩
theorem conv_byte (n : Int) (h0 : 0 ≤ n) (h1 : n < 256) : ∀ (W : World) (g : Nat), W.cell? ⟨g, 0, none⟩ = some (.int .u8 n) →
    (convert 88 9 (.slice (some ⟨g, 0, none⟩) 1 1)).run Tryd.prog W = .ok (.string (byteT n)) W := by
  intro W g h
  have e : ((UInt8.ofNat n.toNat).toNat : Int) = n := by simp; omega
  exact run_convert_bytes_back W 88 9 5 ⟨g, 0, none⟩ 1 [UInt8.ofNat n.toNat] Tryd.underlying88 Tryd.underlying5 Tryd.underlying9 (fun j hj => by
    obtain rfl : j = 0 := by simpa using hj
    show W.cell? ((⟨g, 0, none⟩ : Addr).add 0) = some (.int .u8 ((UInt8.ofNat n.toNat).toNat : Int))
    rw [e]
    simpa [Addr.add] using h)
theorem byteT_len (n : Int) : (byteT n).size = 1 := rfl
end Go.Proofs.YtgkaalonmkcclaaDoor
