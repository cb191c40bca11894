/-
  The walks of chapter 5: MeetEdits; the program's and the model's.
-/
import Derived.Test.YtfaobfgckfjnjaaEdK
import Derived.Test.YtfaobfgckfjnjaaEdW
import Derived.Test.YtfaobfgckfjnjaaStp
import Derived.Deep.RegionLaw
namespace Go.Proofs.Ytfaobfgckfjnjaa
open Go.RowKit
set_option maxRecDepth 100000

/-- Three boxes: two edits and the answer's. -/
theorem three_box (w : World) (y z : Option Addr) (n m c d : Nat) (t : TypeId) : ∃ W0, ((w.alloc (.cells #[.slice y n c] t)).alloc (.cells #[.slice z m d] t)).alloc (.cells #[.slice none 0 0] t) = W0 ∧
    Hid (QB W0 w.heap.size y n c) ∧ Hid (QB W0 (w.heap.size + 1) z m d) ∧ Hid (QB W0 (w.heap.size + 2) none 0 0) ∧ Below w.heap.size w W0 ∧ Hid (W0.heap.size = w.heap.size + 3) := by
  have b1 : Below w.heap.size w (w.alloc (.cells #[.slice y n c] t)) := (Below.refl _ _).alloc (Nat.le_refl _) _
  have b2 : Below (w.alloc (.cells #[.slice y n c] t)).heap.size (w.alloc (.cells #[.slice y n c] t)) ((w.alloc (.cells #[.slice y n c] t)).alloc (.cells #[.slice z m d] t)) := (Below.refl _ _).alloc (Nat.le_refl _) _
  have b3 : Below ((w.alloc (.cells #[.slice y n c] t)).alloc (.cells #[.slice z m d] t)).heap.size ((w.alloc (.cells #[.slice y n c] t)).alloc (.cells #[.slice z m d] t)) (((w.alloc (.cells #[.slice y n c] t)).alloc (.cells #[.slice z m d] t)).alloc (.cells #[.slice none 0 0] t)) := (Below.refl _ _).alloc (Nat.le_refl _) _
  have q1 := ((QB.new w y n c t).below b2).below b3
  have q2 := (QB.new (w.alloc (.cells #[.slice y n c] t)) z m d t).below b3
  have q3 := QB.new ((w.alloc (.cells #[.slice y n c] t)).alloc (.cells #[.slice z m d] t)) none 0 0 t
  rw [World.size_alloc] at q2
  rw [World.size_alloc, World.size_alloc] at q3
  exact ⟨_, rfl, q1, q2, q3, Below.via' (Below.via' b1 b2) b3, by unfold Hid; simp⟩
/-- An edit that a function hands back. -/
def RetEB (b : Bool) (L : List Int) (w : World) (e : Ending) (w' : World) : Prop := ∃ x n, e = .returned (.tuple #[.agg #[.slice x (eIf b L).length n], .bool b]) ∧ w'.ownsRow w.heap.size 3 1 (.slice x (eIf b L).length n) (eIf b L).length (iC (eIf b L)) ∧ Below w.heap.size w w'
theorem RetEB.no {b : Bool} {L : List Int} {w w' : World} (hb : b = false) (h : Below w.heap.size w w') : RetEB b L w (.returned (.tuple #[.agg #[.slice none 0 0], .bool false])) w' := by
  subst hb
  exact ⟨none, 0, rfl, World.ownsRow_nil _ _ _ _, h⟩
theorem RetEB.yes {b : Bool} {L : List Int} {w w' : World} {x : Option Addr} {n k : Nat} (hb : b = true) (hk : k = L.length) (ho : w'.ownsRow w.heap.size 3 1 (.slice x k n) k (iC L)) (h : Below w.heap.size w w') : RetEB b L w (.returned (.tuple #[.agg #[.slice x k n], .bool true])) w' := by
  subst hb hk
  refine ⟨x, n, ?_, ?_, h⟩
  · rw [eIf_t rfl]
  · rw [eIf_t rfl]; exact ho
/-- Is there an answer? -/
def meR (S : List (ByteArray × Int)) (E F : List Int) : Bool := seeB S E F && meB E F
theorem meR_no1 {S : List (ByteArray × Int)} {E F : List Int} (h : seeB S E F = false) : meR S E F = false := by unfold meR; rw [h]; rfl
theorem meR_no2 {S : List (ByteArray × Int)} {E F : List Int} (h : meB E F = false) : meR S E F = false := by unfold meR; rw [h, Bool.and_false]
theorem meR_yes {S : List (ByteArray × Int)} {E F : List Int} (h : seeB S E F = true) (k : meB E F = true) : meR S E F = true := by unfold meR; rw [h, k]; rfl
theorem meB_all {E F : List Int} {n : Nat} (hl : (meL E F).length ≤ n) (h : ∀ j, j < n → ∃ x y, E[j]? = some x ∧ F[j]? = some y ∧ meI x y ≠ 0) : meB E F = true := by
  unfold meB
  rw [List.all_eq_true]
  intro z hz
  obtain ⟨j, hj, e⟩ := List.getElem_of_mem hz
  obtain ⟨x, y, h1, h2, h3⟩ := h j (by omega)
  have := meL_at h1 h2
  rw [List.getElem?_eq_getElem hj, e] at this
  injection this with this
  rw [this]
  exact decide_eq_true h3
theorem grownBy_setCellE (W : World) (b o : Nat) (v : Value) : W.grownBy (W.setCell ⟨b, o, none⟩ v) (some b) :=
  ⟨rfl, rfl, rfl, by simp [World.setCell], fun k _ hne => Below.heap_setCell _ _ _ _ (fun e => hne (by rw [e]))⟩
theorem grown_drewE {w w1 : World} {r : Option Nat} (h : w.grownBy w1 r) : w.grownBy w1.drew r := ⟨h.os, h.tape, h.output, h.size, h.block⟩
theorem Wb.grownE {w w' : World} {g : Nat} {t : TypeId} {cs : Array Value} {r : Option Nat} (h : Wb w g t cs) (hg : w.grownBy w' r) (hne : r ≠ some g) : Wb w' g t cs := (hg.block g h.inside (fun e => hne e.symm)).trans h
/-- An edit that lies in a box of its own, with its row. -/
def EdAt (s : Value) (L : List Int) (lo : Nat) (wx : World) : Prop :=
  ∃ g x c, s = .pointer (some ⟨g, 0, none⟩) ∧ QB wx g x L.length c ∧ lo ≤ g ∧ OwR wx lo wx.heap.size 3 1 (.slice x L.length c) L.length (iC L)
theorem drew_sizeE (w : World) : w.drew.heap.size = w.heap.size := rfl
theorem ed_zero (w : World) : (w.alloc (.cells #[.slice none 0 0] 28)).cell? ⟨w.heap.size, 0, none⟩ = some (.slice none 0 0) ∧ (w.alloc (.cells #[.slice none 0 0] 28)).frozen? ⟨w.heap.size, 0, none⟩ = false := by
  have k := Wb.new w 28 #[.slice none 0 0]
  exact ⟨(k.read 0).trans rfl, k.free 0⟩
theorem own_boxE {w : World} {lo hi e n g : Nat} {v u : Value} {xs : List Value} (h : OwR w lo hi e 1 v n xs) (hne : ∀ k, v.ownBlock = some k → k ≠ g) : OwR (w.setCell ⟨g, 0, none⟩ u) lo hi e 1 v n xs := by
  have hk : v.ownBlock = none ∨ v.ownBlock ≠ some g := by
    cases hv : v.ownBlock with
    | none => exact Or.inl rfl
    | some k => exact Or.inr (fun e => by injection e with e; exact hne k hv e)
  exact ⟨h.1.kept (grownBy_setCellE w g 0 u) hk, h.2⟩
end Go.Proofs.Ytfaobfgckfjnjaa
