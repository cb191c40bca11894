/-
  The walks of chapter 3: is it a record, are they data? The program's and the model's.
-/
import Derived.Test.YtpmbenedeakieabDoorRecL
import Derived.Test.YtpmbenedeakieabDoorOrd
namespace Go.Proofs.YtpmbenedeakieabDoor
open Go.RowKit
set_option maxRecDepth 100000

/-- Block g holds a record. -/
def RB (w : World) (g : Nat) (a h : Int) (x : Option Addr) (n c : Nat) : Prop :=
  w.cell? ⟨g, 0, none⟩ = some (.int .i64 a) ∧ w.cell? ⟨g, 1, none⟩ = some (.int .i64 h) ∧ w.cell? ⟨g, 2, none⟩ = some (.slice x n c) ∧ g < w.heap.size
theorem RB.new (w : World) (a h : Int) (x : Option Addr) (n c : Nat) (t : TypeId) : RB (w.alloc (.cells #[.int .i64 a, .int .i64 h, .slice x n c] t)) w.heap.size a h x n c := by
  have k := Wb.new w t #[.int .i64 a, .int .i64 h, .slice x n c]
  exact ⟨(k.read 0).trans rfl, (k.read 1).trans rfl, (k.read 2).trans rfl, k.inside⟩
theorem RB.below {w w' : World} {g : Nat} {a h : Int} {x : Option Addr} {n c : Nat} (k : RB w g a h x n c) (hb : Below w.heap.size w w') : RB w' g a h x n c :=
  ⟨(hb.cell k.2.2.2).trans k.1, (hb.cell k.2.2.2).trans k.2.1, (hb.cell k.2.2.2).trans k.2.2.1, Nat.lt_of_lt_of_le k.2.2.2 hb.size⟩
theorem RB.off {w w' : World} {lo hi g : Nat} {a h : Int} {x : Option Addr} {n c : Nat} (k : RB w g a h x n c) (hg : Off lo hi w w') (hne : g < lo ∨ hi ≤ g) : RB w' g a h x n c := by
  have e := hg.block g k.2.2.2 hne
  exact ⟨(World.cell?_of_block (a := ⟨g, 0, none⟩) e).trans k.1, (World.cell?_of_block (a := ⟨g, 1, none⟩) e).trans k.2.1, (World.cell?_of_block (a := ⟨g, 2, none⟩) e).trans k.2.2.1, Nat.lt_of_lt_of_le k.2.2.2 hg.size⟩

theorem rok_no {S : List (ByteArray × Int)} {a h : Int} {L : List Int} (k : ¬ (0 ≤ a ∧ a ≤ 29) ∨ ¬ (0 ≤ h ∧ h ≤ 999)) : rokB S (a, h, L) = false := by
  unfold rokB
  rcases k with k | k
  · rw [(inB_no a 0 29).2 k]; rfl
  · rw [(inB_no h 0 999).2 k, Bool.and_false]; rfl
theorem rok_yes {S : List (ByteArray × Int)} {a h : Int} {L : List Int} (k : 0 ≤ a ∧ a ≤ 29) (k2 : 0 ≤ h ∧ h ≤ 999) : rokB S (a, h, L) = fitB S L := by
  unfold rokB
  rw [(inB_iff a 0 29).2 k, (inB_iff h 0 999).2 k2]; rfl

theorem ret_bb {a b p q : Bool} (h : a = b) (k : p = q) : Ending.returned (.tuple #[.bool a, .bool p]) = .returned (.tuple #[.bool b, .bool q]) := by rw [h, k]
end Go.Proofs.YtpmbenedeakieabDoor
