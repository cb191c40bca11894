/-
  The walks of chapter 2: the values with an index; the program's, whole.
-/
import Derived.Test.YtbglogaljjfnnaaGreatDoorAtJ
namespace Go.Proofs.YtbglogaljjfnnaaGreatDoor
open Go.RowKit
set_option maxRecDepth 100000

theorem iCA_x (x : Option Addr) (cap : Nat) (S : List (ByteArray × Int)) (i : Int) (w : World) (h : SIn w x cap S) :
    Calls Tryz.prog 5 #[.slice x S.length cap, .int .i64 i] w fun e w' => ∃ u, e = .returned (.tuple #[u, .bool (caB S i)]) ∧ Ret w w' 3 1 u (caL S i).length (iC (caL S i)) := by
  have hno : caB S i = false → ∀ (e : Ending) (w' : World), e = .returned (.tuple #[.slice none 0 0, .bool false]) ∧ Below w.heap.size w w' → ∃ u, e = .returned (.tuple #[u, .bool (caB S i)]) ∧ Ret w w' 3 1 u (caL S i).length (iC (caL S i)) := by
    rintro hb e w' ⟨rfl, hB⟩
    rw [hb, ca_no hb]
    exact ⟨_, rfl, World.ownsRow_nil _ _ _ _, hB⟩
  cases hs : schB S
  · exact (iCA_no1 x cap S i w h hs).mono (hno (ca_no1 hs))
  obtain ⟨n1, n2⟩ := cn_all hs
  by_cases h0 : i < 0
  · exact (iCA_no2 x cap S i w h hs h0).mono (hno (ca_no2 ((inB_no _ _ _).2 (by omega))))
  by_cases h1 : cnZ S ≤ i
  · exact (iCA_no3 x cap S i w h hs (by omega) h1).mono (hno (ca_no2 ((inB_no _ _ _).2 (by omega))))
  have hb := ca_get hs ((inB_iff i 0 (cnZ S - 1)).2 (by omega))
  rw [hb, ca_yes hb]
  exact iCA_yes x cap S i w h hs (by omega) (by omega)
end Go.Proofs.YtbglogaljjfnnaaGreatDoor
