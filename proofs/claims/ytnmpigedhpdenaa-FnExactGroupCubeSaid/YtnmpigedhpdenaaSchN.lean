/-
  The walks of chapter 2: counts, indices, distances; the program's and the model's.
-/
import Derived.Test.YtnmpigedhpdenaaSchM
import Derived.Test.YtnmpigedhpdenaaSchI
namespace Go.Proofs.Ytnmpigedhpdenaa
open Go.RowKit
set_option maxRecDepth 100000

theorem ret_in {a b : Int} {p q : Bool} (h : a = b) (k : p = q) : Ending.returned (.tuple #[.int .i64 a, .bool p]) = .returned (.tuple #[.int .i64 b, .bool q]) := by rw [h, k]

/-- What is asked of a schema that comes in: its names and numbers are those of Go; its cells can be read. -/
def SIn (w : World) (x : Option Addr) (cap : Nat) (S : List (ByteArray × Int)) : Prop :=
  S.length ≤ 1048576 ∧ S.length ≤ cap ∧ (∀ p ∈ S, p.1.size ≤ 9223372036854775807 ∧ IsI64 p.2) ∧ Rd w x (vC S)
theorem SIn.below {w w' : World} {x : Option Addr} {cap : Nat} {S : List (ByteArray × Int)} (h : SIn w x cap S) (hb : Below w.heap.size w w') : SIn w' x cap S := ⟨h.1, h.2.1, h.2.2.1, h.2.2.2.below hb⟩
theorem SIn.rd {w : World} {x : Option Addr} {cap : Nat} {S : List (ByteArray × Int)} (h : SIn w x cap S) : Rd w x (vC S) := h.2.2.2
theorem isSch_x (x : Option Addr) (cap : Nat) (S : List (ByteArray × Int)) (w : World) (h : SIn w x cap S) :
    Calls Try.prog 93 #[.slice x S.length cap] w fun e w' => e = .returned (.bool (schB S)) ∧ Below w.heap.size w w' := IsSchema_any x cap S w h.1 h.2.2.1 h.2.2.2
theorem sGood_x (x : Option Addr) (cap : Nat) (S : List (ByteArray × Int)) (w : World) (h : SIn w x cap S) :
    Calls Try.prog 90 #[.slice x S.length cap] w fun e w' => e = .returned (.bool (schB S)) ∧ Below w.heap.size w w' := sGood_any x cap S w h.1 h.2.1 (fun p hp => (h.2.2.1 p hp).1) h.2.2.2
end Go.Proofs.Ytnmpigedhpdenaa
