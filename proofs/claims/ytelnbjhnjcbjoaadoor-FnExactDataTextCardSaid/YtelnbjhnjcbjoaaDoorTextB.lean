/-
  The walks of chapter 1: FracText, the program's and the model's.
-/
import Derived.Test.YtelnbjhnjcbjoaaDoorText
import Derived.Lib.LaidTab
namespace Go.Proofs.YtelnbjhnjcbjoaaDoor
open Go.RowKit
set_option maxRecDepth 100000

/-- The library's table of powers of ten lies in its variable. -/
def PowTab (w : World) : Prop := Lib.TabIs Tryd.prog w "internal/strconv.uint64pow10" .u64 Lib.pow10Tab ∧ 0 < w.heap.size
theorem gPow : Tryd.prog.globalNamed "internal/strconv.uint64pow10" = some 0 := by kernel_rfl
theorem PowTab.below {w w' : World} (h : PowTab w) (hb : Below w.heap.size w w') : PowTab w' := ⟨var?_below hb gPow h.2 h.1, Nat.lt_of_lt_of_le h.2 hb.size⟩
theorem below_grow (w : World) (k : Nat) (os : Array Obj) : Below w.heap.size w (Sort.grow (w.drewN k) os) := by
  refine ⟨rfl, rfl, rfl, ?_, fun i hi => ?_⟩
  · rw [Sort.size_grow]
    exact Nat.le_add_right _ _
  · show ((w.drewN k).heap ++ os)[i]? = w.heap[i]?
    have e : (w.drewN k).heap = w.heap := rfl
    rw [e, Array.getElem?_append_left hi]
theorem itoa_any (n : Int) (w : World) (h0 : -9223372036854775808 ≤ n) (h1 : n ≤ 9223372036854775807) (hP : PowTab w) :
    Calls Tryd.prog 27 #[.int .i64 n] w fun e w' => e = .returned (.string (numI n)) ∧ Below w.heap.size w w' :=
  (Tryd.strconv_Itoa n h0 h1 w hP.1).mono fun e w' ⟨he, k, os, hw⟩ => ⟨he, by subst hw; exact below_grow w k os⟩

/-- What FracText gives, part by part. -/
def ftT (n d : Int) : ByteArray := if fOK n d then frT n d else ⟨#[]⟩
theorem ret_sb {a b : ByteArray} {p q : Bool} (h : a = b) (k : p = q) : Ending.returned (.tuple #[.string a, .bool p]) = .returned (.tuple #[.string b, .bool q]) := by rw [h, k]

end Go.Proofs.YtelnbjhnjcbjoaaDoor
