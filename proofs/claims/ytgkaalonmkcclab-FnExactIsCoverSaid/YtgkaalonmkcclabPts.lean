/-
  Parts of schemas: nothing, or a schema: counts, values, indices and values with an index; the walks where there is no variable, the program's and the model's.
-/
import Derived.Test.YtgkaalonmkcclabAtS
import Derived.Test.YtgkaalonmkcclabSchX
namespace Go.Proofs.Ytgkaalonmkcclab
open Go.RowKit
set_option maxRecDepth 100000

/-- Nothing, or a schema. -/
def PtS (S : List (ByteArray × Int)) : Prop := S = [] ∨ schB S = true
theorem ptS_len {S : List (ByteArray × Int)} (h : PtS S) : S.length ≤ 6 := by
  rcases h with rfl | h
  · simp
  · exact (schB_len h).2
theorem pt_lv {S : List (ByteArray × Int)} (h : PtS S) {j : Nat} (hj : j < S.length) : 2 ≤ lvA S j ∧ lvA S j ≤ 8 := by
  rcases h with rfl | h
  · simp at hj
  · exact lvA_bd h hj
theorem pt_cn {S : List (ByteArray × Int)} (h : PtS S) : 1 ≤ cnZ S ∧ cnZ S ≤ 262144 := by
  rcases h with rfl | h
  · exact ⟨by decide, by decide⟩
  · exact cn_all h
theorem pt_ix {S : List (ByteArray × Int)} {V : List Int} (h : PtS S) (hf : fitB S V = true) : 0 ≤ ixZ S V ∧ ixZ S V < cnZ S := by
  rcases h with rfl | h
  · have : ixZ [] V = 0 := rfl
    rw [this]
    exact ⟨by decide, by decide⟩
  · have := ix_bd h hf S.length (Nat.le_refl _)
    rw [List.take_length] at this
    unfold ixZ
    rwa [List.take_of_length_le (by rw [List.length_zip]; omega)] at this
theorem pt_atFr {S : List (ByteArray × Int)} (h : PtS S) {i : Int} (h0 : 0 ≤ i) (L : List Nat) (hL : ∀ j ∈ L, j < S.length) : 0 ≤ (atFr S i L).1 ∧ (atFr S i L).1 ≤ i := by
  rcases h with rfl | h
  · cases L with
    | nil => exact ⟨h0, Int.le_refl _⟩
    | cons j r => have := hL j (by simp); simp at this
  · exact atFr_bd h h0 L hL

theorem countComb_0 (x : Option Addr) (cap : Nat) (w : World) :
    Calls Try.prog 116 #[.slice x 0 cap] w fun e w' => e = .returned (.int .i64 1) ∧ Below w.heap.size w w' := by
  go_enter Try.func116, Try.ntmps116
  go_wp2
  go_loopw [3, 8] (fun q c wr => c = .int .i64 0 ∧ q = .int .i64 1 ∧ Below w.heap.size w wr) (fun _ c _ => 0)
  case atStart => exact ⟨rfl, rfl, Below.refl _ _⟩
  case round =>
    obtain ⟨rfl, rfl, hb⟩ := hrel
    go_wp2
    go_ret
    exact ⟨rfl, hb⟩
theorem sCount_0 (x : Option Addr) (cap : Nat) (w : World) :
    Calls Try.prog 112 #[.slice x 0 cap] w fun e w' => e = .returned (.int .i64 1) ∧ Below w.heap.size w w' := by
  go_enter Try.func112, Try.ntmps112
  go_wp2
  go_loopw [3, 8] (fun q c wr => c = .int .i64 0 ∧ q = .int .i64 1 ∧ Below w.heap.size w wr) (fun _ c _ => 0)
  case atStart => exact ⟨rfl, rfl, Below.refl _ _⟩
  case round =>
    obtain ⟨rfl, rfl, hb⟩ := hrel
    go_wp2
    go_ret
    exact ⟨rfl, hb⟩
theorem countComb_p (x : Option Addr) (cap : Nat) (S : List (ByteArray × Int)) (w : World) (hs : PtS S) (hS : Rd w x (vC S)) :
    Calls Try.prog 116 #[.slice x S.length cap] w fun e w' => e = .returned (.int .i64 (cnZ S)) ∧ Below w.heap.size w w' := by
  rcases hs with rfl | hs
  · exact countComb_0 _ _ _
  · exact countCombinations_any _ _ _ _ hs (by have := schB_len hs; omega) hS
theorem sCount_p (x : Option Addr) (cap : Nat) (S : List (ByteArray × Int)) (w : World) (hs : PtS S) (hS : Rd w x (vC S)) :
    Calls Try.prog 112 #[.slice x S.length cap] w fun e w' => e = .returned (.int .i64 (cnZ S)) ∧ Below w.heap.size w w' := by
  rcases hs with rfl | hs
  · exact sCount_0 _ _ _
  · exact sCount_any _ _ _ _ hs (by have := schB_len hs; omega) hS

theorem areValues_0 (x y : Option Addr) (c1 c2 n : Nat) (w : World) :
    Calls Try.prog 57 #[.slice x 0 c1, .slice y n c2] w fun e w' => e = .returned (.bool (decide (n = 0))) ∧ Below w.heap.size w w' := by
  by_cases h : n = 0
  · subst h
    go_enter Try.func57, Try.ntmps57
    go_wp2
    go_loopw [14] (fun c wr => c = .int .i64 0 ∧ Below w.heap.size w wr) (fun _ _ => 0)
    case atStart => exact ⟨rfl, Below.refl _ _⟩
    case round =>
      obtain ⟨rfl, hb⟩ := hrel
      go_wp2
      go_ret
      exact ⟨rfl, hb⟩
  · have hn : ((n : Int) == 0) = false := by rw [beq_eq_false_iff_ne]; omega
    have hv := Lib.hid (show decide (n = 0) = false from decide_eq_false h)
    go_enter Try.func57, Try.ntmps57
    go_wp2
    go_ret
    exact ⟨ret_bool hv.out.symm, Below.refl _ _⟩
theorem sFits_0 (x y : Option Addr) (c1 c2 n : Nat) (w : World) :
    Calls Try.prog 47 #[.slice x 0 c1, .slice y n c2] w fun e w' => e = .returned (.bool (decide (n = 0))) ∧ Below w.heap.size w w' := by
  by_cases h : n = 0
  · subst h
    go_enter Try.func47, Try.ntmps47
    go_wp2
    go_loopw [14] (fun c wr => c = .int .i64 0 ∧ Below w.heap.size w wr) (fun _ _ => 0)
    case atStart => exact ⟨rfl, Below.refl _ _⟩
    case round =>
      obtain ⟨rfl, hb⟩ := hrel
      go_wp2
      go_ret
      exact ⟨rfl, hb⟩
  · have hn : ((n : Int) == 0) = false := by rw [beq_eq_false_iff_ne]; omega
    have hv := Lib.hid (show decide (n = 0) = false from decide_eq_false h)
    go_enter Try.func47, Try.ntmps47
    go_wp2
    go_ret
    exact ⟨ret_bool hv.out.symm, Below.refl _ _⟩
theorem fit_nil (V : List Int) : fitB [] V = decide (V.length = 0) := by unfold fitB; simp
theorem areValues_p (x y : Option Addr) (c1 c2 : Nat) (S : List (ByteArray × Int)) (V : List Int) (w : World) (hs : PtS S) (hS : Rd w x (vC S)) (hV : IIn w y V) :
    Calls Try.prog 57 #[.slice x S.length c1, .slice y V.length c2] w fun e w' => e = .returned (.bool (fitB S V)) ∧ Below w.heap.size w w' := by
  rcases hs with rfl | hs
  · rw [fit_nil]; exact areValues_0 _ _ _ _ _ _
  · exact areValues_any _ _ _ _ _ _ _ hs (by have := schB_len hs; omega) hS hV
theorem sFits_p (x y : Option Addr) (c1 c2 : Nat) (S : List (ByteArray × Int)) (V : List Int) (w : World) (hs : PtS S) (hS : Rd w x (vC S)) (hV : IIn w y V) :
    Calls Try.prog 47 #[.slice x S.length c1, .slice y V.length c2] w fun e w' => e = .returned (.bool (fitB S V)) ∧ Below w.heap.size w w' := by
  rcases hs with rfl | hs
  · rw [fit_nil]; exact sFits_0 _ _ _ _ _ _
  · exact sFits_any _ _ _ _ _ _ _ hs (by have := schB_len hs; omega) hS hV

theorem at_nil (i : Int) : atL [] i = [] := rfl
set_option maxHeartbeats 1000000 in
theorem sAt_0 (x : Option Addr) (cap : Nat) (i : Int) (w : World) : Calls Try.prog 113 #[.slice x 0 cap, .int .i64 i] w (AtPost2 [] i w) := by
  obtain ⟨i0, hi, hz0, hz1, hz2⟩ := info_parts Try.infoInt
  go_enter Try.func113, Try.ntmps113
  go_wp2_with (at_make; go_loud (refine wpList_make_full _ rfl _ _ 24 rfl w.heap.size 3 i0 (.int .i64 0) 1 Try.underlying24 hi hz0 hz1 .i64 .i64 _ _ 0 rfl rfl rfl rfl (by rw [hz2]; decide) (by decide) (Nat.le_refl _) (fun w1 hown hgrow => ?_)))
  have hb1 : Below w.heap.size w w1 := (Below.refl _ _).grown hgrow (Nat.le_refl _) (by intro k hk; cases hk)
  rw [made_zeros] at hown
  clear hgrow hi hz0 hz1 hz2
  replace hown := Lib.hid hown
  go_loopw [6] (fun c wr => c = .int .i64 (pdZ 0) ∧ wr = w1) (fun _ _ => 0)
  case atStart => exact ⟨rfl, rfl⟩
  case round =>
    obtain ⟨rfl, rfl⟩ := hrel
    rw [show pdZ 0 = -1 from rfl]
    go_wp2
    go_ret
    exact ⟨_, rfl, by rw [at_nil]; exact hown.out, hb1⟩
theorem sAt_p (x : Option Addr) (cap : Nat) (S : List (ByteArray × Int)) (i : Int) (w : World) (hs : PtS S) (h0 : 0 ≤ i) (h1 : i ≤ 262144) (hS : Rd w x (vC S)) :
    Calls Try.prog 113 #[.slice x S.length cap, .int .i64 i] w (AtPost2 S i w) := by
  rcases hs with rfl | hs
  · exact sAt_0 _ _ _ _
  · exact sAt_any _ _ _ _ _ hs h0 h1 (by have := schB_len hs; omega) hS
end Go.Proofs.Ytgkaalonmkcclab
