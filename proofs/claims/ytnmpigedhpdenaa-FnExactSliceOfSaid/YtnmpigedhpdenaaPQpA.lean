import Derived.Test.YtnmpigedhpdenaaCmM
import Derived.Test.YtnmpigedhpdenaaCdI
import Derived.ChangeKeysEq
import Derived.Laws.StructEq
namespace Go.Proofs.Ytnmpigedhpdenaa
open Go.RowKit
set_option maxRecDepth 100000

def mvK (A F : List Int) : Nat → List Int
  | 0 => A
  | j + 1 => if F.getD j 0 = -1 then mvK A F j else (mvK A F j).set j (F.getD j 0)
theorem mvK_yes {A F : List Int} {j : Nat} {f : Int} (h : F[j]? = some f) (k : f = -1) : mvK A F (j + 1) = mvK A F j := by
  show (if _ then _ else _) = _
  rw [getD_at h, if_pos k]
theorem mvK_no {A F : List Int} {j : Nat} {f : Int} (h : F[j]? = some f) (k : ¬ f = -1) : mvK A F (j + 1) = (mvK A F j).set j f := by
  show (if _ then _ else _) = _
  rw [getD_at h, if_neg k]
theorem mvK_len (A F : List Int) : ∀ j, (mvK A F j).length = A.length
  | 0 => rfl
  | j + 1 => by
    unfold mvK
    split
    · exact mvK_len A F j
    · rw [List.length_set]; exact mvK_len A F j
theorem mvK_four (a b c d e f g h : Int) : mvK [a, b, c, d] [e, f, g, h] 4 = mvL [a, b, c, d] [e, f, g, h] := by
  unfold mvK mvK mvK mvK mvK mvL
  simp only [List.getD_cons_zero, List.getD_cons_succ, List.zipWith_cons_cons, List.zipWith_nil_left]
  split <;> split <;> split <;> split <;> rfl
/-- The place, moved. -/
def MvPost (A F : List Int) (w : World) (e : Ending) (w' : World) : Prop := ∃ a b c d : Int, mvL A F = [a, b, c, d] ∧ e = .returned (.agg #[.int .i64 a, .int .i64 b, .int .i64 c, .int .i64 d]) ∧ Below w.heap.size w w'
theorem run_four (e f g h : Int) (w : World) {j : Nat} {x : Int} (hx : [e, f, g, h][j]? = some x) : Sem.run Try.prog (Instr.index 81 (.agg #[.int .i64 e, .int .i64 f, .int .i64 g, .int .i64 h]) (.int .i64 (j : Int))) w = .ok (.int .i64 x) w := by
  have hj := (List.getElem?_eq_some_iff.1 hx).1
  simp at hj
  have : j = 0 ∨ j = 1 ∨ j = 2 ∨ j = 3 := by omega
  rcases this with rfl | rfl | rfl | rfl <;> simp at hx <;> subst hx <;> rfl
set_option maxHeartbeats 4000000 in
theorem moved_any (a b c d e f g h : Int) (w : World) :
    Calls Try.prog 99 #[.agg #[.int .i64 a, .int .i64 b, .int .i64 c, .int .i64 d], .agg #[.int .i64 e, .int .i64 f, .int .i64 g, .int .i64 h]] w (MvPost [a, b, c, d] [e, f, g, h] w) := by
  have q2 := Lib.hid (show Wb (((w.alloc (.cells #[.int .i64 a, .int .i64 b, .int .i64 c, .int .i64 d] 81)).alloc (.cells #[.int .i64 e, .int .i64 f, .int .i64 g, .int .i64 h] 81)).alloc (.cells #[.int .i64 0, .int .i64 0, .int .i64 0, .int .i64 0] 81)) w.heap.size 81 (iC (mvK [a, b, c, d] [e, f, g, h] 0)).toArray from (Wb.new w 81 #[.int .i64 a, .int .i64 b, .int .i64 c, .int .i64 d]).kept (by repeat (first | exact Below.refl _ _ | assumption | refine Below.drew ?_ | refine below_drewN ?_ _ | refine Below.alloc' ?_ _ | (refine Below.setCell ?_ (by first | omega | (simp; done) | (simp; omega) | exact Below.size (by assumption) | exact Nat.le_trans (Below.size (by assumption)) (by simp)) _) | (refine Below.via' ?_ (by assumption)) | (refine Below.alloc ?_ (by first | omega | (simp; done) | (simp; omega) | exact Below.size (by assumption) | exact Nat.le_trans (Below.size (by assumption)) (by simp)) _) | (refine Below.via ?_ (by assumption) (by first | omega | (simp; done) | (simp; omega) | exact Below.size (by assumption) | exact Nat.le_trans (Below.size (by assumption)) (by simp))))))
  have q4 := Lib.hid (Wb.new ((w.alloc (.cells #[.int .i64 a, .int .i64 b, .int .i64 c, .int .i64 d] 81)).alloc (.cells #[.int .i64 e, .int .i64 f, .int .i64 g, .int .i64 h] 81)) 81 #[.int .i64 0, .int .i64 0, .int .i64 0, .int .i64 0])
  have hB0 : Below w.heap.size w (((w.alloc (.cells #[.int .i64 a, .int .i64 b, .int .i64 c, .int .i64 d] 81)).alloc (.cells #[.int .i64 e, .int .i64 f, .int .i64 g, .int .i64 h] 81)).alloc (.cells #[.int .i64 0, .int .i64 0, .int .i64 0, .int .i64 0] 81)) := (by repeat (first | exact Below.refl _ _ | assumption | refine Below.drew ?_ | refine below_drewN ?_ _ | refine Below.alloc' ?_ _ | (refine Below.setCell ?_ (by first | omega | (simp; done) | (simp; omega) | exact Below.size (by assumption) | exact Nat.le_trans (Below.size (by assumption)) (by simp)) _) | (refine Below.via' ?_ (by assumption)) | (refine Below.alloc ?_ (by first | omega | (simp; done) | (simp; omega) | exact Below.size (by assumption) | exact Nat.le_trans (Below.size (by assumption)) (by simp)) _) | (refine Below.via ?_ (by assumption) (by first | omega | (simp; done) | (simp; omega) | exact Below.size (by assumption) | exact Nat.le_trans (Below.size (by assumption)) (by simp)))))
  go_enter Try.func99, Try.ntmps99
  go_wp2
  go_loopw [8] (fun q wr => ∃ j : Nat, j ≤ 4 ∧ q = .int .i64 j ∧ Hid (Wb wr w.heap.size 81 (iC (mvK [a, b, c, d] [e, f, g, h] j)).toArray) ∧ Hid (Wb wr (w.heap.size + 1 + 1) 81 #[.int .i64 0, .int .i64 0, .int .i64 0, .int .i64 0]) ∧ Below w.heap.size w wr) (fun q _ => 4 - (intOf q).toNat)
  case atStart => exact ⟨0, by omega, by go_num, q2.out, (by have h0 := q4.out; rwa [World.size_alloc, World.size_alloc] at h0), hB0⟩
  case round =>
    clear q2 q4 hB0
    obtain ⟨j, hj, rfl, q2, q4, hB⟩ := hrel
    by_cases hlt : j < 4
    · obtain ⟨x, hx, hx2⟩ := four_at (a := e) (b := f) (c := g) (d := h) hlt
      obtain ⟨y, hy⟩ : ∃ y, (mvK [a, b, c, d] [e, f, g, h] j)[j]? = some y := ⟨_, List.getElem?_eq_getElem (by rw [mvK_len]; exact hlt)⟩
      have k0 := q2.out.atI hy
      have k2 := q2.out.free j
      have k4 := q2.out.inside
      have hlt' : (j : Int) < 4 := by omega
      have hj0 : (0 : Int) ≤ (j : Int) := by omega
      have hrun := run_four e f g h wr hx
      replace hy := Lib.hid hy
      by_cases hm : x = -1
      · have hst := Lib.hid (mvK_yes (A := [a, b, c, d]) hx hm)
        replace hx := Lib.hid hx
        go_wp2
        go_roundw
        case rel => exact ⟨j + 1, by omega, by go_num, (by unfold Hid; rw [hst.out]; exact q2.out), q4, hB⟩
        case measure => simp [intOf]; omega
      · have hst := Lib.hid (mvK_no (A := [a, b, c, d]) hx hm)
        have hB2 : Below w.heap.size w (wr.setCell ⟨w.heap.size, j, none⟩ (.int .i64 x)) := Below.setCell (p := ⟨w.heap.size, j, none⟩) hB (Nat.le_refl _) _
        have q22 := Lib.hid (q2.out.putI j x)
        have q42 := Lib.hid (q4.out.off ⟨w.heap.size, j, none⟩ (by show w.heap.size + 1 + 1 ≠ w.heap.size; omega) (.int .i64 x))
        replace hx := Lib.hid hx
        go_wp2
        go_roundw
        case rel => exact ⟨j + 1, by omega, by go_num, (by unfold Hid; rw [hst.out]; exact q22.out), q42, hB2⟩
        case measure => simp [intOf]; omega
    · have hij : j = 4 := by omega
      subst hij
      rw [mvK_four] at q2
      obtain ⟨a', b', c', d', hab⟩ := four_of (L := mvL [a, b, c, d] [e, f, g, h]) rfl
      rw [hab] at q2
      have hab2 := Lib.hid hab
      have k0 : wr.cell? ⟨w.heap.size, 0, none⟩ = some (.int .i64 a') := (q2.out.read 0).trans rfl
      have k1 : wr.cell? ⟨w.heap.size, 1, none⟩ = some (.int .i64 b') := (q2.out.read 1).trans rfl
      have k2 : wr.cell? ⟨w.heap.size, 2, none⟩ = some (.int .i64 c') := (q2.out.read 2).trans rfl
      have k3 : wr.cell? ⟨w.heap.size, 3, none⟩ = some (.int .i64 d') := (q2.out.read 3).trans rfl
      have k4 := q2.out.inside
      have r0 : wr.cell? ⟨w.heap.size + 1 + 1, 0, none⟩ = some (.int .i64 0) := (q4.out.read 0).trans rfl
      have r1 : wr.cell? ⟨w.heap.size + 1 + 1, 1, none⟩ = some (.int .i64 0) := (q4.out.read 1).trans rfl
      have r2 : wr.cell? ⟨w.heap.size + 1 + 1, 2, none⟩ = some (.int .i64 0) := (q4.out.read 2).trans rfl
      have r3 : wr.cell? ⟨w.heap.size + 1 + 1, 3, none⟩ = some (.int .i64 0) := (q4.out.read 3).trans rfl
      have s0 := q4.out.free 0
      have s1 := q4.out.free 1
      have s2 := q4.out.free 2
      have s3 := q4.out.free 3
      have s4 := q4.out.inside
      clear hab
      go_wp2
      refine bodyPost_ret (v := .agg #[.int .i64 a', .int .i64 b', .int .i64 c', .int .i64 d']) (by simp [results, Try.results99, go_sem, *]) rfl ?_
      refine ⟨a', b', c', d', hab2.out, rfl, ?_⟩
      repeat (refine Below.setCell ?_ (by simp; try omega) _)
      exact hB
end Go.Proofs.Ytnmpigedhpdenaa

namespace Go.Proofs.Ytnmpigedhpdenaa
open Go.RowKit
theorem part_int (w : World) (xs : Array Value) (o : Nat) (n : Int) (h : xs[o]? = some (.int .i64 n)) : (part 3 xs o).run Try.prog w = .ok (.int .i64 n) w := by
  simp [part, h]
theorem run_eq_four (w : World) (a b c d a' b' c' d' : Int) : (Op.equalIn 10000 81 (.agg #[.int .i64 a, .int .i64 b, .int .i64 c, .int .i64 d]) (.agg #[.int .i64 a', .int .i64 b', .int .i64 c', .int .i64 d'])).run Try.prog w = .ok (decide (a = a' ∧ b = b' ∧ c = c' ∧ d = d')) w := by
  obtain ⟨i0, hii, hz0, hz1, hz2⟩ := info_parts Try.infoInt
  have hu : Try.prog.underlying 81 = some (.array 4 3) := by kernel_rfl
  have hq : Try.prog.underlying 3 = some (.int .i64) := by kernel_rfl
  have hc : Try.prog.cellsOf 3 = 1 := by kernel_rfl
  rw [show (10000 : Nat) = 9999 + 1 from rfl, run_equalIn_array w 9999 _ _ hu hii, hc]
  have key : ∀ (p q r t : Int) (j : Nat) (n : Int), [p, q, r, t][j]? = some n → (part 3 #[.int .i64 p, .int .i64 q, .int .i64 r, .int .i64 t] j).run Try.prog w = .ok (.int .i64 n) w := fun p q r t j n h => part_int w _ j n (by
    rw [← Array.getElem?_toList]
    exact iC_at h)
  have e0 := fun p q r t : Int => key p q r t 0 p rfl
  have e1 := fun p q r t : Int => key p q r t 1 q rfl
  have e2 := fun p q r t : Int => key p q r t 2 r rfl
  have e3 := fun p q r t : Int => key p q r t 3 t rfl
  have hi : ∀ p q : Int, (Op.equalIn 9999 3 (.int .i64 p) (.int .i64 q)).run Try.prog w = .ok (p == q) w := fun p q => run_equalIn_int w 9998 _ _ _ _ _ hq
  simp only [show List.range 4 = [0, 1, 2, 3] from rfl, Op.eqItems, Sem.run_bind, Nat.mul_one, e0, Result.andThen_ok, hi]
  by_cases h1 : a = a' <;> by_cases h2 : b = b' <;> by_cases h3 : c = c' <;> by_cases h4 : d = d' <;> simp [h1, h2, h3, h4, e1, e2, e3, hi]
end Go.Proofs.Ytnmpigedhpdenaa
