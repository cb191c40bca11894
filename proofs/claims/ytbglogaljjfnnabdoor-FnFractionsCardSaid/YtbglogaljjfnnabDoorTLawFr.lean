/- The law FnFractions: for every two slices of bytes, the fractions that the model draws from them are added and divided by the program as by the model, sums and quotients are undone, and the sum compares with its first part as the second part with 0; nothing that was there is written. The card ties the listed table to the program's text. No other condition. -/
import Derived.Test.YtbglogaljjfnnabDoorTieK
import Derived.Test.YtbglogaljjfnnabDoorPair
import Derived.Test.YtbglogaljjfnnabDoorFracB
import Derived.Test.YtbglogaljjfnnabDoorUndo
import Derived.SizedLaws
namespace Go.Proofs.YtbglogaljjfnnabDoor
open Go.ChangeShapes Go.WideShapes Go.ChangeAt Go.RowKit
set_option maxRecDepth 100000

theorem ByRd.low {w : World} {x : Option Addr} {n : Nat} (h : ByRd w x n) : 0 < n → ∀ c off, x = some ⟨c, off, none⟩ → c < w.heap.size := by
  intro h0 c off e
  rcases h with h | ⟨c', off', e', hc, _⟩
  · omega
  · rw [e'] at e
    injection e with e
    injection e with e _
    omega
/-- Block g begins with two integers. -/
def FB (w : World) (g : Nat) (x y : Int) : Prop := w.cell? ⟨g, 0, none⟩ = some (.int .i64 x) ∧ w.cell? ⟨g, 1, none⟩ = some (.int .i64 y) ∧ g < w.heap.size
theorem FB.below {w w' : World} {g : Nat} {x y : Int} (h : FB w g x y) (hb : Below w.heap.size w w') : FB w' g x y :=
  ⟨(hb.cell h.2.2).trans h.1, (hb.cell h.2.2).trans h.2.1, Nat.lt_of_lt_of_le h.2.2 hb.size⟩
theorem okB_get {ok : Bool} {n d : Int} (h : okB ok n d = true) : ok = true ∧ mkB n d = true := by unfold okB at h; exact Bool.and_eq_true_iff.1 h
theorem ok_all {n d n' d' : Int} (h : mkB n d = true ∧ mkN n d = n' ∧ mkD n d = d') : okB true n d = true ∧ okN true n d = n' ∧ okD true n d = d' := by
  refine ⟨by unfold okB; rw [h.1]; rfl, ?_, ?_⟩
  · unfold okN; rw [if_pos rfl]; exact h.2.1
  · unfold okD; rw [if_pos rfl]; exact h.2.2
theorem mul_back (p q r s : Int) (w : World) (hT : Tab w) (h : okB (fOK p q && fOK r s && neZ r) (p * s) (q * r) = true) :
    Calls Tryd.prog 12 #[.agg #[.int .i64 (okN (fOK p q && fOK r s && neZ r) (p * s) (q * r)), .int .i64 (okD (fOK p q && fOK r s && neZ r) (p * s) (q * r))], .agg #[.int .i64 r, .int .i64 s]] w fun e w' => e = .returned (.tuple #[.agg #[.int .i64 p, .int .i64 q], .bool true]) ∧ Below w.heap.size w w' := by
  obtain ⟨h1, h2⟩ := okB_get h
  have h3 := h1
  rw [Bool.and_eq_true, Bool.and_eq_true] at h3
  have hv := ok_valid h
  have hm := iMul_x (okN (fOK p q && fOK r s && neZ r) (p * s) (q * r)) (okD (fOK p q && fOK r s && neZ r) (p * s) (q * r)) r s w hT
  have u := undo_div h3.1.1 h3.1.2 h2
  have e1 : okN (fOK p q && fOK r s && neZ r) (p * s) (q * r) = mkN (p * s) (q * r) := by unfold okN; rw [if_pos h1]
  have e2 : okD (fOK p q && fOK r s && neZ r) (p * s) (q * r) = mkD (p * s) (q * r) := by unfold okD; rw [if_pos h1]
  rw [e1, e2] at hm hv ⊢
  obtain ⟨k1, k2, k3⟩ := ok_all u
  rw [hv, h3.1.2, show (true && true) = true from rfl, k1, k2, k3] at hm
  exact hm
theorem sub_back (n d m c : Int) (w : World) (hT : Tab w) (h : okB (fOK n d && fOK m c) (n * c + m * d) (d * c) = true) :
    Calls Tryd.prog 14 #[.agg #[.int .i64 (okN (fOK n d && fOK m c) (n * c + m * d) (d * c)), .int .i64 (okD (fOK n d && fOK m c) (n * c + m * d) (d * c))], .agg #[.int .i64 m, .int .i64 c]] w fun e w' => e = .returned (.tuple #[.agg #[.int .i64 n, .int .i64 d], .bool true]) ∧ Below w.heap.size w w' := by
  obtain ⟨h1, h2⟩ := okB_get h
  have h3 := h1
  rw [Bool.and_eq_true] at h3
  have hv := ok_valid h
  have hm := iSub_x (okN (fOK n d && fOK m c) (n * c + m * d) (d * c)) (okD (fOK n d && fOK m c) (n * c + m * d) (d * c)) m c w hT
  have u := undo_add h3.1 h3.2 h2
  have e1 : okN (fOK n d && fOK m c) (n * c + m * d) (d * c) = mkN (n * c + m * d) (d * c) := by unfold okN; rw [if_pos h1]
  have e2 : okD (fOK n d && fOK m c) (n * c + m * d) (d * c) = mkD (n * c + m * d) (d * c) := by unfold okD; rw [if_pos h1]
  rw [e1, e2] at hm hv ⊢
  obtain ⟨k1, k2, k3⟩ := ok_all u
  rw [hv, h3.2, show (true && true) = true from rfl, k1, k2, k3] at hm
  exact hm
theorem compare_x (n d m c : Int) (w : World) (h : fOK n d = true) (k : fOK m c = true) :
    Calls Tryd.prog 15 #[.agg #[.int .i64 n, .int .i64 d], .agg #[.int .i64 m, .int .i64 c]] w fun e w' => e = .returned (.tuple #[.int .i64 (sgnZ (n * c - m * d)), .bool true]) ∧ Below w.heap.size w w' := by
  have hm := compareFrac_any n d m c w
  rw [cmpR_t (by rw [h, k]; rfl)] at hm
  exact hm
theorem compare_zero (m c : Int) (w : World) (k : fOK m c = true) :
    Calls Tryd.prog 15 #[.agg #[.int .i64 m, .int .i64 c], .agg #[.int .i64 0, .int .i64 1]] w fun e w' => e = .returned (.tuple #[.int .i64 (sgnZ m), .bool true]) ∧ Below w.heap.size w w' := by
  have hm := compare_x m c 0 1 w k (by decide +kernel)
  rw [show m * 1 - 0 * c = m by rw [Int.mul_one, Int.zero_mul, Int.sub_zero]] at hm
  exact hm
theorem FB.new (w : World) (x y : Int) (t : TypeId) : FB (w.alloc (.cells #[.int .i64 x, .int .i64 y] t)) w.heap.size x y := by
  exact ⟨(World.cell?_alloc_at _ _ _ _ rfl).trans rfl, (World.cell?_alloc_at _ _ _ _ rfl).trans rfl, by simp⟩
theorem sgn_pos {a b : Int} (h : (0 < a ↔ 0 < b)) (k : (a < 0 ↔ b < 0)) : sgnZ a = sgnZ b := by unfold sgnZ; (repeat' split) <;> omega
theorem side_same {n d m c : Int} (h : okB (fOK n d && fOK m c) (n * c + m * d) (d * c) = true) :
    sgnZ (okN (fOK n d && fOK m c) (n * c + m * d) (d * c) * d - n * okD (fOK n d && fOK m c) (n * c + m * d) (d * c)) = sgnZ m := by
  obtain ⟨h1, h2⟩ := okB_get h
  have h3 := h1
  rw [Bool.and_eq_true] at h3
  have e1 : okN (fOK n d && fOK m c) (n * c + m * d) (d * c) = mkN (n * c + m * d) (d * c) := by unfold okN; rw [if_pos h1]
  have e2 : okD (fOK n d && fOK m c) (n * c + m * d) (d * c) = mkD (n * c + m * d) (d * c) := by unfold okD; rw [if_pos h1]
  rw [e1, e2]
  obtain ⟨k1, k2⟩ := sum_side h3.1 h2
  have hc := fOK_pos h3.2
  generalize (mkN (n * c + m * d) (d * c) * d - n * mkD (n * c + m * d) (d * c)) = X at k1 ⊢
  generalize d * mkD (n * c + m * d) (d * c) = Y at k1 k2
  have c1 : 0 < X * c ↔ 0 < X := ⟨fun h => Int.pos_of_mul_pos_left h (by omega), fun h => Int.mul_pos h (by omega)⟩
  have c2 : X * c < 0 ↔ X < 0 := by
    constructor
    · intro h
      rcases (by omega : X < 0 ∨ 0 ≤ X) with h' | h'
      · exact h'
      · have := Int.mul_nonneg h' (show 0 ≤ c by omega)
        omega
    · intro h
      have := Int.mul_pos (show 0 < -X by omega) (show 0 < c by omega)
      rw [Int.neg_mul] at this
      omega
  have d1 : 0 < m * Y ↔ 0 < m := by
    constructor
    · intro h
      rcases (by omega : m ≤ 0 ∨ 0 < m) with h' | h'
      · have := Int.mul_nonneg (show 0 ≤ -m by omega) (show 0 ≤ Y by omega)
        rw [Int.neg_mul] at this
        omega
      · exact h'
    · intro h
      exact Int.mul_pos h k2
  have d2 : m * Y < 0 ↔ m < 0 := by
    constructor
    · intro h
      rcases (by omega : m < 0 ∨ 0 ≤ m) with h' | h'
      · exact h'
      · have := Int.mul_nonneg h' (show 0 ≤ Y by omega)
        omega
    · intro h
      have := Int.mul_pos (show 0 < -m by omega) k2
      rw [Int.neg_mul] at this
      omega
  rw [k1] at c1 c2
  exact sgn_pos (c1.symm.trans d1) (c2.symm.trans d2)

set_option maxHeartbeats 2000000 in
theorem fnFractions_any (x1 x2 : Option Addr) (n1 c1 n2 c2 : Nat) (w : World) (hT : Tab w) (hB1 : ByRd w x1 n1) (hB2 : ByRd w x2 n2) (hl1 : n1 ≤ 140737488355327) (hl2 : n2 ≤ 140737488355327) :
    Calls Tryd.prog 3 #[.slice x1 n1 c1, .slice x2 n2 c2] w fun e w' => e = .returned (.bool true) ∧ Below w.heap.size w w' := by
  have hX1 := Lib.hid hB1.low
  have hX2 := Lib.hid hB2.low
  have hD1 := Lib.hid hB1
  have hD2 := Lib.hid hB2
  clear hB1 hB2
  by_cases hg : (1048576 : Int) < (n1 : Int) + (n2 : Int)
  · go_enter Tryd.func3, Tryd.ntmps3
    go_wp2_with fail
    go_ret
    exact ⟨rfl, (by repeat (first | exact Below.refl _ _ | assumption | refine Below.drew ?_ | refine below_drewN ?_ _ | refine Below.alloc' ?_ _ | (refine Below.setCell ?_ (by first | omega | (simp; done) | (simp; omega) | exact Below.size (by assumption) | exact Nat.le_trans (Below.size (by assumption)) (by simp)) _) | (refine Below.via' ?_ (by assumption)) | (refine Below.alloc ?_ (by first | omega | (simp; done) | (simp; omega) | exact Below.size (by assumption) | exact Nat.le_trans (Below.size (by assumption)) (by simp)) _) | (refine Below.via ?_ (by assumption) (by first | omega | (simp; done) | (simp; omega) | exact Below.size (by assumption) | exact Nat.le_trans (Below.size (by assumption)) (by simp)))))⟩
  go_enter Tryd.func3, Tryd.ntmps3
  go_wp2_with fail
  refine (drawPair_any x1 n1 c1 _ hX1.out hD1.out).mono ?_
  rintro e wa ⟨n, d, m, c, rfl, hba⟩
  obtain ⟨hcla, hfra⟩ := bcell hba
  have hza := hba.size
  go_wp2_with (first | (go_at_call 7; refine (iAdd_x _ _ _ _ _ (hT.below (by (try go_split_ands); exact (by repeat (first | exact Below.refl _ _ | assumption | refine Below.drew ?_ | refine below_drewN ?_ _ | refine Below.alloc' ?_ _ | (refine Below.setCell ?_ (by first | omega | (simp; done) | (simp; omega) | exact Below.size (by assumption) | exact Nat.le_trans (Below.size (by assumption)) (by simp)) _) | (refine Below.via' ?_ (by assumption)) | (refine Below.alloc ?_ (by first | omega | (simp; done) | (simp; omega) | exact Below.size (by assumption) | exact Nat.le_trans (Below.size (by assumption)) (by simp)) _) | (refine Below.via ?_ (by assumption) (by first | omega | (simp; done) | (simp; omega) | exact Below.size (by assumption) | exact Nat.le_trans (Below.size (by assumption)) (by simp)))))))).mono ?_; rintro e w2 ⟨rfl, hb2⟩; obtain ⟨hcl2, hfr2⟩ := bcell hb2; have hz2 := hb2.size; (try simp at hz2); (try (have hly2 := Nat.lt_of_succ_le hz2)); (try (have hlx2 := Nat.lt_of_succ_lt hly2)); (try (have hlw2 := Nat.lt_of_succ_lt hlx2)); (try (have hle2 := Nat.le_of_lt hly2)); (try (have hya2 : w.heap.size < w2.heap.size := by omega)); (try (have hyb2 : w.heap.size + 1 < w2.heap.size := by omega)); (try (have hyc2 : w.heap.size + 1 + 1 < w2.heap.size := by omega)); (try (have hyd2 : wa.heap.size < w2.heap.size := by omega))) | (go_at_call 8; refine (sAdd_x _ _ _ _ _).mono ?_; rintro e w3 ⟨rfl, hb3⟩; obtain ⟨hcl3, hfr3⟩ := bcell hb3; have hz3 := hb3.size; (try simp at hz3); (try (have hly3 := Nat.lt_of_succ_le hz3)); (try (have hlx3 := Nat.lt_of_succ_lt hly3)); (try (have hlw3 := Nat.lt_of_succ_lt hlx3)); (try (have hle3 := Nat.le_of_lt hly3)); (try (have hya3 : w.heap.size < w3.heap.size := by omega)); (try (have hyb3 : w.heap.size + 1 < w3.heap.size := by omega)); (try (have hyc3 : w.heap.size + 1 + 1 < w3.heap.size := by omega)); (try (have hyd3 : wa.heap.size < w3.heap.size := by omega))))
  have hb3' : Below w.heap.size w w3 := (by repeat (first | exact Below.refl _ _ | assumption | refine Below.drew ?_ | refine below_drewN ?_ _ | refine Below.alloc' ?_ _ | (refine Below.setCell ?_ (by first | omega | (simp; done) | (simp; omega) | exact Below.size (by assumption) | exact Nat.le_trans (Below.size (by assumption)) (by simp)) _) | (refine Below.via' ?_ (by assumption)) | (refine Below.alloc ?_ (by first | omega | (simp; done) | (simp; omega) | exact Below.size (by assumption) | exact Nat.le_trans (Below.size (by assumption)) (by simp)) _) | (refine Below.via ?_ (by assumption) (by first | omega | (simp; done) | (simp; omega) | exact Below.size (by assumption) | exact Nat.le_trans (Below.size (by assumption)) (by simp)))))
  have hb3a : Below w.heap.size w (w3.alloc (Obj.cells #[Value.int IntKind.i64 (okN (fOK n d && fOK m c) (n * c + m * d) (d * c)), Value.int IntKind.i64 (okD (fOK n d && fOK m c) (n * c + m * d) (d * c))] 24)) := Below.alloc' hb3' _
  refine (drawDiv_any x2 n2 c2 _ (fun h0 c off e => Nat.lt_of_lt_of_le (hX2.out h0 c off e) hb3a.size) (hD2.out.below hb3a)).mono ?_
  rintro e w4 ⟨p, q, r, s, rfl, hb4⟩
  obtain ⟨hcl4, hfr4⟩ := bcell hb4
  have hz4 := hb4.size
  simp at hz4
  clear hb3a hb3'
  go_wp2_with ((go_at_call 10; refine (iDiv_x _ _ _ _ _ (hT.below (by (try go_split_ands); exact (by repeat (first | exact Below.refl _ _ | assumption | refine Below.drew ?_ | refine below_drewN ?_ _ | refine Below.alloc' ?_ _ | (refine Below.setCell ?_ (by first | omega | (simp; done) | (simp; omega) | exact Below.size (by assumption) | exact Nat.le_trans (Below.size (by assumption)) (by simp)) _) | (refine Below.via' ?_ (by assumption)) | (refine Below.alloc ?_ (by first | omega | (simp; done) | (simp; omega) | exact Below.size (by assumption) | exact Nat.le_trans (Below.size (by assumption)) (by simp)) _) | (refine Below.via ?_ (by assumption) (by first | omega | (simp; done) | (simp; omega) | exact Below.size (by assumption) | exact Nat.le_trans (Below.size (by assumption)) (by simp)))))))).mono ?_; rintro e w5 ⟨rfl, hb5⟩; obtain ⟨hcl5, hfr5⟩ := bcell hb5; have hz5 := hb5.size; (try simp at hz5); (try (have hly5 := Nat.lt_of_succ_le hz5)); (try (have hlx5 := Nat.lt_of_succ_lt hly5)); (try (have hlw5 := Nat.lt_of_succ_lt hlx5)); (try (have hle5 := Nat.le_of_lt hly5)); (try (have hya5 : w.heap.size < w5.heap.size := by omega)); (try (have hyb5 : w.heap.size + 1 < w5.heap.size := by omega)); (try (have hyc5 : w.heap.size + 1 + 1 < w5.heap.size := by omega)); (try (have hyd5 : wa.heap.size < w5.heap.size := by omega))))
  (go_at_call 11; refine (sDiv_x _ _ _ _ _).mono ?_; rintro e w6 ⟨rfl, hb6⟩; obtain ⟨hcl6, hfr6⟩ := bcell hb6; have hz6 := hb6.size; (try simp at hz6); (try (have hly6 := Nat.lt_of_succ_le hz6)); (try (have hlx6 := Nat.lt_of_succ_lt hly6)); (try (have hlw6 := Nat.lt_of_succ_lt hlx6)); (try (have hle6 := Nat.le_of_lt hly6)); (try (have hya6 : w.heap.size < w6.heap.size := by omega)); (try (have hyb6 : w.heap.size + 1 < w6.heap.size := by omega)); (try (have hyc6 : w.heap.size + 1 + 1 < w6.heap.size := by omega)); (try (have hyd6 : wa.heap.size < w6.heap.size := by omega)))
  have : wa.heap.size < w6.heap.size := by omega
  have : wa.heap.size + 1 < w6.heap.size := by omega
  have : w2.heap.size < w6.heap.size := by omega
  have : w3.heap.size < w6.heap.size := by omega
  have : w4.heap.size < w6.heap.size := by omega
  have : w4.heap.size + 1 < w6.heap.size := by omega
  have : w5.heap.size < w6.heap.size := by omega
  have kx0 : w6.cell? ⟨w2.heap.size, 0, none⟩ = some (.int .i64 (okN (fOK n d && fOK m c) (n * c + m * d) (d * c))) := ((show Below ((w2.alloc (.cells #[.int .i64 (okN (fOK n d && fOK m c) (n * c + m * d) (d * c)), .int .i64 (okD (fOK n d && fOK m c) (n * c + m * d) (d * c))] 24))).heap.size ((w2.alloc (.cells #[.int .i64 (okN (fOK n d && fOK m c) (n * c + m * d) (d * c)), .int .i64 (okD (fOK n d && fOK m c) (n * c + m * d) (d * c))] 24))) w6 from (by repeat (first | exact Below.refl _ _ | assumption | refine Below.drew ?_ | refine below_drewN ?_ _ | refine Below.alloc' ?_ _ | (refine Below.setCell ?_ (by first | omega | (simp; done) | (simp; omega) | exact Below.size (by assumption) | exact Nat.le_trans (Below.size (by assumption)) (by simp)) _) | (refine Below.via' ?_ (by assumption)) | (refine Below.alloc ?_ (by first | omega | (simp; done) | (simp; omega) | exact Below.size (by assumption) | exact Nat.le_trans (Below.size (by assumption)) (by simp)) _) | (refine Below.via ?_ (by assumption) (by first | omega | (simp; done) | (simp; omega) | exact Below.size (by assumption) | exact Nat.le_trans (Below.size (by assumption)) (by simp)))))).cell (by first | omega | (simp; done) | (simp; omega))).trans (by go_simp)
  have kx1 : w6.cell? ⟨w2.heap.size, 1, none⟩ = some (.int .i64 (okD (fOK n d && fOK m c) (n * c + m * d) (d * c))) := ((show Below ((w2.alloc (.cells #[.int .i64 (okN (fOK n d && fOK m c) (n * c + m * d) (d * c)), .int .i64 (okD (fOK n d && fOK m c) (n * c + m * d) (d * c))] 24))).heap.size ((w2.alloc (.cells #[.int .i64 (okN (fOK n d && fOK m c) (n * c + m * d) (d * c)), .int .i64 (okD (fOK n d && fOK m c) (n * c + m * d) (d * c))] 24))) w6 from (by repeat (first | exact Below.refl _ _ | assumption | refine Below.drew ?_ | refine below_drewN ?_ _ | refine Below.alloc' ?_ _ | (refine Below.setCell ?_ (by first | omega | (simp; done) | (simp; omega) | exact Below.size (by assumption) | exact Nat.le_trans (Below.size (by assumption)) (by simp)) _) | (refine Below.via' ?_ (by assumption)) | (refine Below.alloc ?_ (by first | omega | (simp; done) | (simp; omega) | exact Below.size (by assumption) | exact Nat.le_trans (Below.size (by assumption)) (by simp)) _) | (refine Below.via ?_ (by assumption) (by first | omega | (simp; done) | (simp; omega) | exact Below.size (by assumption) | exact Nat.le_trans (Below.size (by assumption)) (by simp)))))).cell (by first | omega | (simp; done) | (simp; omega))).trans (by go_simp)
  have kw0 : w6.cell? ⟨w3.heap.size, 0, none⟩ = some (.int .i64 (okN (fOK n d && fOK m c) (n * c + m * d) (d * c))) := ((show Below ((w3.alloc (.cells #[.int .i64 (okN (fOK n d && fOK m c) (n * c + m * d) (d * c)), .int .i64 (okD (fOK n d && fOK m c) (n * c + m * d) (d * c))] 24))).heap.size ((w3.alloc (.cells #[.int .i64 (okN (fOK n d && fOK m c) (n * c + m * d) (d * c)), .int .i64 (okD (fOK n d && fOK m c) (n * c + m * d) (d * c))] 24))) w6 from (by repeat (first | exact Below.refl _ _ | assumption | refine Below.drew ?_ | refine below_drewN ?_ _ | refine Below.alloc' ?_ _ | (refine Below.setCell ?_ (by first | omega | (simp; done) | (simp; omega) | exact Below.size (by assumption) | exact Nat.le_trans (Below.size (by assumption)) (by simp)) _) | (refine Below.via' ?_ (by assumption)) | (refine Below.alloc ?_ (by first | omega | (simp; done) | (simp; omega) | exact Below.size (by assumption) | exact Nat.le_trans (Below.size (by assumption)) (by simp)) _) | (refine Below.via ?_ (by assumption) (by first | omega | (simp; done) | (simp; omega) | exact Below.size (by assumption) | exact Nat.le_trans (Below.size (by assumption)) (by simp)))))).cell (by first | omega | (simp; done) | (simp; omega))).trans (by go_simp)
  have kw1 : w6.cell? ⟨w3.heap.size, 1, none⟩ = some (.int .i64 (okD (fOK n d && fOK m c) (n * c + m * d) (d * c))) := ((show Below ((w3.alloc (.cells #[.int .i64 (okN (fOK n d && fOK m c) (n * c + m * d) (d * c)), .int .i64 (okD (fOK n d && fOK m c) (n * c + m * d) (d * c))] 24))).heap.size ((w3.alloc (.cells #[.int .i64 (okN (fOK n d && fOK m c) (n * c + m * d) (d * c)), .int .i64 (okD (fOK n d && fOK m c) (n * c + m * d) (d * c))] 24))) w6 from (by repeat (first | exact Below.refl _ _ | assumption | refine Below.drew ?_ | refine below_drewN ?_ _ | refine Below.alloc' ?_ _ | (refine Below.setCell ?_ (by first | omega | (simp; done) | (simp; omega) | exact Below.size (by assumption) | exact Nat.le_trans (Below.size (by assumption)) (by simp)) _) | (refine Below.via' ?_ (by assumption)) | (refine Below.alloc ?_ (by first | omega | (simp; done) | (simp; omega) | exact Below.size (by assumption) | exact Nat.le_trans (Below.size (by assumption)) (by simp)) _) | (refine Below.via ?_ (by assumption) (by first | omega | (simp; done) | (simp; omega) | exact Below.size (by assumption) | exact Nat.le_trans (Below.size (by assumption)) (by simp)))))).cell (by first | omega | (simp; done) | (simp; omega))).trans (by go_simp)
  have ky0 : w6.cell? ⟨w5.heap.size, 0, none⟩ = some (.int .i64 (okN (fOK p q && fOK r s && neZ r) (p * s) (q * r))) := ((show Below ((w5.alloc (.cells #[.int .i64 (okN (fOK p q && fOK r s && neZ r) (p * s) (q * r)), .int .i64 (okD (fOK p q && fOK r s && neZ r) (p * s) (q * r))] 24))).heap.size ((w5.alloc (.cells #[.int .i64 (okN (fOK p q && fOK r s && neZ r) (p * s) (q * r)), .int .i64 (okD (fOK p q && fOK r s && neZ r) (p * s) (q * r))] 24))) w6 from (by repeat (first | exact Below.refl _ _ | assumption | refine Below.drew ?_ | refine below_drewN ?_ _ | refine Below.alloc' ?_ _ | (refine Below.setCell ?_ (by first | omega | (simp; done) | (simp; omega) | exact Below.size (by assumption) | exact Nat.le_trans (Below.size (by assumption)) (by simp)) _) | (refine Below.via' ?_ (by assumption)) | (refine Below.alloc ?_ (by first | omega | (simp; done) | (simp; omega) | exact Below.size (by assumption) | exact Nat.le_trans (Below.size (by assumption)) (by simp)) _) | (refine Below.via ?_ (by assumption) (by first | omega | (simp; done) | (simp; omega) | exact Below.size (by assumption) | exact Nat.le_trans (Below.size (by assumption)) (by simp)))))).cell (by first | omega | (simp; done) | (simp; omega))).trans (by go_simp)
  have ky1 : w6.cell? ⟨w5.heap.size, 1, none⟩ = some (.int .i64 (okD (fOK p q && fOK r s && neZ r) (p * s) (q * r))) := ((show Below ((w5.alloc (.cells #[.int .i64 (okN (fOK p q && fOK r s && neZ r) (p * s) (q * r)), .int .i64 (okD (fOK p q && fOK r s && neZ r) (p * s) (q * r))] 24))).heap.size ((w5.alloc (.cells #[.int .i64 (okN (fOK p q && fOK r s && neZ r) (p * s) (q * r)), .int .i64 (okD (fOK p q && fOK r s && neZ r) (p * s) (q * r))] 24))) w6 from (by repeat (first | exact Below.refl _ _ | assumption | refine Below.drew ?_ | refine below_drewN ?_ _ | refine Below.alloc' ?_ _ | (refine Below.setCell ?_ (by first | omega | (simp; done) | (simp; omega) | exact Below.size (by assumption) | exact Nat.le_trans (Below.size (by assumption)) (by simp)) _) | (refine Below.via' ?_ (by assumption)) | (refine Below.alloc ?_ (by first | omega | (simp; done) | (simp; omega) | exact Below.size (by assumption) | exact Nat.le_trans (Below.size (by assumption)) (by simp)) _) | (refine Below.via ?_ (by assumption) (by first | omega | (simp; done) | (simp; omega) | exact Below.size (by assumption) | exact Nat.le_trans (Below.size (by assumption)) (by simp)))))).cell (by first | omega | (simp; done) | (simp; omega))).trans (by go_simp)
  have ka0 : w6.cell? ⟨wa.heap.size, 0, none⟩ = some (.int .i64 n) := ((show Below (((wa.alloc (.cells #[.int .i64 n, .int .i64 d] 24)).alloc (.cells #[.int .i64 m, .int .i64 c] 24))).heap.size (((wa.alloc (.cells #[.int .i64 n, .int .i64 d] 24)).alloc (.cells #[.int .i64 m, .int .i64 c] 24))) w6 from (by repeat (first | exact Below.refl _ _ | assumption | refine Below.drew ?_ | refine below_drewN ?_ _ | refine Below.alloc' ?_ _ | (refine Below.setCell ?_ (by first | omega | (simp; done) | (simp; omega) | exact Below.size (by assumption) | exact Nat.le_trans (Below.size (by assumption)) (by simp)) _) | (refine Below.via' ?_ (by assumption)) | (refine Below.alloc ?_ (by first | omega | (simp; done) | (simp; omega) | exact Below.size (by assumption) | exact Nat.le_trans (Below.size (by assumption)) (by simp)) _) | (refine Below.via ?_ (by assumption) (by first | omega | (simp; done) | (simp; omega) | exact Below.size (by assumption) | exact Nat.le_trans (Below.size (by assumption)) (by simp)))))).cell (by first | omega | (simp; done) | (simp; omega))).trans (by go_simp)
  have ka1 : w6.cell? ⟨wa.heap.size, 1, none⟩ = some (.int .i64 d) := ((show Below (((wa.alloc (.cells #[.int .i64 n, .int .i64 d] 24)).alloc (.cells #[.int .i64 m, .int .i64 c] 24))).heap.size (((wa.alloc (.cells #[.int .i64 n, .int .i64 d] 24)).alloc (.cells #[.int .i64 m, .int .i64 c] 24))) w6 from (by repeat (first | exact Below.refl _ _ | assumption | refine Below.drew ?_ | refine below_drewN ?_ _ | refine Below.alloc' ?_ _ | (refine Below.setCell ?_ (by first | omega | (simp; done) | (simp; omega) | exact Below.size (by assumption) | exact Nat.le_trans (Below.size (by assumption)) (by simp)) _) | (refine Below.via' ?_ (by assumption)) | (refine Below.alloc ?_ (by first | omega | (simp; done) | (simp; omega) | exact Below.size (by assumption) | exact Nat.le_trans (Below.size (by assumption)) (by simp)) _) | (refine Below.via ?_ (by assumption) (by first | omega | (simp; done) | (simp; omega) | exact Below.size (by assumption) | exact Nat.le_trans (Below.size (by assumption)) (by simp)))))).cell (by first | omega | (simp; done) | (simp; omega))).trans (by go_simp)
  have kb0 : w6.cell? ⟨wa.heap.size + 1, 0, none⟩ = some (.int .i64 m) := ((show Below (((wa.alloc (.cells #[.int .i64 n, .int .i64 d] 24)).alloc (.cells #[.int .i64 m, .int .i64 c] 24))).heap.size (((wa.alloc (.cells #[.int .i64 n, .int .i64 d] 24)).alloc (.cells #[.int .i64 m, .int .i64 c] 24))) w6 from (by repeat (first | exact Below.refl _ _ | assumption | refine Below.drew ?_ | refine below_drewN ?_ _ | refine Below.alloc' ?_ _ | (refine Below.setCell ?_ (by first | omega | (simp; done) | (simp; omega) | exact Below.size (by assumption) | exact Nat.le_trans (Below.size (by assumption)) (by simp)) _) | (refine Below.via' ?_ (by assumption)) | (refine Below.alloc ?_ (by first | omega | (simp; done) | (simp; omega) | exact Below.size (by assumption) | exact Nat.le_trans (Below.size (by assumption)) (by simp)) _) | (refine Below.via ?_ (by assumption) (by first | omega | (simp; done) | (simp; omega) | exact Below.size (by assumption) | exact Nat.le_trans (Below.size (by assumption)) (by simp)))))).cell (by first | omega | (simp; done) | (simp; omega))).trans (by go_simp)
  have kb1 : w6.cell? ⟨wa.heap.size + 1, 1, none⟩ = some (.int .i64 c) := ((show Below (((wa.alloc (.cells #[.int .i64 n, .int .i64 d] 24)).alloc (.cells #[.int .i64 m, .int .i64 c] 24))).heap.size (((wa.alloc (.cells #[.int .i64 n, .int .i64 d] 24)).alloc (.cells #[.int .i64 m, .int .i64 c] 24))) w6 from (by repeat (first | exact Below.refl _ _ | assumption | refine Below.drew ?_ | refine below_drewN ?_ _ | refine Below.alloc' ?_ _ | (refine Below.setCell ?_ (by first | omega | (simp; done) | (simp; omega) | exact Below.size (by assumption) | exact Nat.le_trans (Below.size (by assumption)) (by simp)) _) | (refine Below.via' ?_ (by assumption)) | (refine Below.alloc ?_ (by first | omega | (simp; done) | (simp; omega) | exact Below.size (by assumption) | exact Nat.le_trans (Below.size (by assumption)) (by simp)) _) | (refine Below.via ?_ (by assumption) (by first | omega | (simp; done) | (simp; omega) | exact Below.size (by assumption) | exact Nat.le_trans (Below.size (by assumption)) (by simp)))))).cell (by first | omega | (simp; done) | (simp; omega))).trans (by go_simp)
  have kc0 : w6.cell? ⟨w4.heap.size, 0, none⟩ = some (.int .i64 p) := ((show Below (((w4.alloc (.cells #[.int .i64 p, .int .i64 q] 24)).alloc (.cells #[.int .i64 r, .int .i64 s] 24))).heap.size (((w4.alloc (.cells #[.int .i64 p, .int .i64 q] 24)).alloc (.cells #[.int .i64 r, .int .i64 s] 24))) w6 from (by repeat (first | exact Below.refl _ _ | assumption | refine Below.drew ?_ | refine below_drewN ?_ _ | refine Below.alloc' ?_ _ | (refine Below.setCell ?_ (by first | omega | (simp; done) | (simp; omega) | exact Below.size (by assumption) | exact Nat.le_trans (Below.size (by assumption)) (by simp)) _) | (refine Below.via' ?_ (by assumption)) | (refine Below.alloc ?_ (by first | omega | (simp; done) | (simp; omega) | exact Below.size (by assumption) | exact Nat.le_trans (Below.size (by assumption)) (by simp)) _) | (refine Below.via ?_ (by assumption) (by first | omega | (simp; done) | (simp; omega) | exact Below.size (by assumption) | exact Nat.le_trans (Below.size (by assumption)) (by simp)))))).cell (by first | omega | (simp; done) | (simp; omega))).trans (by go_simp)
  have kc1 : w6.cell? ⟨w4.heap.size, 1, none⟩ = some (.int .i64 q) := ((show Below (((w4.alloc (.cells #[.int .i64 p, .int .i64 q] 24)).alloc (.cells #[.int .i64 r, .int .i64 s] 24))).heap.size (((w4.alloc (.cells #[.int .i64 p, .int .i64 q] 24)).alloc (.cells #[.int .i64 r, .int .i64 s] 24))) w6 from (by repeat (first | exact Below.refl _ _ | assumption | refine Below.drew ?_ | refine below_drewN ?_ _ | refine Below.alloc' ?_ _ | (refine Below.setCell ?_ (by first | omega | (simp; done) | (simp; omega) | exact Below.size (by assumption) | exact Nat.le_trans (Below.size (by assumption)) (by simp)) _) | (refine Below.via' ?_ (by assumption)) | (refine Below.alloc ?_ (by first | omega | (simp; done) | (simp; omega) | exact Below.size (by assumption) | exact Nat.le_trans (Below.size (by assumption)) (by simp)) _) | (refine Below.via ?_ (by assumption) (by first | omega | (simp; done) | (simp; omega) | exact Below.size (by assumption) | exact Nat.le_trans (Below.size (by assumption)) (by simp)))))).cell (by first | omega | (simp; done) | (simp; omega))).trans (by go_simp)
  have kd0 : w6.cell? ⟨w4.heap.size + 1, 0, none⟩ = some (.int .i64 r) := ((show Below (((w4.alloc (.cells #[.int .i64 p, .int .i64 q] 24)).alloc (.cells #[.int .i64 r, .int .i64 s] 24))).heap.size (((w4.alloc (.cells #[.int .i64 p, .int .i64 q] 24)).alloc (.cells #[.int .i64 r, .int .i64 s] 24))) w6 from (by repeat (first | exact Below.refl _ _ | assumption | refine Below.drew ?_ | refine below_drewN ?_ _ | refine Below.alloc' ?_ _ | (refine Below.setCell ?_ (by first | omega | (simp; done) | (simp; omega) | exact Below.size (by assumption) | exact Nat.le_trans (Below.size (by assumption)) (by simp)) _) | (refine Below.via' ?_ (by assumption)) | (refine Below.alloc ?_ (by first | omega | (simp; done) | (simp; omega) | exact Below.size (by assumption) | exact Nat.le_trans (Below.size (by assumption)) (by simp)) _) | (refine Below.via ?_ (by assumption) (by first | omega | (simp; done) | (simp; omega) | exact Below.size (by assumption) | exact Nat.le_trans (Below.size (by assumption)) (by simp)))))).cell (by first | omega | (simp; done) | (simp; omega))).trans (by go_simp)
  have kd1 : w6.cell? ⟨w4.heap.size + 1, 1, none⟩ = some (.int .i64 s) := ((show Below (((w4.alloc (.cells #[.int .i64 p, .int .i64 q] 24)).alloc (.cells #[.int .i64 r, .int .i64 s] 24))).heap.size (((w4.alloc (.cells #[.int .i64 p, .int .i64 q] 24)).alloc (.cells #[.int .i64 r, .int .i64 s] 24))) w6 from (by repeat (first | exact Below.refl _ _ | assumption | refine Below.drew ?_ | refine below_drewN ?_ _ | refine Below.alloc' ?_ _ | (refine Below.setCell ?_ (by first | omega | (simp; done) | (simp; omega) | exact Below.size (by assumption) | exact Nat.le_trans (Below.size (by assumption)) (by simp)) _) | (refine Below.via' ?_ (by assumption)) | (refine Below.alloc ?_ (by first | omega | (simp; done) | (simp; omega) | exact Below.size (by assumption) | exact Nat.le_trans (Below.size (by assumption)) (by simp)) _) | (refine Below.via ?_ (by assumption) (by first | omega | (simp; done) | (simp; omega) | exact Below.size (by assumption) | exact Nat.le_trans (Below.size (by assumption)) (by simp)))))).cell (by first | omega | (simp; done) | (simp; omega))).trans (by go_simp)
  clear hcla hfra hcl2 hfr2 hcl3 hfr3 hcl4 hfr4 hcl5 hfr5 hcl6 hfr6
  have fx6 := Lib.hid (show FB w6 w2.heap.size (okN (fOK n d && fOK m c) (n * c + m * d) (d * c)) (okD (fOK n d && fOK m c) (n * c + m * d) (d * c)) from ⟨kx0, kx1, by omega⟩)
  have fy6 := Lib.hid (show FB w6 w5.heap.size (okN (fOK p q && fOK r s && neZ r) (p * s) (q * r)) (okD (fOK p q && fOK r s && neZ r) (p * s) (q * r)) from ⟨ky0, ky1, by omega⟩)
  have fa6 := Lib.hid (show FB w6 wa.heap.size n d from ⟨ka0, ka1, by omega⟩)
  have fb6 := Lib.hid (show FB w6 (wa.heap.size + 1) m c from ⟨kb0, kb1, by omega⟩)
  have fc6 := Lib.hid (show FB w6 w4.heap.size p q from ⟨kc0, kc1, by omega⟩)
  have fd6 := Lib.hid (show FB w6 (w4.heap.size + 1) r s from ⟨kd0, kd1, by omega⟩)
  have B6 : Below w.heap.size w w6 := (by repeat (first | exact Below.refl _ _ | assumption | refine Below.drew ?_ | refine below_drewN ?_ _ | refine Below.alloc' ?_ _ | (refine Below.setCell ?_ (by first | omega | (simp; done) | (simp; omega) | exact Below.size (by assumption) | exact Nat.le_trans (Below.size (by assumption)) (by simp)) _) | (refine Below.via' ?_ (by assumption)) | (refine Below.alloc ?_ (by first | omega | (simp; done) | (simp; omega) | exact Below.size (by assumption) | exact Nat.le_trans (Below.size (by assumption)) (by simp)) _) | (refine Below.via ?_ (by assumption) (by first | omega | (simp; done) | (simp; omega) | exact Below.size (by assumption) | exact Nat.le_trans (Below.size (by assumption)) (by simp)))))
  cases hok : okB (fOK n d && fOK m c) (n * c + m * d) (d * c)
  · cases hone : okB (fOK p q && fOK r s && neZ r) (p * s) (q * r)
    · go_wp2_with fail
      go_ret
      exact ⟨rfl, (by repeat (first | exact Below.refl _ _ | assumption | refine Below.drew ?_ | refine below_drewN ?_ _ | refine Below.alloc' ?_ _ | (refine Below.setCell ?_ (by first | omega | (simp; done) | (simp; omega) | exact Below.size (by assumption) | exact Nat.le_trans (Below.size (by assumption)) (by simp)) _) | (refine Below.via' ?_ (by assumption)) | (refine Below.alloc ?_ (by first | omega | (simp; done) | (simp; omega) | exact Below.size (by assumption) | exact Nat.le_trans (Below.size (by assumption)) (by simp)) _) | (refine Below.via ?_ (by assumption) (by first | omega | (simp; done) | (simp; omega) | exact Below.size (by assumption) | exact Nat.le_trans (Below.size (by assumption)) (by simp)))))⟩
    · have hyv := ok_valid hone
      go_wp2_with fail
      refine (mul_back p q r s _ (hT.below (by exact (by repeat (first | exact Below.refl _ _ | assumption | refine Below.drew ?_ | refine below_drewN ?_ _ | refine Below.alloc' ?_ _ | (refine Below.setCell ?_ (by first | omega | (simp; done) | (simp; omega) | exact Below.size (by assumption) | exact Nat.le_trans (Below.size (by assumption)) (by simp)) _) | (refine Below.via' ?_ (by assumption)) | (refine Below.alloc ?_ (by first | omega | (simp; done) | (simp; omega) | exact Below.size (by assumption) | exact Nat.le_trans (Below.size (by assumption)) (by simp)) _) | (refine Below.via ?_ (by assumption) (by first | omega | (simp; done) | (simp; omega) | exact Below.size (by assumption) | exact Nat.le_trans (Below.size (by assumption)) (by simp))))))) hone).mono ?_
      rintro e w7 ⟨rfl, hb7⟩
      have hb67 : Below w6.heap.size w6 w7 := (by repeat (first | exact Below.refl _ _ | assumption | refine Below.drew ?_ | refine below_drewN ?_ _ | refine Below.alloc' ?_ _ | (refine Below.setCell ?_ (by first | omega | (simp; done) | (simp; omega) | exact Below.size (by assumption) | exact Nat.le_trans (Below.size (by assumption)) (by simp)) _) | (refine Below.via' ?_ (by assumption)) | (refine Below.alloc ?_ (by first | omega | (simp; done) | (simp; omega) | exact Below.size (by assumption) | exact Nat.le_trans (Below.size (by assumption)) (by simp)) _) | (refine Below.via ?_ (by assumption) (by first | omega | (simp; done) | (simp; omega) | exact Below.size (by assumption) | exact Nat.le_trans (Below.size (by assumption)) (by simp)))))
      obtain ⟨yy0, yy1, yy2⟩ := fy6.out.below hb67
      obtain ⟨cc0, cc1, cc2⟩ := fc6.out.below hb67
      go_wp2_with fail
      refine (IsFrac_any _ _ _).mono ?_
      rintro e w8 ⟨rfl, hb8⟩
      go_wp2_with fail
      go_ret
      exact ⟨rfl, (by repeat (first | exact Below.refl _ _ | assumption | refine Below.drew ?_ | refine below_drewN ?_ _ | refine Below.alloc' ?_ _ | (refine Below.setCell ?_ (by first | omega | (simp; done) | (simp; omega) | exact Below.size (by assumption) | exact Nat.le_trans (Below.size (by assumption)) (by simp)) _) | (refine Below.via' ?_ (by assumption)) | (refine Below.alloc ?_ (by first | omega | (simp; done) | (simp; omega) | exact Below.size (by assumption) | exact Nat.le_trans (Below.size (by assumption)) (by simp)) _) | (refine Below.via ?_ (by assumption) (by first | omega | (simp; done) | (simp; omega) | exact Below.size (by assumption) | exact Nat.le_trans (Below.size (by assumption)) (by simp)))))⟩
  · have hxv := ok_valid hok
    obtain ⟨hok1, hok2⟩ := okB_get hok
    have hok3 := hok1
    rw [Bool.and_eq_true] at hok3
    obtain ⟨hok4, hok5⟩ := hok3
    have hside := Lib.hid (side_same hok)
    clear hok2
    replace hok1 := Lib.hid hok1
    replace hok4 := Lib.hid hok4
    replace hok5 := Lib.hid hok5
    replace hxv := Lib.hid hxv
    cases hone : okB (fOK p q && fOK r s && neZ r) (p * s) (q * r)
    · go_wp2_with fail
      refine (sub_back n d m c _ (hT.below (by exact (by repeat (first | exact Below.refl _ _ | assumption | refine Below.drew ?_ | refine below_drewN ?_ _ | refine Below.alloc' ?_ _ | (refine Below.setCell ?_ (by first | omega | (simp; done) | (simp; omega) | exact Below.size (by assumption) | exact Nat.le_trans (Below.size (by assumption)) (by simp)) _) | (refine Below.via' ?_ (by assumption)) | (refine Below.alloc ?_ (by first | omega | (simp; done) | (simp; omega) | exact Below.size (by assumption) | exact Nat.le_trans (Below.size (by assumption)) (by simp)) _) | (refine Below.via ?_ (by assumption) (by first | omega | (simp; done) | (simp; omega) | exact Below.size (by assumption) | exact Nat.le_trans (Below.size (by assumption)) (by simp))))))) hok).mono ?_
      rintro e w9 ⟨rfl, hb9⟩
      have B9 : Below w6.heap.size w6 w9 := (by repeat (first | exact Below.refl _ _ | assumption | refine Below.drew ?_ | refine below_drewN ?_ _ | refine Below.alloc' ?_ _ | (refine Below.setCell ?_ (by first | omega | (simp; done) | (simp; omega) | exact Below.size (by assumption) | exact Nat.le_trans (Below.size (by assumption)) (by simp)) _) | (refine Below.via' ?_ (by assumption)) | (refine Below.alloc ?_ (by first | omega | (simp; done) | (simp; omega) | exact Below.size (by assumption) | exact Nat.le_trans (Below.size (by assumption)) (by simp)) _) | (refine Below.via ?_ (by assumption) (by first | omega | (simp; done) | (simp; omega) | exact Below.size (by assumption) | exact Nat.le_trans (Below.size (by assumption)) (by simp)))))
      obtain ⟨xx0, xx1, xx2⟩ := fx6.out.below B9
      obtain ⟨aa0, aa1, aa2⟩ := fa6.out.below B9
      go_wp2_with fail
      refine (compare_x _ _ _ _ _ hxv.out hok4.out).mono ?_
      rintro e w10 ⟨rfl, hb10⟩
      have hk10 := Lib.hid ((FB.new w9 n d 24).below hb10)
      have B10 : Below w6.heap.size w6 w10 := (by repeat (first | exact Below.refl _ _ | assumption | refine Below.drew ?_ | refine below_drewN ?_ _ | refine Below.alloc' ?_ _ | (refine Below.setCell ?_ (by first | omega | (simp; done) | (simp; omega) | exact Below.size (by assumption) | exact Nat.le_trans (Below.size (by assumption)) (by simp)) _) | (refine Below.via' ?_ (by assumption)) | (refine Below.alloc ?_ (by first | omega | (simp; done) | (simp; omega) | exact Below.size (by assumption) | exact Nat.le_trans (Below.size (by assumption)) (by simp)) _) | (refine Below.via ?_ (by assumption) (by first | omega | (simp; done) | (simp; omega) | exact Below.size (by assumption) | exact Nat.le_trans (Below.size (by assumption)) (by simp)))))
      obtain ⟨bb0, bb1, bb2⟩ := fb6.out.below B10
      clear xx0 xx1 xx2 aa0 aa1 aa2
      go_wp2_with fail
      refine (compare_zero _ _ _ hok5.out).mono ?_
      rintro e w11 ⟨rfl, hb11⟩
      have B11 : Below w6.heap.size w6 w11 := (by repeat (first | exact Below.refl _ _ | assumption | refine Below.drew ?_ | refine below_drewN ?_ _ | refine Below.alloc' ?_ _ | (refine Below.setCell ?_ (by first | omega | (simp; done) | (simp; omega) | exact Below.size (by assumption) | exact Nat.le_trans (Below.size (by assumption)) (by simp)) _) | (refine Below.via' ?_ (by assumption)) | (refine Below.alloc ?_ (by first | omega | (simp; done) | (simp; omega) | exact Below.size (by assumption) | exact Nat.le_trans (Below.size (by assumption)) (by simp)) _) | (refine Below.via ?_ (by assumption) (by first | omega | (simp; done) | (simp; omega) | exact Below.size (by assumption) | exact Nat.le_trans (Below.size (by assumption)) (by simp)))))
      obtain ⟨a13, a14, a15⟩ := fa6.out.below B11
      obtain ⟨k13, k14, k15⟩ := hk10.out.below hb11
      have hs1 := beq_iff_eq.2 hside.out
      go_wp2
      go_ret
      exact ⟨rfl, (by repeat (first | exact Below.refl _ _ | assumption | refine Below.drew ?_ | refine below_drewN ?_ _ | refine Below.alloc' ?_ _ | (refine Below.setCell ?_ (by first | omega | (simp; done) | (simp; omega) | exact Below.size (by assumption) | exact Nat.le_trans (Below.size (by assumption)) (by simp)) _) | (refine Below.via' ?_ (by assumption)) | (refine Below.alloc ?_ (by first | omega | (simp; done) | (simp; omega) | exact Below.size (by assumption) | exact Nat.le_trans (Below.size (by assumption)) (by simp)) _) | (refine Below.via ?_ (by assumption) (by first | omega | (simp; done) | (simp; omega) | exact Below.size (by assumption) | exact Nat.le_trans (Below.size (by assumption)) (by simp)))))⟩
    · have hyv := ok_valid hone
      go_wp2_with fail
      refine (mul_back p q r s _ (hT.below (by exact (by repeat (first | exact Below.refl _ _ | assumption | refine Below.drew ?_ | refine below_drewN ?_ _ | refine Below.alloc' ?_ _ | (refine Below.setCell ?_ (by first | omega | (simp; done) | (simp; omega) | exact Below.size (by assumption) | exact Nat.le_trans (Below.size (by assumption)) (by simp)) _) | (refine Below.via' ?_ (by assumption)) | (refine Below.alloc ?_ (by first | omega | (simp; done) | (simp; omega) | exact Below.size (by assumption) | exact Nat.le_trans (Below.size (by assumption)) (by simp)) _) | (refine Below.via ?_ (by assumption) (by first | omega | (simp; done) | (simp; omega) | exact Below.size (by assumption) | exact Nat.le_trans (Below.size (by assumption)) (by simp))))))) hone).mono ?_
      rintro e w7 ⟨rfl, hb7⟩
      have hb67 : Below w6.heap.size w6 w7 := (by repeat (first | exact Below.refl _ _ | assumption | refine Below.drew ?_ | refine below_drewN ?_ _ | refine Below.alloc' ?_ _ | (refine Below.setCell ?_ (by first | omega | (simp; done) | (simp; omega) | exact Below.size (by assumption) | exact Nat.le_trans (Below.size (by assumption)) (by simp)) _) | (refine Below.via' ?_ (by assumption)) | (refine Below.alloc ?_ (by first | omega | (simp; done) | (simp; omega) | exact Below.size (by assumption) | exact Nat.le_trans (Below.size (by assumption)) (by simp)) _) | (refine Below.via ?_ (by assumption) (by first | omega | (simp; done) | (simp; omega) | exact Below.size (by assumption) | exact Nat.le_trans (Below.size (by assumption)) (by simp)))))
      obtain ⟨yy0, yy1, yy2⟩ := fy6.out.below hb67
      obtain ⟨cc0, cc1, cc2⟩ := fc6.out.below hb67
      go_wp2_with fail
      refine (IsFrac_any _ _ _).mono ?_
      rintro e w8 ⟨rfl, hb8⟩
      have B8 : Below w6.heap.size w6 w8 := (by repeat (first | exact Below.refl _ _ | assumption | refine Below.drew ?_ | refine below_drewN ?_ _ | refine Below.alloc' ?_ _ | (refine Below.setCell ?_ (by first | omega | (simp; done) | (simp; omega) | exact Below.size (by assumption) | exact Nat.le_trans (Below.size (by assumption)) (by simp)) _) | (refine Below.via' ?_ (by assumption)) | (refine Below.alloc ?_ (by first | omega | (simp; done) | (simp; omega) | exact Below.size (by assumption) | exact Nat.le_trans (Below.size (by assumption)) (by simp)) _) | (refine Below.via ?_ (by assumption) (by first | omega | (simp; done) | (simp; omega) | exact Below.size (by assumption) | exact Nat.le_trans (Below.size (by assumption)) (by simp)))))
      obtain ⟨xx0, xx1, xx2⟩ := fx6.out.below B8
      obtain ⟨bb0, bb1, bb2⟩ := fb6.out.below B8
      clear yy0 yy1 yy2 cc0 cc1 cc2
      go_wp2_with fail
      refine (sub_back n d m c _ (hT.below (by exact (by repeat (first | exact Below.refl _ _ | assumption | refine Below.drew ?_ | refine below_drewN ?_ _ | refine Below.alloc' ?_ _ | (refine Below.setCell ?_ (by first | omega | (simp; done) | (simp; omega) | exact Below.size (by assumption) | exact Nat.le_trans (Below.size (by assumption)) (by simp)) _) | (refine Below.via' ?_ (by assumption)) | (refine Below.alloc ?_ (by first | omega | (simp; done) | (simp; omega) | exact Below.size (by assumption) | exact Nat.le_trans (Below.size (by assumption)) (by simp)) _) | (refine Below.via ?_ (by assumption) (by first | omega | (simp; done) | (simp; omega) | exact Below.size (by assumption) | exact Nat.le_trans (Below.size (by assumption)) (by simp))))))) hok).mono ?_
      rintro e w9 ⟨rfl, hb9⟩
      have B9 : Below w6.heap.size w6 w9 := (by repeat (first | exact Below.refl _ _ | assumption | refine Below.drew ?_ | refine below_drewN ?_ _ | refine Below.alloc' ?_ _ | (refine Below.setCell ?_ (by first | omega | (simp; done) | (simp; omega) | exact Below.size (by assumption) | exact Nat.le_trans (Below.size (by assumption)) (by simp)) _) | (refine Below.via' ?_ (by assumption)) | (refine Below.alloc ?_ (by first | omega | (simp; done) | (simp; omega) | exact Below.size (by assumption) | exact Nat.le_trans (Below.size (by assumption)) (by simp)) _) | (refine Below.via ?_ (by assumption) (by first | omega | (simp; done) | (simp; omega) | exact Below.size (by assumption) | exact Nat.le_trans (Below.size (by assumption)) (by simp)))))
      obtain ⟨xx0, xx1, xx2⟩ := fx6.out.below B9
      obtain ⟨aa0, aa1, aa2⟩ := fa6.out.below B9
      go_wp2_with fail
      refine (compare_x _ _ _ _ _ hxv.out hok4.out).mono ?_
      rintro e w10 ⟨rfl, hb10⟩
      have hk10 := Lib.hid ((FB.new w9 n d 24).below hb10)
      have B10 : Below w6.heap.size w6 w10 := (by repeat (first | exact Below.refl _ _ | assumption | refine Below.drew ?_ | refine below_drewN ?_ _ | refine Below.alloc' ?_ _ | (refine Below.setCell ?_ (by first | omega | (simp; done) | (simp; omega) | exact Below.size (by assumption) | exact Nat.le_trans (Below.size (by assumption)) (by simp)) _) | (refine Below.via' ?_ (by assumption)) | (refine Below.alloc ?_ (by first | omega | (simp; done) | (simp; omega) | exact Below.size (by assumption) | exact Nat.le_trans (Below.size (by assumption)) (by simp)) _) | (refine Below.via ?_ (by assumption) (by first | omega | (simp; done) | (simp; omega) | exact Below.size (by assumption) | exact Nat.le_trans (Below.size (by assumption)) (by simp)))))
      obtain ⟨bb0, bb1, bb2⟩ := fb6.out.below B10
      clear xx0 xx1 xx2 aa0 aa1 aa2
      go_wp2_with fail
      refine (compare_zero _ _ _ hok5.out).mono ?_
      rintro e w11 ⟨rfl, hb11⟩
      have B11 : Below w6.heap.size w6 w11 := (by repeat (first | exact Below.refl _ _ | assumption | refine Below.drew ?_ | refine below_drewN ?_ _ | refine Below.alloc' ?_ _ | (refine Below.setCell ?_ (by first | omega | (simp; done) | (simp; omega) | exact Below.size (by assumption) | exact Nat.le_trans (Below.size (by assumption)) (by simp)) _) | (refine Below.via' ?_ (by assumption)) | (refine Below.alloc ?_ (by first | omega | (simp; done) | (simp; omega) | exact Below.size (by assumption) | exact Nat.le_trans (Below.size (by assumption)) (by simp)) _) | (refine Below.via ?_ (by assumption) (by first | omega | (simp; done) | (simp; omega) | exact Below.size (by assumption) | exact Nat.le_trans (Below.size (by assumption)) (by simp)))))
      obtain ⟨a13, a14, a15⟩ := fa6.out.below B11
      obtain ⟨k13, k14, k15⟩ := hk10.out.below hb11
      have hs1 := beq_iff_eq.2 hside.out
      go_wp2
      go_ret
      exact ⟨rfl, (by repeat (first | exact Below.refl _ _ | assumption | refine Below.drew ?_ | refine below_drewN ?_ _ | refine Below.alloc' ?_ _ | (refine Below.setCell ?_ (by first | omega | (simp; done) | (simp; omega) | exact Below.size (by assumption) | exact Nat.le_trans (Below.size (by assumption)) (by simp)) _) | (refine Below.via' ?_ (by assumption)) | (refine Below.alloc ?_ (by first | omega | (simp; done) | (simp; omega) | exact Below.size (by assumption) | exact Nat.le_trans (Below.size (by assumption)) (by simp)) _) | (refine Below.via ?_ (by assumption) (by first | omega | (simp; done) | (simp; omega) | exact Below.size (by assumption) | exact Nat.le_trans (Below.size (by assumption)) (by simp)))))⟩

/-- A slice of bytes that comes in. -/
theorem open_byS {H : Type} {enc : TypeId × Value → H} {W : World} {base : Nat} {v : Value} {d : DataW H} {p : List MemPlace} (hv : Value.okWide Tryd.prog W .any base 22 v)
    (h : DataW.Trod enc Tryd.prog W 0 (fun _ => true) true 22 v d p) (hw : ∀ elems spare, d = .slice elems spare → elems.length ≤ 140737488355327) : ∃ x n cap, v = .slice x n cap ∧ n ≤ 140737488355327 ∧ ByRd W x n := by
  obtain ⟨a0, len, cap, rfl⟩ := okWide_slice Tryd.underlying22 hv
  obtain ⟨fuel, hf⟩ := h
  rcases open_ints Tryd.underlying22 Tryd.underlying5 (by kernel_rfl) hf with ⟨hcs, _⟩ | ⟨a, len', cap', zs, hcs, _, hl, hm, hz, hx, hc, hwf⟩
  · simp [Value.cells] at hcs
    obtain ⟨rfl, rfl, rfl⟩ := hcs
    exact ⟨none, 0, 0, rfl, by omega, Or.inl rfl⟩
  · simp [Value.cells] at hcs
    obtain ⟨rfl, rfl, rfl⟩ := hcs
    simp only [if_true] at hz
    injection hx with hx _
    have hn := hw _ _ hx
    simp only [lits, List.length_map, List.length_take] at hn
    have hlen : len ≤ 140737488355327 := by omega
    refine ⟨some a, len, cap, rfl, hlen, ?_⟩
    by_cases h0 : len = 0
    · exact Or.inl h0
    obtain ⟨b, off, spot⟩ := a
    have hc0 := hc 0 (by omega)
    have hspot : spot = none := by simpa [Addr.add] using World.cell?_spot hc0
    subst hspot
    have hblk : b < W.heap.size := World.block_lt_of_cell? W _ (by simpa [Addr.add] using hc0)
    refine Or.inr ⟨b, off, rfl, hblk, fun i hi => ?_⟩
    have k0 := hc i (by omega)
    have hzi : zs[i]? = some (zs[i]'(by omega)) := List.getElem?_eq_getElem (by omega)
    rw [List.getD, hzi, show (⟨b, off, none⟩ : Addr).add i = ⟨b, off + i, none⟩ from by unfold Addr.add; split <;> simp_all] at k0
    have hw2 := hwf _ (List.getElem_mem (show i < zs.length by omega))
    simp only [Lit.wf, Bool.and_eq_true, decide_eq_true_eq] at hw2
    have h1 : IntKind.min .u8 = 0 := by decide
    have h2 : IntKind.max .u8 = 255 := by decide
    simp only [Option.getD_some] at k0
    exact ⟨_, by omega, by omega, k0⟩

set_option maxRecDepth 100000 in
theorem fnFractions_lifted (os : Os) (started : os.Started) (H : Type) (enc : TypeId × Value → H) :
    ReturnsInHanded {} Tryd.checked os 3 .any (fun w args => (Rows.fnFractionsSpec.pre enc Tryd.prog Tryd.f3 [] false w args ∧ laidMetH Tryd.prog Rows.fnFractionsRow.laid w) ∧ sizedMet enc Tryd.prog Tryd.f3 (OpenSpec.ofChange Rows.fnFractionsSpec) false w args)
      (Rows.fnFractionsSpec.post enc Tryd.prog Tryd.f3 false true false false) := by
  refine returnsInHanded_of_change_and (C := Tryd.checked) (X := fun w _ => laidMetH Tryd.prog Rows.fnFractionsRow.laid w) (fun _ _ _ hh h => h.of_heap hh) own started (by kernel_rfl) Tryd.func3
    (ChangeSpec.witness_shaped (enc := enc) (C := Tryd.checked) (os := os) (X := fun w _ => laidMetH Tryd.prog Rows.fnFractionsRow.laid w) false (World.doorLaid Tryd.prog 67 os) #[.slice none 0 0, .slice none 0 0] 8 rfl (World.shaped_of_RefB (by kernel_rfl) (by kernel_rfl)) (by kernel_rfl) (by kernel_rfl) (by kernel_rfl) (laidMetH_of_parts3 (fuel := 8) (laidMet_of_run' 8 (by kernel_rfl) (by kernel_rfl)) (by kernel_rfl) (by kernel_rfl))) ?_
  intro W base args ds gs before hval0 hW _ hwt hL _
  have hval : ∀ (j : Nat) t v, Tryd.f3.params[j]? = some t → args[j]? = some v → Value.okWide Tryd.prog W .any base t v := hval0
  have hW' := hW
  obtain ⟨p, q, hA0, hV, rfl, hfz, hnd⟩ := hW
  have hA : DataW.TrodAll enc Tryd.prog W 0 (fun _ => true) true Tryd.f3.params.toList args.toList ds p := hA0
  rw [Tryd.params3] at hA hval
  rw [MakeChecks.laidMetH_plain _ _ _ (by kernel_rfl)] at hL
  have hT := tab_of_laidMet hL
  obtain ⟨v0, v1, d0, d1, p0, p1, rfl, rfl, rfl, h0, h1⟩ := trodAll_two hA
  have hb8 : Tryd.checked.prog.bytesOf 5 = 1 := by kernel_rfl
  have hw0 : ∀ elems spare, d0 = .slice elems spare → elems.length ≤ 140737488355327 := fun elems spare e => by
    have h1 := sized_slice hwt (j := 0) rfl (by rw [e]; rfl) Tryd.underlying22
    have h2 := reachBytes_lt
    rw [hb8] at h1
    omega
  have hw1 : ∀ elems spare, d1 = .slice elems spare → elems.length ≤ 140737488355327 := fun elems spare e => by
    have h1 := sized_slice hwt (j := 1) rfl (by rw [e]; rfl) Tryd.underlying22
    have h2 := reachBytes_lt
    rw [hb8] at h1
    omega
  obtain ⟨x1, n1, c1, rfl, hl1, hB1⟩ := open_byS (hval 0 _ _ rfl rfl) h0 hw0
  obtain ⟨x2, n2, c2, rfl, hl2, hB2⟩ := open_byS (hval 1 _ _ rfl rfl) h1 hw1
  refine (fnFractions_any x1 x2 n1 c1 n2 c2 W hT hB1 hB2 hl1 hl2).mono fun e W' ⟨he, hb⟩ => ?_
  subst he
  obtain ⟨gd, rfl⟩ : ∃ d, gs = [d] := vars_one hV
  exact ⟨_, rfl, law_post laidOut (by kernel_rfl) (by kernel_rfl) rfl Tryd.underlying4 (fun _ _ _ _ => rfl) hW' hb⟩

theorem fnFractions_row : Rows.FnFractionsSaid :=
  OpenClaim.holds_of_wide 3 Tryd.f3 rfl rfl rfl rfl rfl rfl rfl ⟨rfl, rfl, rfl, rfl, rfl⟩ rfl rfl rfl rfl rfl (by kernel_rfl) Tryd.func3 (by kernel_rfl)
    (of_decide_eq_true (by kernel_rfl)) (by unfold Func.isWrapper; first | (rw [if_pos (by decide +kernel)]; kernel_rfl) | (rw [if_neg (by decide +kernel)]; exact ⟨rfl, rfl⟩))
    (fun os started H enc _ => fnFractions_lifted os started H enc)

theorem fnFractions_holds : Rows.FnFractionsCardSaid :=
  Claim7.holds_tied_plain_at .later [] _ true _ _
    fnFractions_row (fun _ h => by cases h) (by kernel_rfl) (fun _ h => by cases h) fnFractions_row_tie rfl ⟨rfl, rfl⟩ (by kernel_rfl) rfl
    (fun f fn hf hfn => by
      obtain rfl : f = 3 := Option.some.inj ((show Tryd.prog.funcNamed "loop.example/g00908/laws.FnFractions" = some 3 by kernel_rfl).symm.trans hf) |>.symm
      obtain rfl : fn = Tryd.f3 := (Option.some.inj (Tryd.func3.symm.trans hfn)).symm
      exact ⟨by kernel_rfl, fun j t ht => by
        have hm : t ∈ Tryd.f3.params.toList := Array.mem_toList_iff.2 (Array.mem_of_getElem? ht)
        have hall : (Tryd.f3.params.toList.all fun u => !Tryd.prog.wantsStandIn u) = true := by kernel_rfl
        exact (show Tryd.prog.wantsStandIn t = false by simpa using List.all_eq_true.1 hall t hm)⟩)
    (by kernel_rfl)

end Go.Proofs.YtbglogaljjfnnabDoor
