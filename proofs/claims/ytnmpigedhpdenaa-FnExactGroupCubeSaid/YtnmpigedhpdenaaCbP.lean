/-
  The walks of chapter 10: the counts of cells, sizes, limits, sums, right form; the program's and the model's.
-/
import Derived.Test.YtnmpigedhpdenaaCbM
import Derived.Test.YtnmpigedhpdenaaGrpW
namespace Go.Proofs.Ytnmpigedhpdenaa
open Go.RowKit
set_option maxRecDepth 100000

/-- Block g holds a cube. -/
def CQ (w : World) (g : Nat) (x : Option Addr) (n c : Nat) (y : Option Addr) (k d : Nat) : Prop :=
  w.cell? ⟨g, 0, none⟩ = some (.slice x n c) ∧ w.cell? ⟨g, 1, none⟩ = some (.slice y k d) ∧ g < w.heap.size
section
variable {w w' : World} {g : Nat} {x : Option Addr} {n c : Nat} {y : Option Addr} {k d : Nat}
theorem CQ.new (w : World) (x : Option Addr) (n c : Nat) (y : Option Addr) (k d : Nat) (t : TypeId) : CQ (w.alloc (.cells #[.slice x n c, .slice y k d] t)) w.heap.size x n c y k d := by
  have h := Wb.new w t #[.slice x n c, .slice y k d]
  exact ⟨(h.read 0).trans rfl, (h.read 1).trans rfl, h.inside⟩
theorem CQ.of_block (h : CQ w g x n c y k d) (e : w'.heap[g]? = w.heap[g]?) (hs : w.heap.size ≤ w'.heap.size) : CQ w' g x n c y k d :=
  ⟨(World.cell?_of_block (a := ⟨g, 0, none⟩) e).trans h.1, (World.cell?_of_block (a := ⟨g, 1, none⟩) e).trans h.2.1, Nat.lt_of_lt_of_le h.2.2 hs⟩
theorem CQ.below (h : CQ w g x n c y k d) (hb : Below w.heap.size w w') : CQ w' g x n c y k d := h.of_block (hb.block g h.2.2) hb.size
theorem CQ.grown {r : Option Nat} (h : CQ w g x n c y k d) (hg : w.grownBy w' r) (hne : some g ≠ r) : CQ w' g x n c y k d := h.of_block (hg.block g h.2.2 hne) hg.size
end
/-- A cube's two lists that come in. -/
def CIn (w : World) (x y : Option Addr) (Z C : List Int) : Prop := IIn w x Z ∧ IIn w y C
theorem CIn.below {w w' : World} {x y : Option Addr} {Z C : List Int} (h : CIn w x y Z C) (hb : Below w.heap.size w w') : CIn w' x y Z C := ⟨h.1.below hb, h.2.below hb⟩

theorem cn_walk {Z : List Int} (hz : okZ Z = true) {i : Nat} {v : Int} (h : Z[i]? = some v) : cnC (Z.take (i + 1)) = cnC (Z.take i) * (v + 1) ∧ 1 ≤ cnC (Z.take i) * (v + 1) ∧ cnC (Z.take i) * (v + 1) ≤ 923521 ∧ 1 ≤ v ∧ v ≤ 30 := by
  have e := cn_next h
  have h1 := cn_take hz (i + 1)
  have h2 := okZ_at hz h
  rw [e] at h1
  exact ⟨e, h1.1, h1.2, h2.1, h2.2⟩
set_option maxHeartbeats 1000000 in
theorem ccount_any (x : Option Addr) (c : Nat) (Z : List Int) (w : World) (hz : okZ Z = true) (hZ : IIn w x Z) :
    Calls Try.prog 68 #[.slice x Z.length c] w fun e w' => e = .returned (.int .i64 (cnC Z)) ∧ w = w' := by
  have hZh := Lib.hid hZ
  have h4 := okZ_len hz
  have hzh := Lib.hid hz
  clear hZ hz
  go_enter Try.func68, Try.ntmps68
  go_wp2
  go_loopw [3, 8] (fun q c wr => ∃ i : Nat, i ≤ Z.length ∧ c = .int .i64 i ∧ q = .int .i64 (cnC (Z.take i)) ∧ w = wr) (fun _ c _ => Z.length - (intOf c).toNat)
  case atStart => exact ⟨0, by omega, rfl, rfl, rfl⟩
  case round =>
    obtain ⟨i, hi, rfl, rfl, rfl⟩ := hrel
    by_cases hlt : i < Z.length
    · obtain ⟨bl, off, v, rfl, hbl, hZi, hc0⟩ := hZh.out.2.2.int hlt
      obtain ⟨e, p1, p2, p3, p4⟩ := cn_walk hzh.out hZi
      have eh := Lib.hid e
      have hlt' : (i : Int) < (Z.length : Int) := by omega
      replace hZi := Lib.hid hZi
      clear e
      go_wp2
      go_roundw
      case rel => exact ⟨i + 1, by omega, by go_num, by rw [eh.out], by first | rfl | trivial⟩
      case measure => simp [intOf]; omega
    · have hij : i = Z.length := by omega
      subst hij
      rw [List.take_length]
      go_wp2
      go_ret
      exact ⟨rfl, rfl⟩

theorem okZ_of {Z : List Int} (h : Z.length ≤ 4) (k : ∀ j, j < Z.length → ∃ v, Z[j]? = some v ∧ inB v 1 30 = true) : okZ Z = true := by
  unfold okZ
  rw [decide_eq_true h, inR_all k]
  rfl
set_option maxHeartbeats 2000000 in
theorem areSizes_any (x : Option Addr) (c : Nat) (Z : List Int) (w : World) (hZ : IIn w x Z) :
    Calls Try.prog 65 #[.slice x Z.length c] w fun e w' => e = .returned (.bool (csB Z)) ∧ w = w' := by
  have hZh := Lib.hid hZ
  have hZl := hZ.1
  clear hZ
  by_cases h4 : (4 : Int) < Z.length
  · have hv := Lib.hid (cs_long (Z := Z) (by omega))
    go_enter Try.func65, Try.ntmps65
    go_wp2
    go_ret
    exact ⟨ret_bool hv.out.symm, rfl⟩
  go_enter Try.func65, Try.ntmps65
  go_wp2
  go_loopw [10] (fun c wr => ∃ i : Nat, i ≤ Z.length ∧ c = .int .i64 i ∧ Hid (∀ j, j < i → ∃ v, Z[j]? = some v ∧ inB v 1 30 = true) ∧ w = wr) (fun c _ => Z.length - (intOf c).toNat)
  case atStart => exact ⟨0, by omega, rfl, (fun j hj => absurd hj (by omega)), rfl⟩
  case round =>
    obtain ⟨i, hi, rfl, hall, rfl⟩ := hrel
    by_cases hlt : i < Z.length
    · obtain ⟨bl, off, v, rfl, hbl, hZi, hc0⟩ := hZh.out.2.2.int hlt
      have hlt' : (i : Int) < (Z.length : Int) := by omega
      cases hin : inB v 1 30
      · have hno := (inB_no _ _ _).1 hin
        have hv := Lib.hid (cs_bad hZi hin)
        replace hZi := Lib.hid hZi
        by_cases hlo : v < 1
        · go_wp2
          go_ret
          exact ⟨ret_bool hv.out.symm, rfl⟩
        · have hhi : 30 < v := by omega
          go_wp2
          go_ret
          exact ⟨ret_bool hv.out.symm, rfl⟩
      · have hok := (inB_iff _ _ _).1 hin
        have hlo : ¬ v < 1 := by omega
        have hhi : ¬ 30 < v := by omega
        replace hZi := Lib.hid hZi
        replace hin := Lib.hid hin
        clear hok
        go_wp2
        go_roundw
        case rel =>
          refine ⟨i + 1, by omega, by go_num, fun j hj => ?_, by first | rfl | trivial⟩
          rcases Nat.lt_or_ge j i with hj2 | hj2
          · exact hall.out j hj2
          · obtain rfl : j = i := by omega
            exact ⟨v, hZi.out, hin.out⟩
        case measure => simp [intOf]; omega
    · have hij : i = Z.length := by omega
      subst hij
      have hok := Lib.hid (okZ_of (Z := Z) (by omega) hall.out)
      clear hall
      have hv := Lib.hid (cs_eq hok.out)
      go_wp2_with fail
      refine (ccount_any _ _ Z _ hok.out hZh.out).mono ?_
      rintro e w1 ⟨rfl, rfl⟩
      go_wp2
      go_ret
      exact ⟨ret_bool (by rw [hv.out]), rfl⟩

set_option maxHeartbeats 2000000 in
theorem areWithin_any (x : Option Addr) (c : Nat) (L : List Int) (m : Int) (w : World) (h0 : 0 ≤ m) (h1 : m ≤ 1000000) (hL : IIn w x L) :
    Calls Try.prog 96 #[.slice x L.length c, .int .i64 m] w fun e w' => e = .returned (.bool (inR L (-m) m)) ∧ w = w' := by
  have hLh := Lib.hid hL
  have hLl := hL.1
  clear hL
  go_enter Try.func96, Try.ntmps96
  go_wp2
  go_loopw [9] (fun c wr => ∃ i : Nat, i ≤ L.length ∧ c = .int .i64 i ∧ Hid (∀ j, j < i → ∃ v, L[j]? = some v ∧ inB v (-m) m = true) ∧ w = wr) (fun c _ => L.length - (intOf c).toNat)
  case atStart => exact ⟨0, by omega, rfl, (fun j hj => absurd hj (by omega)), rfl⟩
  case round =>
    obtain ⟨i, hi, rfl, hall, rfl⟩ := hrel
    by_cases hlt : i < L.length
    · obtain ⟨bl, off, v, rfl, hbl, hLi, hc0⟩ := hLh.out.2.2.int hlt
      have hlt' : (i : Int) < (L.length : Int) := by omega
      cases hin : inB v (-m) m
      · have hno := (inB_no _ _ _).1 hin
        have hv := Lib.hid (inR_bad hLi hin)
        replace hLi := Lib.hid hLi
        by_cases hlo : v < -m
        · go_wp2
          go_ret
          exact ⟨ret_bool hv.out.symm, rfl⟩
        · have hhi : m < v := by omega
          go_wp2
          go_ret
          exact ⟨ret_bool hv.out.symm, rfl⟩
      · have hok := (inB_iff _ _ _).1 hin
        have hlo : ¬ v < -m := by omega
        have hhi : ¬ m < v := by omega
        replace hLi := Lib.hid hLi
        replace hin := Lib.hid hin
        clear hok
        go_wp2
        go_roundw
        case rel =>
          refine ⟨i + 1, by omega, by go_num, fun j hj => ?_, by first | rfl | trivial⟩
          rcases Nat.lt_or_ge j i with hj2 | hj2
          · exact hall.out j hj2
          · obtain rfl : j = i := by omega
            exact ⟨v, hLi.out, hin.out⟩
        case measure => simp [intOf]; omega
    · have hij : i = L.length := by omega
      subst hij
      have hv := Lib.hid (inR_all hall.out)
      clear hall
      go_wp2
      go_ret
      exact ⟨ret_bool hv.out.symm, rfl⟩

set_option maxHeartbeats 2000000 in
theorem sumAt_any (x y : Option Addr) (c1 c2 : Nat) (C L : List Int) (w : World) (hc : inR C (-1000000) 1000000 = true) (hl : L.length ≤ 1000000) (hL : ∀ v ∈ L, 0 ≤ v ∧ v < (C.length : Int)) (hCi : IIn w x C) (hLi : Rd w y (iC L)) :
    Calls Try.prog 70 #[.slice x C.length c1, .slice y L.length c2] w fun e w' => e = .returned (.int .i64 (suC C L)) ∧ w = w' := by
  have hCh := Lib.hid hCi
  have hCl := hCi.1
  have hLh := Lib.hid hLi
  have hch := Lib.hid hc
  have hb0 := Lib.hid (fun M : List Int => suC_bd hc M)
  have hLm := Lib.hid hL
  clear hCi hLi hL hc
  go_enter Try.func70, Try.ntmps70
  go_wp2
  go_loopw [5, 10] (fun q c wr => ∃ i : Nat, i ≤ L.length ∧ c = .int .i64 i ∧ q = .int .i64 (suC C (L.take i)) ∧ w = wr) (fun _ c _ => L.length - (intOf c).toNat)
  case atStart => exact ⟨0, by omega, rfl, rfl, rfl⟩
  case round =>
    obtain ⟨i, hi, rfl, rfl, rfl⟩ := hrel
    by_cases hlt : i < L.length
    · obtain ⟨bl, off, v, rfl, hbl, hLv, hc0⟩ := hLh.out.int hlt
      obtain ⟨v1, v2⟩ := hLm.out v (List.mem_of_getElem? hLv)
      obtain ⟨k, rfl⟩ : ∃ k : Nat, v = (k : Int) := ⟨v.toNat, by omega⟩
      obtain ⟨bl2, off2, n, rfl, hbl2, hCk, hc1⟩ := hCh.out.2.2.int (i := k) (by omega)
      have hst := Lib.hid (suC_take (C := C) hLv (by rw [Int.toNat_natCast]; exact hCk))
      have hb1 := hb0.out (L.take i)
      have hb2 : ((L.take i).length : Int) ≤ 1000000 := by rw [List.length_take]; omega
      have hn := inR_at hch.out hCk
      have hlt' : (i : Int) < (L.length : Int) := by omega
      have hi0 : (0 : Int) ≤ (i : Int) := by omega
      replace hLv := Lib.hid hLv
      replace hCk := Lib.hid hCk
      go_wp2
      go_roundw
      case rel => exact ⟨i + 1, by omega, by go_num, (by rw [hst.out]; try rw [IntWalk.i64_in _ (by omega)]), by first | rfl | trivial⟩
      case measure => simp [intOf]; omega
    · have hij : i = L.length := by omega
      subst hij
      go_wp2
      go_ret
      exact ⟨ret_int (by rw [List.take_length]), by first | rfl | trivial⟩

set_option maxHeartbeats 2000000 in
theorem cbCount_any (x : Option Addr) (c : Nat) (Z : List Int) (w : World) (hZ : IIn w x Z) :
    Calls Try.prog 60 #[.slice x Z.length c] w fun e w' => e = .returned (.int .i64 (cbV Z)) ∧ w = w' := by
  have hZh := Lib.hid hZ
  have hZl := hZ.1
  clear hZ
  by_cases h4 : (4 : Int) < Z.length
  · have hv := Lib.hid (cs_long (Z := Z) (by omega))
    go_enter Try.func60, Try.ntmps60
    go_wp2
    go_ret
    exact ⟨ret_int (cbV_no hv.out).symm, rfl⟩
  cases hr : inR Z 1 30
  · have hv := Lib.hid (cs_no1 (Z := Z) (by unfold okZ; rw [hr, Bool.and_false]))
    go_enter Try.func60, Try.ntmps60
    go_wp2_with fail
    refine (l1All_any _ _ Z _ _ _ hZl hZh.out.2.2).mono ?_
    rintro e w1 ⟨rfl, rfl⟩
    rw [hr]
    go_wp2
    go_ret
    exact ⟨ret_int (cbV_no hv.out).symm, rfl⟩
  have hok := Lib.hid (show okZ Z = true by unfold okZ; rw [hr, decide_eq_true (by omega)]; rfl)
  have hv := Lib.hid (cs_eq hok.out)
  go_enter Try.func60, Try.ntmps60
  go_wp2_with fail
  refine (l1All_any _ _ Z _ _ _ hZl hZh.out.2.2).mono ?_
  rintro e w1 ⟨rfl, rfl⟩
  rw [hr]
  replace hr := Lib.hid hr
  go_wp2
  go_loopw [3, 16] (fun q c wr => ∃ i : Nat, i ≤ Z.length ∧ c = .int .i64 i ∧ q = .int .i64 (cnC (Z.take i)) ∧ w = wr) (fun _ c _ => Z.length - (intOf c).toNat)
  case atStart => exact ⟨0, by omega, rfl, rfl, rfl⟩
  case round =>
    obtain ⟨i, hi, rfl, rfl, rfl⟩ := hrel
    by_cases hlt : i < Z.length
    · obtain ⟨bl, off, v, rfl, hbl, hZi, hc0⟩ := hZh.out.2.2.int hlt
      obtain ⟨e, p1, p2, p3, p4⟩ := cn_walk hok.out hZi
      have eh := Lib.hid e
      have hlt' : (i : Int) < (Z.length : Int) := by omega
      replace hZi := Lib.hid hZi
      clear e
      go_wp2
      go_roundw
      case rel => exact ⟨i + 1, by omega, by go_num, by rw [eh.out], by first | rfl | trivial⟩
      case measure => simp [intOf]; omega
    · have hij : i = Z.length := by omega
      subst hij
      rw [List.take_length]
      by_cases h2 : 2000 < cnC Z
      · have e1 := Lib.hid (cbV_no (Z := Z) (by rw [hv.out, decide_eq_false (by omega)]))
        go_wp2
        go_ret
        exact ⟨ret_int e1.out.symm, rfl⟩
      · have e1 := Lib.hid (cbV_yes (Z := Z) (by rw [hv.out, decide_eq_true (by omega)]))
        go_wp2
        go_ret
        exact ⟨ret_int e1.out.symm, rfl⟩
end Go.Proofs.Ytnmpigedhpdenaa
