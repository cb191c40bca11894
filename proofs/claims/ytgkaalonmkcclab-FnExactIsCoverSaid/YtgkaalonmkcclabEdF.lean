/-
  The walks of chapter 5: is it an edit; levels of a set; do values fail an edit; the program's and the model's.
-/
import Derived.Test.YtgkaalonmkcclabEdI
namespace Go.Proofs.Ytgkaalonmkcclab
open Go.RowKit
set_option maxRecDepth 100000

set_option maxHeartbeats 2000000 in
theorem isEditFor_any (x y : Option Addr) (c1 c2 : Nat) (S : List (ByteArray × Int)) (E : List Int) (w : World) (hs : schB S = true) (hm : S.length ≤ 1048576) (hS : Rd w x (vC S)) (hE : IIn w y E) :
    Calls Try.prog 117 #[.slice x S.length c1, .agg #[.slice y E.length c2]] w fun e w' => e = .returned (.bool (edB S E)) ∧ Below w.heap.size w w' := by
  have hEl := hE.1
  have hEh := Lib.hid hE.2.2
  clear hE
  have hSh := Lib.hid hS
  clear hS
  have hsh := Lib.hid hs
  clear hs
  by_cases hl : E.length = S.length
  · have he1 : ((E.length : Int) == (S.length : Int)) = true := by rw [beq_iff_eq]; omega
    have he2 : ((E.length : Int) != (S.length : Int)) = false := by show (!((E.length : Int) == (S.length : Int))) = false; rw [he1]; rfl
    replace hl := Lib.hid hl
    have hq := Lib.hid (QB.new w y E.length c2 90)
    go_enter Try.func117, Try.ntmps117
    go_wp2
    clear he1 he2
    go_loopw [15] (fun c wr => ∃ i : Nat, i ≤ S.length ∧ c = .int .i64 i ∧ Hid (∀ j, j < i → ∃ nm lv x, S[j]? = some (nm, lv) ∧ E[j]? = some x ∧ 1 ≤ x ∧ x ≤ flZ lv) ∧ Below (w.alloc (.cells #[.slice y E.length c2] 90)).heap.size (w.alloc (.cells #[.slice y E.length c2] 90)) wr) (fun c _ => S.length - (intOf c).toNat)
    case atStart => exact ⟨0, by omega, rfl, (fun j hj => absurd hj (by omega)), Below.refl _ _⟩
    case round =>
      obtain ⟨i, hi, rfl, hall, hb⟩ := hrel
      by_cases hlt : i < S.length
      · obtain ⟨bl, off, nm, lv, rfl, hbl, hSi, hc0, hc1⟩ := ((hSh.out.alloc _).below hb).var hlt
        obtain ⟨bl2, off2, v, rfl, hbl2, hEi, hc2⟩ := ((hEh.out.alloc _).below hb).int (i := i) (by have := hl.out; omega)
        have l12 := schB_lv hsh.out hSi
        obtain ⟨ka, kb, kc⟩ := hq.out.below hb
        have hlt' : (i : Int) < (S.length : Int) := by omega
        have hlt2 : (i : Int) < (E.length : Int) := by have := hl.out; omega
        have hi0 : (0 : Int) ≤ (i : Int) := by omega
        by_cases h1 : 1 ≤ v ∧ v ≤ flZ lv
        · have hk := kdZ_yes h1
          have hk : (kdZ lv v == 0) = false := by rw [beq_eq_false_iff_ne]; omega
          replace hSi := Lib.hid hSi
          replace hEi := Lib.hid hEi
          go_wp2
          go_region_held3 (fun w' => Below ((wr.alloc (.cells #[.string nm, .int .i64 lv] 93))).heap.size ((wr.alloc (.cells #[.string nm, .int .i64 lv] 93))) w' ∧ (∀ b o, b < ((wr.alloc (.cells #[.string nm, .int .i64 lv] 93))).heap.size → w'.cell? ⟨b, o, none⟩ = ((wr.alloc (.cells #[.string nm, .int .i64 lv] 93))).cell? ⟨b, o, none⟩)) (first | exact keep_of (Below.refl _ _) | ((try go_split_ands); exact keep_of (by repeat (first | exact Below.refl _ _ | assumption | refine Below.drew ?_ | refine below_drewN ?_ _ | refine Below.alloc' ?_ _ | (refine Below.setCell ?_ (by first | omega | (simp; done) | (simp; omega) | exact Below.size (by assumption) | exact Nat.le_trans (Below.size (by assumption)) (by simp)) _) | (refine Below.via' ?_ (by assumption)) | (refine Below.alloc ?_ (by first | omega | (simp; done) | (simp; omega) | exact Below.size (by assumption) | exact Nat.le_trans (Below.size (by assumption)) (by simp)) _) | (refine Below.via ?_ (by assumption) (by first | omega | (simp; done) | (simp; omega) | exact Below.size (by assumption) | exact Nat.le_trans (Below.size (by assumption)) (by simp))))))) ((go_at_call 125; refine (kindOfSet_any _ _ _ _ l12).mono ?_; rintro e w1 ⟨rfl, hb1⟩)); rename_i hH; obtain ⟨hb1, hcl1⟩ := hH; have hz1 := hb1.size; (try simp at hz1); (try (have hly1 := Nat.lt_of_succ_le hz1)); (try (have hlx1 := Nat.lt_of_succ_lt hly1)); (try (have hlw1 := Nat.lt_of_succ_lt hlx1)); (try (have hle1 := Nat.le_of_lt hly1)); (try (have hya1 : w.heap.size < w1.heap.size := by omega)); (try (have hyb1 : w.heap.size + 1 < w1.heap.size := by omega)); (try (have hyc1 : w.heap.size + 1 + 1 < w1.heap.size := by omega)); (try (have hyd1 : wa.heap.size < w1.heap.size := by omega))
          go_wp2
          go_roundw
          case rel =>
            refine ⟨i + 1, by omega, by go_num, fun j hj => ?_, (by repeat (first | exact Below.refl _ _ | assumption | refine Below.drew ?_ | refine below_drewN ?_ _ | refine Below.alloc' ?_ _ | (refine Below.setCell ?_ (by first | omega | (simp; done) | (simp; omega) | exact Below.size (by assumption) | exact Nat.le_trans (Below.size (by assumption)) (by simp)) _) | (refine Below.via' ?_ (by assumption)) | (refine Below.alloc ?_ (by first | omega | (simp; done) | (simp; omega) | exact Below.size (by assumption) | exact Nat.le_trans (Below.size (by assumption)) (by simp)) _) | (refine Below.via ?_ (by assumption) (by first | omega | (simp; done) | (simp; omega) | exact Below.size (by assumption) | exact Nat.le_trans (Below.size (by assumption)) (by simp)))))⟩
            rcases Nat.lt_or_ge j i with hj2 | hj2
            · exact hall.out j hj2
            · obtain rfl : j = i := by omega
              exact ⟨nm, lv, v, hSi.out, hEi.out, h1.1, h1.2⟩
          case measure => simp [intOf]; omega
        · have hv := Lib.hid (ed_bad hSi hEi h1)
          have hk := kdZ_no h1
          have hk : (kdZ lv v == 0) = true := by rw [beq_iff_eq]; exact hk
          replace hSi := Lib.hid hSi
          replace hEi := Lib.hid hEi
          go_wp2
          go_region_held3 (fun w' => Below ((wr.alloc (.cells #[.string nm, .int .i64 lv] 93))).heap.size ((wr.alloc (.cells #[.string nm, .int .i64 lv] 93))) w' ∧ (∀ b o, b < ((wr.alloc (.cells #[.string nm, .int .i64 lv] 93))).heap.size → w'.cell? ⟨b, o, none⟩ = ((wr.alloc (.cells #[.string nm, .int .i64 lv] 93))).cell? ⟨b, o, none⟩)) (first | exact keep_of (Below.refl _ _) | ((try go_split_ands); exact keep_of (by repeat (first | exact Below.refl _ _ | assumption | refine Below.drew ?_ | refine below_drewN ?_ _ | refine Below.alloc' ?_ _ | (refine Below.setCell ?_ (by first | omega | (simp; done) | (simp; omega) | exact Below.size (by assumption) | exact Nat.le_trans (Below.size (by assumption)) (by simp)) _) | (refine Below.via' ?_ (by assumption)) | (refine Below.alloc ?_ (by first | omega | (simp; done) | (simp; omega) | exact Below.size (by assumption) | exact Nat.le_trans (Below.size (by assumption)) (by simp)) _) | (refine Below.via ?_ (by assumption) (by first | omega | (simp; done) | (simp; omega) | exact Below.size (by assumption) | exact Nat.le_trans (Below.size (by assumption)) (by simp))))))) ((go_at_call 125; refine (kindOfSet_any _ _ _ _ l12).mono ?_; rintro e w1 ⟨rfl, hb1⟩)); rename_i hH; obtain ⟨hb1, hcl1⟩ := hH; have hz1 := hb1.size; (try simp at hz1); (try (have hly1 := Nat.lt_of_succ_le hz1)); (try (have hlx1 := Nat.lt_of_succ_lt hly1)); (try (have hlw1 := Nat.lt_of_succ_lt hlx1)); (try (have hle1 := Nat.le_of_lt hly1)); (try (have hya1 : w.heap.size < w1.heap.size := by omega)); (try (have hyb1 : w.heap.size + 1 < w1.heap.size := by omega)); (try (have hyc1 : w.heap.size + 1 + 1 < w1.heap.size := by omega)); (try (have hyd1 : wa.heap.size < w1.heap.size := by omega))
          go_wp2
          go_ret
          exact ⟨ret_bool hv.out.symm, (by repeat (first | exact Below.refl _ _ | assumption | refine Below.drew ?_ | refine below_drewN ?_ _ | refine Below.alloc' ?_ _ | (refine Below.setCell ?_ (by first | omega | (simp; done) | (simp; omega) | exact Below.size (by assumption) | exact Nat.le_trans (Below.size (by assumption)) (by simp)) _) | (refine Below.via' ?_ (by assumption)) | (refine Below.alloc ?_ (by first | omega | (simp; done) | (simp; omega) | exact Below.size (by assumption) | exact Nat.le_trans (Below.size (by assumption)) (by simp)) _) | (refine Below.via ?_ (by assumption) (by first | omega | (simp; done) | (simp; omega) | exact Below.size (by assumption) | exact Nat.le_trans (Below.size (by assumption)) (by simp)))))⟩
      · have hij : i = S.length := by omega
        subst hij
        have hv := Lib.hid (ed_all hl.out hall.out)
        clear hall
        go_wp2
        go_ret
        exact ⟨ret_bool hv.out.symm, (by repeat (first | exact Below.refl _ _ | assumption | refine Below.drew ?_ | refine below_drewN ?_ _ | refine Below.alloc' ?_ _ | (refine Below.setCell ?_ (by first | omega | (simp; done) | (simp; omega) | exact Below.size (by assumption) | exact Nat.le_trans (Below.size (by assumption)) (by simp)) _) | (refine Below.via' ?_ (by assumption)) | (refine Below.alloc ?_ (by first | omega | (simp; done) | (simp; omega) | exact Below.size (by assumption) | exact Nat.le_trans (Below.size (by assumption)) (by simp)) _) | (refine Below.via ?_ (by assumption) (by first | omega | (simp; done) | (simp; omega) | exact Below.size (by assumption) | exact Nat.le_trans (Below.size (by assumption)) (by simp)))))⟩
  · have hv := Lib.hid (ed_no hl)
    have hne : ((E.length : Int) == (S.length : Int)) = false := by rw [beq_eq_false_iff_ne]; omega
    go_enter Try.func117, Try.ntmps117
    go_wp2
    go_ret
    exact ⟨ret_bool hv.out.symm, (by repeat (first | exact Below.refl _ _ | assumption | refine Below.drew ?_ | refine below_drewN ?_ _ | refine Below.alloc' ?_ _ | (refine Below.setCell ?_ (by first | omega | (simp; done) | (simp; omega) | exact Below.size (by assumption) | exact Nat.le_trans (Below.size (by assumption)) (by simp)) _) | (refine Below.via' ?_ (by assumption)) | (refine Below.alloc ?_ (by first | omega | (simp; done) | (simp; omega) | exact Below.size (by assumption) | exact Nat.le_trans (Below.size (by assumption)) (by simp)) _) | (refine Below.via ?_ (by assumption) (by first | omega | (simp; done) | (simp; omega) | exact Below.size (by assumption) | exact Nat.le_trans (Below.size (by assumption)) (by simp)))))⟩

set_option maxHeartbeats 2000000 in
theorem eGood_any (x y : Option Addr) (c1 c2 : Nat) (S : List (ByteArray × Int)) (E : List Int) (w : World) (hs : schB S = true) (_hm : S.length ≤ 1048576) (hS : Rd w x (vC S)) (hE : IIn w y E) :
    Calls Try.prog 155 #[.slice x S.length c1, .agg #[.slice y E.length c2]] w fun e w' => e = .returned (.bool (edB S E)) ∧ Below w.heap.size w w' := by
  have hEl := hE.1
  have hEh := Lib.hid hE.2.2
  clear hE
  have hSh := Lib.hid hS
  clear hS
  have hsh := Lib.hid hs
  clear hs
  by_cases hl : E.length = S.length
  · have he1 : ((E.length : Int) == (S.length : Int)) = true := by rw [beq_iff_eq]; omega
    have he2 : ((E.length : Int) != (S.length : Int)) = false := by show (!((E.length : Int) == (S.length : Int))) = false; rw [he1]; rfl
    replace hl := Lib.hid hl
    go_enter Try.func155, Try.ntmps155
    go_wp2
    clear he1 he2
    go_loopw [16] (fun c wr => ∃ i : Nat, i ≤ E.length ∧ c = .int .i64 i ∧ Hid (∀ j, j < i → ∃ nm lv x, S[j]? = some (nm, lv) ∧ E[j]? = some x ∧ 1 ≤ x ∧ x ≤ flZ lv) ∧ Below w.heap.size w wr) (fun c _ => E.length - (intOf c).toNat)
    case atStart => exact ⟨0, by omega, rfl, (fun j hj => absurd hj (by omega)), (by repeat (first | exact Below.refl _ _ | assumption | refine Below.drew ?_ | refine below_drewN ?_ _ | refine Below.alloc' ?_ _ | (refine Below.setCell ?_ (by first | omega | (simp; done) | (simp; omega) | exact Below.size (by assumption) | exact Nat.le_trans (Below.size (by assumption)) (by simp)) _) | (refine Below.via' ?_ (by assumption)) | (refine Below.alloc ?_ (by first | omega | (simp; done) | (simp; omega) | exact Below.size (by assumption) | exact Nat.le_trans (Below.size (by assumption)) (by simp)) _) | (refine Below.via ?_ (by assumption) (by first | omega | (simp; done) | (simp; omega) | exact Below.size (by assumption) | exact Nat.le_trans (Below.size (by assumption)) (by simp)))))⟩
    case round =>
      obtain ⟨i, hi, rfl, hall, hb⟩ := hrel
      by_cases hlt : i < E.length
      · obtain ⟨nm, lv, hSi⟩ : ∃ nm lv, S[i]? = some (nm, lv) := ⟨_, _, List.getElem?_eq_getElem (by have := hl.out; omega)⟩
        obtain ⟨bl2, off2, v, rfl, hbl2, hEi, hc2⟩ := (hEh.out.below hb).int (i := i) hlt
        have l12 := schB_lv hsh.out hSi
        have hlt2 : (i : Int) < (E.length : Int) := by omega
        have hi0 : (0 : Int) ≤ (i : Int) := by omega
        replace hSi := Lib.hid hSi
        cases hin : inB v 1 (flZ lv)
        · have hv := Lib.hid (ed_bad hSi.out hEi (by rw [inB_no] at hin; exact hin))
          replace hEi := Lib.hid hEi
          go_wp2_with (first | (go_at_call 115; refine (eFull_any _ _ S i _ _ _ l12 hSi.out (hSh.out.below (by exact (by repeat (first | exact Below.refl _ _ | assumption | refine Below.drew ?_ | refine below_drewN ?_ _ | refine Below.alloc' ?_ _ | (refine Below.setCell ?_ (by first | omega | (simp; done) | (simp; omega) | exact Below.size (by assumption) | exact Nat.le_trans (Below.size (by assumption)) (by simp)) _) | (refine Below.via' ?_ (by assumption)) | (refine Below.alloc ?_ (by first | omega | (simp; done) | (simp; omega) | exact Below.size (by assumption) | exact Nat.le_trans (Below.size (by assumption)) (by simp)) _) | (refine Below.via ?_ (by assumption) (by first | omega | (simp; done) | (simp; omega) | exact Below.size (by assumption) | exact Nat.le_trans (Below.size (by assumption)) (by simp)))))))).mono ?_; rintro e w1 ⟨rfl, rfl⟩) | (go_at_call 83; refine (l1In_any _ _ _ _).mono ?_; rintro e w2 ⟨rfl, rfl⟩))
          go_ret
          exact ⟨ret_bool hv.out.symm, (by repeat (first | exact Below.refl _ _ | assumption | refine Below.drew ?_ | refine below_drewN ?_ _ | refine Below.alloc' ?_ _ | (refine Below.setCell ?_ (by first | omega | (simp; done) | (simp; omega) | exact Below.size (by assumption) | exact Nat.le_trans (Below.size (by assumption)) (by simp)) _) | (refine Below.via' ?_ (by assumption)) | (refine Below.alloc ?_ (by first | omega | (simp; done) | (simp; omega) | exact Below.size (by assumption) | exact Nat.le_trans (Below.size (by assumption)) (by simp)) _) | (refine Below.via ?_ (by assumption) (by first | omega | (simp; done) | (simp; omega) | exact Below.size (by assumption) | exact Nat.le_trans (Below.size (by assumption)) (by simp)))))⟩
        · have h1 := (inB_iff _ _ _).1 hin
          replace hEi := Lib.hid hEi
          go_wp2_with (first | (go_at_call 115; refine (eFull_any _ _ S i _ _ _ l12 hSi.out (hSh.out.below (by exact (by repeat (first | exact Below.refl _ _ | assumption | refine Below.drew ?_ | refine below_drewN ?_ _ | refine Below.alloc' ?_ _ | (refine Below.setCell ?_ (by first | omega | (simp; done) | (simp; omega) | exact Below.size (by assumption) | exact Nat.le_trans (Below.size (by assumption)) (by simp)) _) | (refine Below.via' ?_ (by assumption)) | (refine Below.alloc ?_ (by first | omega | (simp; done) | (simp; omega) | exact Below.size (by assumption) | exact Nat.le_trans (Below.size (by assumption)) (by simp)) _) | (refine Below.via ?_ (by assumption) (by first | omega | (simp; done) | (simp; omega) | exact Below.size (by assumption) | exact Nat.le_trans (Below.size (by assumption)) (by simp)))))))).mono ?_; rintro e w1 ⟨rfl, rfl⟩) | (go_at_call 83; refine (l1In_any _ _ _ _).mono ?_; rintro e w2 ⟨rfl, rfl⟩))
          go_roundw
          case rel =>
            refine ⟨i + 1, by omega, by go_num, fun j hj => ?_, (by repeat (first | exact Below.refl _ _ | assumption | refine Below.drew ?_ | refine below_drewN ?_ _ | refine Below.alloc' ?_ _ | (refine Below.setCell ?_ (by first | omega | (simp; done) | (simp; omega) | exact Below.size (by assumption) | exact Nat.le_trans (Below.size (by assumption)) (by simp)) _) | (refine Below.via' ?_ (by assumption)) | (refine Below.alloc ?_ (by first | omega | (simp; done) | (simp; omega) | exact Below.size (by assumption) | exact Nat.le_trans (Below.size (by assumption)) (by simp)) _) | (refine Below.via ?_ (by assumption) (by first | omega | (simp; done) | (simp; omega) | exact Below.size (by assumption) | exact Nat.le_trans (Below.size (by assumption)) (by simp)))))⟩
            rcases Nat.lt_or_ge j i with hj2 | hj2
            · exact hall.out j hj2
            · obtain rfl : j = i := by omega
              exact ⟨nm, lv, v, hSi.out, hEi.out, h1.1, h1.2⟩
          case measure => simp [intOf]; omega
      · have hij : i = E.length := by omega
        subst hij
        have hv := Lib.hid (ed_all hl.out (fun j hj => hall.out j (by have := hl.out; omega)))
        clear hall
        go_wp2
        go_ret
        exact ⟨ret_bool hv.out.symm, hb⟩
  · have hv := Lib.hid (ed_no hl)
    have hne : ((E.length : Int) == (S.length : Int)) = false := by rw [beq_eq_false_iff_ne]; omega
    go_enter Try.func155, Try.ntmps155
    go_wp2
    go_ret
    exact ⟨ret_bool hv.out.symm, (by repeat (first | exact Below.refl _ _ | assumption | refine Below.drew ?_ | refine below_drewN ?_ _ | refine Below.alloc' ?_ _ | (refine Below.setCell ?_ (by first | omega | (simp; done) | (simp; omega) | exact Below.size (by assumption) | exact Nat.le_trans (Below.size (by assumption)) (by simp)) _) | (refine Below.via' ?_ (by assumption)) | (refine Below.alloc ?_ (by first | omega | (simp; done) | (simp; omega) | exact Below.size (by assumption) | exact Nat.le_trans (Below.size (by assumption)) (by simp)) _) | (refine Below.via ?_ (by assumption) (by first | omega | (simp; done) | (simp; omega) | exact Below.size (by assumption) | exact Nat.le_trans (Below.size (by assumption)) (by simp)))))⟩

theorem ret_bbE {a b p q : Bool} (h : a = b) (k : p = q) : Ending.returned (.tuple #[.bool a, .bool p]) = .returned (.tuple #[.bool b, .bool q]) := by rw [h, k]
end Go.Proofs.Ytgkaalonmkcclab
