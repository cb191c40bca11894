import Derived.Test.YtgkaalonmkcclaaPQjC
import Derived.Test.YtgkaalonmkcclaaPQjD
import Derived.Test.YtgkaalonmkcclaaSchN
import Derived.Test.YtgkaalonmkcclaaApp
import Derived.Deep.AppendLies
namespace Go.Proofs.Ytgkaalonmkcclaa
open Go.RowKit
set_option maxRecDepth 100000

set_option maxHeartbeats 4000000 in
theorem meetsWhere_any (l m a h : Int) (x z y : Option Addr) (c d e n1 : Nat) (W V : List Int) (w : World) (hf : TwF W V) (hW : IIn w z W) (hV : IIn w y V) :
    Calls Try.prog 123 #[.agg #[.int .i64 l, .slice x n1 c, .slice z W.length d, .int .i64 m], .agg #[.int .i64 a, .int .i64 h, .slice y V.length e]] w fun e w' => e = .returned (.bool (tmB W V)) ∧ Below w.heap.size w w' := by
  have p1 := Lib.hid (TQ.new w l x n1 c z W.length d m 37)
  have p2 := Lib.hid (RB.new (w.alloc (.cells #[.int .i64 l, .slice x n1 c, .slice z W.length d, .int .i64 m] 37)) a h y V.length e 72)
  obtain ⟨w0, hw0⟩ : ∃ w0, w0 = (w.alloc (.cells #[.int .i64 l, .slice x n1 c, .slice z W.length d, .int .i64 m] 37)).alloc (.cells #[.int .i64 a, .int .i64 h, .slice y V.length e] 72) := ⟨_, rfl⟩
  have B0 : Below w.heap.size w w0 := by rw [hw0]; exact (by repeat (first | exact Below.refl _ _ | assumption | refine Below.drew ?_ | refine below_drewN ?_ _ | refine Below.alloc' ?_ _ | (refine Below.setCell ?_ (by first | omega | (simp; done) | (simp; omega) | exact Below.size (by assumption) | exact Nat.le_trans (Below.size (by assumption)) (by simp)) _) | (refine Below.via' ?_ (by assumption)) | (refine Below.alloc ?_ (by first | omega | (simp; done) | (simp; omega) | exact Below.size (by assumption) | exact Nat.le_trans (Below.size (by assumption)) (by simp)) _) | (refine Below.via ?_ (by assumption) (by first | omega | (simp; done) | (simp; omega) | exact Below.size (by assumption) | exact Nat.le_trans (Below.size (by assumption)) (by simp)))))
  have q1 : Hid (TQ w0 w.heap.size l x n1 c z W.length d m) := by
    rw [hw0]
    exact p1.out.below (show Below (w.alloc (.cells #[.int .i64 l, .slice x n1 c, .slice z W.length d, .int .i64 m] 37)).heap.size (w.alloc (.cells #[.int .i64 l, .slice x n1 c, .slice z W.length d, .int .i64 m] 37)) _ from (by repeat (first | exact Below.refl _ _ | assumption | refine Below.drew ?_ | refine below_drewN ?_ _ | refine Below.alloc' ?_ _ | (refine Below.setCell ?_ (by first | omega | (simp; done) | (simp; omega) | exact Below.size (by assumption) | exact Nat.le_trans (Below.size (by assumption)) (by simp)) _) | (refine Below.via' ?_ (by assumption)) | (refine Below.alloc ?_ (by first | omega | (simp; done) | (simp; omega) | exact Below.size (by assumption) | exact Nat.le_trans (Below.size (by assumption)) (by simp)) _) | (refine Below.via ?_ (by assumption) (by first | omega | (simp; done) | (simp; omega) | exact Below.size (by assumption) | exact Nat.le_trans (Below.size (by assumption)) (by simp))))))
  have q2 : Hid (RB w0 (w.heap.size + 1) a h y V.length e) := by
    have h0 := p2.out
    rw [World.size_alloc, ← hw0] at h0
    exact h0
  clear p1 p2
  have hWh := Lib.hid (hW.2.2.below B0)
  have hVh := Lib.hid (hV.2.2.below B0)
  have hVl := hV.1
  have hfl := Lib.hid hf.1
  have hfh := Lib.hid hf.2
  clear hW hV hf
  go_enter Try.func123, Try.ntmps123
  replace hw0 := Lib.hid hw0
  go_wp2
  rw [← hw0.out]
  go_loopw [10] (fun c wr => ∃ i : Nat, i ≤ W.length ∧ c = .int .i64 i ∧ Hid (∀ j, j < i → ∃ x v, W[j]? = some x ∧ V[j]? = some v ∧ (x = 0 ∨ hsB x v = true)) ∧ Below w0.heap.size w0 wr) (fun c _ => W.length - (intOf c).toNat)
  case atStart => exact ⟨0, by omega, rfl, (fun j hj => absurd hj (by omega)), Below.refl _ _⟩
  case round =>
    obtain ⟨i, hi, rfl, hall, hb⟩ := hrel
    have Bw : Below w.heap.size w wr := Below.via' B0 hb
    by_cases hlt : i < W.length
    · obtain ⟨x', v', hWi, hVi, x0, x1, v0, v1⟩ := hfh.out i hlt
      obtain ⟨bl, off, x2, rfl, hbl, hWi2, hc0⟩ := (hWh.out.below hb).int (i := i) hlt
      obtain ⟨bl2, off2, v2, rfl, hbl2, hVi2, hc1⟩ := (hVh.out.below hb).int (i := i) (by have := hfl.out; omega)
      obtain rfl := Option.some.inj (hWi2.symm.trans hWi)
      obtain rfl := Option.some.inj (hVi2.symm.trans hVi)
      clear hWi2 hVi2
      obtain ⟨pa, pb, pc, pd⟩ := q2.out.below hb
      have hlt' : (i : Int) < (W.length : Int) := by omega
      have hlt2 : (i : Int) < (V.length : Int) := by have := hfl.out; omega
      have hi0 : (0 : Int) ≤ (i : Int) := by omega
      by_cases hz : x2 = 0
      · have hz' : (x2 != 0) = false := by rw [hz]; rfl
        have hok : Hid (x2 = 0 ∨ hsB x2 v2 = true) := Or.inl hz
        replace hz := Lib.hid hz
        replace hWi := Lib.hid hWi
        replace hVi := Lib.hid hVi
        go_wp2
        go_roundw
        case rel =>
          refine ⟨i + 1, by omega, by go_num, fun j hj => ?_, (by repeat (first | exact Below.refl _ _ | assumption | refine Below.drew ?_ | refine below_drewN ?_ _ | refine Below.alloc' ?_ _ | (refine Below.setCell ?_ (by first | omega | (simp; done) | (simp; omega) | exact Below.size (by assumption) | exact Nat.le_trans (Below.size (by assumption)) (by simp)) _) | (refine Below.via' ?_ (by assumption)) | (refine Below.alloc ?_ (by first | omega | (simp; done) | (simp; omega) | exact Below.size (by assumption) | exact Nat.le_trans (Below.size (by assumption)) (by simp)) _) | (refine Below.via ?_ (by assumption) (by first | omega | (simp; done) | (simp; omega) | exact Below.size (by assumption) | exact Nat.le_trans (Below.size (by assumption)) (by simp)))))⟩
          rcases Nat.lt_or_ge j i with hj2 | hj2
          · exact hall.out j hj2
          · obtain rfl : j = i := by omega
            exact ⟨_, _, hWi.out, hVi.out, hok.out⟩
        case measure => simp [intOf]; omega
      have hz' : (x2 != 0) = true := by simpa using hz
      cases hh : hsB x2 v2
      · have hv := Lib.hid (tm_bad hWi hVi hz hh)
        replace hz := Lib.hid hz
        replace hWi := Lib.hid hWi
        replace hVi := Lib.hid hVi
        have hhh := Lib.hid hh
        clear hh
        go_wp2_with fail
        refine (hasLevel_any _ _ _ x0 x1 v0 v1).mono ?_
        rintro e w2 ⟨rfl, rfl⟩
        rw [hhh.out]
        go_wp2
        go_ret
        exact ⟨ret_bool hv.out.symm, Bw⟩
      · have hok : Hid (x2 = 0 ∨ hsB x2 v2 = true) := Or.inr hh
        replace hz := Lib.hid hz
        replace hWi := Lib.hid hWi
        replace hVi := Lib.hid hVi
        have hhh := Lib.hid hh
        clear hh
        go_wp2_with fail
        refine (hasLevel_any _ _ _ x0 x1 v0 v1).mono ?_
        rintro e w2 ⟨rfl, rfl⟩
        rw [hhh.out]
        go_wp2
        go_roundw
        case rel =>
          refine ⟨i + 1, by omega, by go_num, fun j hj => ?_, (by repeat (first | exact Below.refl _ _ | assumption | refine Below.drew ?_ | refine below_drewN ?_ _ | refine Below.alloc' ?_ _ | (refine Below.setCell ?_ (by first | omega | (simp; done) | (simp; omega) | exact Below.size (by assumption) | exact Nat.le_trans (Below.size (by assumption)) (by simp)) _) | (refine Below.via' ?_ (by assumption)) | (refine Below.alloc ?_ (by first | omega | (simp; done) | (simp; omega) | exact Below.size (by assumption) | exact Nat.le_trans (Below.size (by assumption)) (by simp)) _) | (refine Below.via ?_ (by assumption) (by first | omega | (simp; done) | (simp; omega) | exact Below.size (by assumption) | exact Nat.le_trans (Below.size (by assumption)) (by simp)))))⟩
          rcases Nat.lt_or_ge j i with hj2 | hj2
          · exact hall.out j hj2
          · obtain rfl : j = i := by omega
            exact ⟨_, _, hWi.out, hVi.out, hok.out⟩
        case measure => simp [intOf]; omega
    · have hij : i = W.length := by omega
      subst hij
      have hv := Lib.hid (tm_all hall.out)
      clear hall
      go_wp2
      go_ret
      exact ⟨ret_bool hv.out.symm, Bw⟩

set_option maxHeartbeats 4000000 in
theorem uMeets_any (l m : Int) (x z y : Option Addr) (c d e n1 : Nat) (W V : List Int) (w : World) (hf : TwF W V) (hW : IIn w z W) (hV : IIn w y V) :
    Calls Try.prog 120 #[.agg #[.int .i64 l, .slice x n1 c, .slice z W.length d, .int .i64 m], .slice y V.length e] w fun e w' => e = .returned (.bool (tmB W V)) ∧ Below w.heap.size w w' := by
  have p1 := Lib.hid (TQ.new w l x n1 c z W.length d m 37)
  obtain ⟨w0, hw0⟩ : ∃ w0, w0 = (w.alloc (.cells #[.int .i64 l, .slice x n1 c, .slice z W.length d, .int .i64 m] 37)) := ⟨_, rfl⟩
  have B0 : Below w.heap.size w w0 := by rw [hw0]; exact (by repeat (first | exact Below.refl _ _ | assumption | refine Below.drew ?_ | refine below_drewN ?_ _ | refine Below.alloc' ?_ _ | (refine Below.setCell ?_ (by first | omega | (simp; done) | (simp; omega) | exact Below.size (by assumption) | exact Nat.le_trans (Below.size (by assumption)) (by simp)) _) | (refine Below.via' ?_ (by assumption)) | (refine Below.alloc ?_ (by first | omega | (simp; done) | (simp; omega) | exact Below.size (by assumption) | exact Nat.le_trans (Below.size (by assumption)) (by simp)) _) | (refine Below.via ?_ (by assumption) (by first | omega | (simp; done) | (simp; omega) | exact Below.size (by assumption) | exact Nat.le_trans (Below.size (by assumption)) (by simp)))))
  have q1 : Hid (TQ w0 w.heap.size l x n1 c z W.length d m) := by rw [hw0]; exact p1.out
  clear p1
  have hWh := Lib.hid (hW.2.2.below B0)
  have hVh := Lib.hid (hV.2.2.below B0)
  have hVl := hV.1
  have hfl := Lib.hid hf.1
  have hfh := Lib.hid hf.2
  clear hW hV hf
  go_enter Try.func120, Try.ntmps120
  replace hw0 := Lib.hid hw0
  go_wp2
  rw [← hw0.out]
  go_loopw [10] (fun c wr => ∃ i : Nat, i ≤ W.length ∧ c = .int .i64 i ∧ Hid (∀ j, j < i → ∃ x v, W[j]? = some x ∧ V[j]? = some v ∧ (x = 0 ∨ hsB x v = true)) ∧ Below w0.heap.size w0 wr) (fun c _ => W.length - (intOf c).toNat)
  case atStart => exact ⟨0, by omega, rfl, (fun j hj => absurd hj (by omega)), Below.refl _ _⟩
  case round =>
    obtain ⟨i, hi, rfl, hall, hb⟩ := hrel
    have Bw : Below w.heap.size w wr := Below.via' B0 hb
    by_cases hlt : i < W.length
    · obtain ⟨x', v', hWi, hVi, x0, x1, v0, v1⟩ := hfh.out i hlt
      obtain ⟨bl, off, x2, rfl, hbl, hWi2, hc0⟩ := (hWh.out.below hb).int (i := i) hlt
      obtain ⟨bl2, off2, v2, rfl, hbl2, hVi2, hc1⟩ := (hVh.out.below hb).int (i := i) (by have := hfl.out; omega)
      obtain rfl := Option.some.inj (hWi2.symm.trans hWi)
      obtain rfl := Option.some.inj (hVi2.symm.trans hVi)
      clear hWi2 hVi2
      obtain ⟨k, rfl⟩ := Int.eq_ofNat_of_zero_le v0
      have hlt' : (i : Int) < (W.length : Int) := by omega
      have hlt2 : (i : Int) < (V.length : Int) := by have := hfl.out; omega
      have hi0 : (0 : Int) ≤ (i : Int) := by omega
      have hsv := shr_one x0 (by omega) k
      have hwu : IntKind.u64.wrap (k : Int) = k := by rw [show IntKind.u64.wrap (k : Int) = (k : Int) % 18446744073709551616 by simp [IntKind.wrap, IntKind.bits, IntKind.signed]]; omega
      have hk8 : k ≤ 8 := by omega
      by_cases hz : x2 = 0
      · have hz' : (x2 != 0) = false := by rw [hz]; rfl
        have hok : Hid (x2 = 0 ∨ hsB x2 (k : Int) = true) := Or.inl hz
        replace hz := Lib.hid hz
        replace hWi := Lib.hid hWi
        replace hVi := Lib.hid hVi
        replace hsv := Lib.hid hsv
        go_wp2
        go_roundw
        case rel =>
          refine ⟨i + 1, by omega, by go_num, fun j hj => ?_, (by repeat (first | exact Below.refl _ _ | assumption | refine Below.drew ?_ | refine below_drewN ?_ _ | refine Below.alloc' ?_ _ | (refine Below.setCell ?_ (by first | omega | (simp; done) | (simp; omega) | exact Below.size (by assumption) | exact Nat.le_trans (Below.size (by assumption)) (by simp)) _) | (refine Below.via' ?_ (by assumption)) | (refine Below.alloc ?_ (by first | omega | (simp; done) | (simp; omega) | exact Below.size (by assumption) | exact Nat.le_trans (Below.size (by assumption)) (by simp)) _) | (refine Below.via ?_ (by assumption) (by first | omega | (simp; done) | (simp; omega) | exact Below.size (by assumption) | exact Nat.le_trans (Below.size (by assumption)) (by simp)))))⟩
          rcases Nat.lt_or_ge j i with hj2 | hj2
          · exact hall.out j hj2
          · obtain rfl : j = i := by omega
            exact ⟨_, _, hWi.out, hVi.out, hok.out⟩
        case measure => simp [intOf]; omega
      have hz' : (x2 != 0) = true := by simpa using hz
      cases hh : hsB x2 (k : Int)
      · have hv := Lib.hid (tm_bad hWi hVi hz hh)
        replace hz := Lib.hid hz
        replace hWi := Lib.hid hWi
        replace hVi := Lib.hid hVi
        rw [hh] at hsv
        have hzz : (bits .and .i64 (x2 / 2 ^ k) 1 == 0) = true := by rw [hsv]; rfl
        replace hsv := Lib.hid hsv
        go_wp2
        go_ret
        exact ⟨ret_bool hv.out.symm, Bw⟩
      · have hok : Hid (x2 = 0 ∨ hsB x2 (k : Int) = true) := Or.inr hh
        replace hz := Lib.hid hz
        replace hWi := Lib.hid hWi
        replace hVi := Lib.hid hVi
        rw [hh] at hsv
        have hzz : (bits .and .i64 (x2 / 2 ^ k) 1 == 0) = false := by rw [hsv]; rfl
        replace hsv := Lib.hid hsv
        have hhh := Lib.hid hh
        clear hh
        go_wp2
        go_roundw
        case rel =>
          refine ⟨i + 1, by omega, by go_num, fun j hj => ?_, (by repeat (first | exact Below.refl _ _ | assumption | refine Below.drew ?_ | refine below_drewN ?_ _ | refine Below.alloc' ?_ _ | (refine Below.setCell ?_ (by first | omega | (simp; done) | (simp; omega) | exact Below.size (by assumption) | exact Nat.le_trans (Below.size (by assumption)) (by simp)) _) | (refine Below.via' ?_ (by assumption)) | (refine Below.alloc ?_ (by first | omega | (simp; done) | (simp; omega) | exact Below.size (by assumption) | exact Nat.le_trans (Below.size (by assumption)) (by simp)) _) | (refine Below.via ?_ (by assumption) (by first | omega | (simp; done) | (simp; omega) | exact Below.size (by assumption) | exact Nat.le_trans (Below.size (by assumption)) (by simp)))))⟩
          rcases Nat.lt_or_ge j i with hj2 | hj2
          · exact hall.out j hj2
          · obtain rfl : j = i := by omega
            exact ⟨_, _, hWi.out, hVi.out, hok.out⟩
        case measure => simp [intOf]; omega
    · have hij : i = W.length := by omega
      subst hij
      have hv := Lib.hid (tm_all hall.out)
      clear hall
      go_wp2
      go_ret
      exact ⟨ret_bool hv.out.symm, Bw⟩

set_option maxHeartbeats 1000000 in
theorem indexAt_any (y : Option Addr) (c : Nat) (L : List Int) (n : Int) (w : World) (hL : IIn w y L) :
    Calls Try.prog 112 #[.slice y L.length c, .int .i64 n] w fun e w' => e = .returned (.int .i64 (fdI L n)) ∧ w = w' := by
  have hLh := Lib.hid hL
  have hLl := hL.1
  clear hL
  go_enter Try.func112, Try.ntmps112
  go_wp2
  go_loopw [8] (fun c wr => ∃ i : Nat, i ≤ L.length ∧ c = .int .i64 i ∧ Hid (∀ j, j < i → ¬ L[j]? = some n) ∧ w = wr) (fun c _ => L.length - (intOf c).toNat)
  case atStart => exact ⟨0, by omega, rfl, (fun j hj => absurd hj (by omega)), rfl⟩
  case round =>
    obtain ⟨i, hi, rfl, hall, rfl⟩ := hrel
    by_cases hlt : i < L.length
    · obtain ⟨bl, off, v, rfl, hbl, hLi, hc0⟩ := hLh.out.2.2.int hlt
      have hLih := Lib.hid hLi
      have hlt' : (i : Int) < (L.length : Int) := by omega
      have hi0 : (0 : Int) ≤ (i : Int) := by omega
      clear hLi
      by_cases he : v = n
      · have hv := Lib.hid (fdI_hit (he ▸ hLih.out) hall.out)
        have heb : (n == v) = true := by rw [beq_iff_eq]; first | exact he | exact he.symm
        replace he := Lib.hid he
        go_wp2
        go_ret
        exact ⟨ret_int hv.out.symm, rfl⟩
      · have heb : (n == v) = false := by rw [beq_eq_false_iff_ne]; first | exact he | exact fun h => he h.symm
        have hne : Hid (¬ L[i]? = some n) := by unfold Hid; rw [hLih.out]; intro h; exact he (Option.some.inj h)
        replace he := Lib.hid he
        go_wp2
        go_roundw
        case rel =>
          refine ⟨i + 1, by omega, by go_num, fun j hj => ?_, by first | rfl | trivial⟩
          rcases Nat.lt_or_ge j i with hj2 | hj2
          · exact hall.out j hj2
          · obtain rfl : j = i := by omega
            exact hne.out
        case measure => simp [intOf]; omega
    · have hij : i = L.length := by omega
      subst hij
      have hv := Lib.hid (fdI_miss (L := L) (n := n) (fun h => by
        obtain ⟨j, hj, e⟩ := List.getElem_of_mem h
        exact absurd (by rw [List.getElem?_eq_getElem hj, e]) (hall.out j hj)))
      clear hall
      go_wp2
      go_ret
      exact ⟨ret_int hv.out.symm, rfl⟩
set_option maxHeartbeats 1000000 in
theorem l1Find_any (y : Option Addr) (c : Nat) (L : List Int) (n : Int) (w : World) (hL : IIn w y L) :
    Calls Try.prog 72 #[.slice y L.length c, .int .i64 n] w fun e w' => e = .returned (.int .i64 (fdI L n)) ∧ w = w' := by
  have hLh := Lib.hid hL
  have hLl := hL.1
  clear hL
  go_enter Try.func72, Try.ntmps72
  go_wp2
  go_loopw [9] (fun c wr => ∃ i : Nat, i ≤ L.length ∧ c = .int .i64 i ∧ Hid (∀ j, j < i → ¬ L[j]? = some n) ∧ w = wr) (fun c _ => L.length - (intOf c).toNat)
  case atStart => exact ⟨0, by omega, rfl, (fun j hj => absurd hj (by omega)), rfl⟩
  case round =>
    obtain ⟨i, hi, rfl, hall, rfl⟩ := hrel
    by_cases hlt : i < L.length
    · obtain ⟨bl, off, v, rfl, hbl, hLi, hc0⟩ := hLh.out.2.2.int hlt
      have hLih := Lib.hid hLi
      have hlt' : (i : Int) < (L.length : Int) := by omega
      have hi0 : (0 : Int) ≤ (i : Int) := by omega
      clear hLi
      by_cases he : v = n
      · have hv := Lib.hid (fdI_hit (he ▸ hLih.out) hall.out)
        have heb : (v == n) = true := by rw [beq_iff_eq]; first | exact he | exact he.symm
        replace he := Lib.hid he
        go_wp2
        go_ret
        exact ⟨ret_int hv.out.symm, rfl⟩
      · have heb : (v == n) = false := by rw [beq_eq_false_iff_ne]; first | exact he | exact fun h => he h.symm
        have hne : Hid (¬ L[i]? = some n) := by unfold Hid; rw [hLih.out]; intro h; exact he (Option.some.inj h)
        replace he := Lib.hid he
        go_wp2
        go_roundw
        case rel =>
          refine ⟨i + 1, by omega, by go_num, fun j hj => ?_, by first | rfl | trivial⟩
          rcases Nat.lt_or_ge j i with hj2 | hj2
          · exact hall.out j hj2
          · obtain rfl : j = i := by omega
            exact hne.out
        case measure => simp [intOf]; omega
    · have hij : i = L.length := by omega
      subst hij
      have hv := Lib.hid (fdI_miss (L := L) (n := n) (fun h => by
        obtain ⟨j, hj, e⟩ := List.getElem_of_mem h
        exact absurd (by rw [List.getElem?_eq_getElem hj, e]) (hall.out j hj)))
      clear hall
      go_wp2
      go_ret
      exact ⟨ret_int hv.out.symm, rfl⟩
end Go.Proofs.Ytgkaalonmkcclaa

namespace Go.Proofs.Ytgkaalonmkcclaa
open Go.RowKit
set_option maxRecDepth 100000

theorem vC_two (a : ByteArray) (n : Int) : vC [(a, n)] = [.string a, .int .i64 n] := rfl

theorem step_append_rd {P : Program} (w : World) {ops : Array Oper} {o : Oper} {a : Act} {K : Act → World → Prop} {Q : Exit → Act → World → Prop} {E : Prop} (hgd : o.guard = none) (s x : Operand) (t : TypeId)
    (ho : o.op = .call { callee := .builtin .append, args := #[s, x], argTypes := #[t, t] })
    (base : Nat) (e : TypeId) (i : TypeInfo) (z : Value) (size bytes : Nat) (ht : P.underlying t = some (.slice e)) (hi : P.info? e = some i) (hz : i.zero = some z)
    (hsize : i.size = size) (hby : i.bytes = bytes) (hzs : z.cells.size = size) (hsz : 0 < size)
    (v : Value) (n : Nat) (xs : List Value) (hs : a.eval s = v) (hown : w.ownsRow base e size v n xs)
    (A : Option Addr) (m c : Nat) (hx : a.eval x = .slice A m c) (hc : m ≤ c) (hnil : A = none → c = 0) (news : List Value) (hl : news.length = m * size) (hr : Rd w A news) (h1 : ∀ u ∈ news, u.oneCell' = true)
    (h63 : n + m ≤ maxLen) (hbytes : (n + m) * bytes ≤ 140737488355328) (hbase : base ≤ w.heap.size)
    (h : ∀ v' w', w'.ownsRow base e size v' (n + m) (xs ++ news) → w.grownBy w' v.ownBlock → (v'.ownBlock = v.ownBlock ∨ v'.ownBlock = some w.heap.size) → K (a.put o.dst v') w') :
    if Region.wanted o (yielded ops a.tmps) = true then Oper.wp P o a w K Q else E := by
  have hw : Region.wanted o (yielded ops a.tmps) = true := by simp [Region.wanted, hgd]
  rw [if_pos hw]
  obtain ⟨v', w', hrun, h2, h3, h4⟩ := run_append_rd (P := P) w base t o.type e i z size bytes ht hi hz hsize hby hzs hsz v n xs hown A m c hc hnil news hl hr h1 h63 hbytes hbase
  unfold Oper.wp execOp
  simp only [ho, resolve, invoke, builtin, Sem.run_bind, Sem.run_pure, Result.andThen_ok, List.map_toArray, List.map_cons, List.map_nil, hs, hx, hrun]
  exact h v' w' h2 h3 h4
theorem Rd.oneV (w : World) (t : TypeId) (s : ByteArray) (n : Int) : Rd (w.alloc (.cells #[.string s, .int .i64 n] t)) (some ⟨w.heap.size, 0, none⟩) (vC [(s, n)]) := by
  refine Or.inr ⟨w.heap.size, 0, rfl, by simp, fun j u hj => ?_⟩
  rw [vC_two] at hj
  rw [Nat.zero_add, World.cell?_alloc_at _ _ _ _ rfl, ← hj, ← Array.getElem?_toList]
theorem Rd.drewW {w : World} {x : Option Addr} {xs : List Value} (h : Rd w x xs) : Rd w.drew x xs := h

end Go.Proofs.Ytgkaalonmkcclaa

namespace Go.Proofs.Ytgkaalonmkcclaa
open Go.RowKit
set_option maxRecDepth 100000

theorem tbI64 {V F : List Int} (h : ∀ n ∈ V, IsI64 n) : ∀ n ∈ tbV V F, IsI64 n := by
  intro n hn
  unfold tbV at hn
  rw [List.mem_map] at hn
  obtain ⟨i, -, rfl⟩ := hn
  rw [List.getD_eq_getElem?_getD]
  rcases Nat.lt_or_ge i.toNat V.length with hl | hl
  · rw [List.getElem?_eq_getElem hl]; exact h _ (List.getElem_mem hl)
  · rw [List.getElem?_eq_none hl]; show IsI64 0; unfold IsI64; omega
/-- Places in a list. -/
def InP (n : Nat) (F : List Int) : Prop := F.length ≤ 6 ∧ ∀ (k : Nat) (i : Int), F[k]? = some i → 0 ≤ i ∧ i.toNat < n
theorem inP_of {S : List (ByteArray × Int)} {F : List Int} {n : Nat} (hs : schB S = true) (h : rsB S F = true) (hn : n = S.length) : InP n F := by
  have h6 := schB_len hs
  have hl := rsB_len h
  refine ⟨by omega, fun k i hk => ?_⟩
  have := rsB_bd h hk
  omega

set_option maxHeartbeats 2000000 in
theorem elemsI_any (x y : Option Addr) (c1 c2 : Nat) (V F : List Int) (w : World) (hp : InP V.length F) (hV : IIn w y V) (hF : Rd w x (iC F)) :
    Calls Try.prog 124 #[.slice y V.length c1, .slice x F.length c2] w fun e w' => e = .returned (.slice (some ⟨w.heap.size, 0, none⟩) F.length F.length) ∧ w'.ownsRow w.heap.size 3 1 (.slice (some ⟨w.heap.size, 0, none⟩) F.length F.length) F.length (iC (tbV V F)) ∧ Below w.heap.size w w' := by
  obtain ⟨i0, hi, hz0, hz1, hz2⟩ := info_parts Try.infoInt
  have h6 := hp.1
  have hph := Lib.hid hp.2
  have hVl := hV.1
  have hVh := Lib.hid hV.2.2
  have hFh := Lib.hid hF
  clear hp hV hF
  have hbb : i0.bytes * F.length ≤ 281474976710656 := by rw [hz2]; omega
  have hmm : F.length ≤ maxLen := by unfold maxLen; omega
  go_enter Try.func124, Try.ntmps124
  go_wp2_with (at_make; go_loud (refine wpList_make_full _ rfl _ _ 22 rfl w.heap.size 3 i0 (.int .i64 0) 1 Try.underlying22 hi hz0 hz1 .i64 .i64 _ _ F.length rfl rfl rfl rfl hbb hmm (Nat.le_refl _) (fun w1 hown hgrow => ?_)))
  have hb1 : Below w.heap.size w w1 := (Below.refl _ _).grown hgrow (Nat.le_refl _) (by intro k hk; cases hk)
  clear hgrow hi hz0 hz1 hz2
  go_loopw [13] (fun c wr => ∃ (i : Nat) (xs : List Value), i ≤ F.length ∧ c = .int .i64 i ∧ wr.ownsRow w.heap.size 3 1 (.slice (some ⟨w.heap.size, 0, none⟩) F.length F.length) F.length xs ∧ Hid (∀ j, j < i → xs[j]? = (iC (tbV V F))[j]?) ∧ Below w.heap.size w wr) (fun c _ => F.length - (intOf c).toNat)
  case atStart => exact ⟨0, _, by omega, rfl, hown, (fun j hj => absurd hj (by omega)), hb1⟩
  case round =>
    clear hown hb1
    obtain ⟨i, xs, hi, rfl, hown, hdone, hb⟩ := hrel
    by_cases hlt : i < F.length
    · obtain ⟨bl, off, v, rfl, hbl, hFv, hc0⟩ := (hFh.out.below hb).int hlt
      obtain ⟨p0, p1⟩ := hph.out i v hFv
      obtain ⟨n, rfl⟩ := Int.eq_ofNat_of_zero_le p0
      rw [Int.toNat_natCast] at p1
      obtain ⟨bl2, off2, v2, rfl, hbl2, hVv, hc1⟩ := (hVh.out.below hb).int p1
      have hat := Lib.hid (iC_at (tbV_at (V := V) hFv (by rw [Int.toNat_natCast]; exact hVv)))
      obtain ⟨u, hu, k0⟩ := own_cell hown (j := i) (by omega)
      have k2 := hown.frozenAt i
      have k4 := (own_lt hown).2
      have hu := Lib.hid hu
      have hFv := Lib.hid hFv
      have hVv := Lib.hid hVv
      have hlt' : (i : Int) < (F.length : Int) := by omega
      have hlt2 : (n : Int) < (V.length : Int) := by omega
      go_wp2
      go_roundw
      case rel =>
        refine ⟨i + 1, _, by omega, by go_num, (hown.stored i (.int .i64 v2)).1, ?_, (by repeat (first | exact Below.refl _ _ | assumption | refine Below.drew ?_ | refine below_drewN ?_ _ | refine Below.alloc' ?_ _ | (refine Below.setCell ?_ (by first | omega | (simp; done) | (simp; omega) | exact Below.size (by assumption) | exact Nat.le_trans (Below.size (by assumption)) (by simp)) _) | (refine Below.via' ?_ (by assumption)) | (refine Below.alloc ?_ (by first | omega | (simp; done) | (simp; omega) | exact Below.size (by assumption) | exact Nat.le_trans (Below.size (by assumption)) (by simp)) _) | (refine Below.via ?_ (by assumption) (by first | omega | (simp; done) | (simp; omega) | exact Below.size (by assumption) | exact Nat.le_trans (Below.size (by assumption)) (by simp)))))⟩
        intro j hj
        rw [List.getElem?_set]
        have hlen : xs.length = F.length := by rw [hown.1]; omega
        split
        · subst_vars
          rw [if_pos (by omega), hat.out]
        · exact hdone.out j (by omega)
      case measure => simp [intOf]; omega
    · have hij : i = F.length := by omega
      subst hij
      have hxs : xs = iC (tbV V F) := by
        have hlen : xs.length = F.length := by rw [hown.1]; omega
        apply List.ext_getElem?
        intro j
        rcases Nat.lt_or_ge j F.length with hj | hj
        · exact hdone.out j hj
        · rw [List.getElem?_eq_none (by omega), List.getElem?_eq_none (by rw [iC_len, tbV_len]; omega)]
      subst hxs
      have hown := Lib.hid hown
      clear hdone
      go_wp2
      go_ret
      exact ⟨rfl, hown.out, hb⟩

set_option maxHeartbeats 2000000 in
theorem elemsV_any (x y : Option Addr) (c1 c2 : Nat) (S : List (ByteArray × Int)) (F : List Int) (w : World) (hp : InP S.length F) (hS : Rd w y (vC S)) (hF : Rd w x (iC F)) :
    Calls Try.prog 109 #[.slice y S.length c1, .slice x F.length c2] w fun e w' => e = .returned (.slice (some ⟨w.heap.size, 0, none⟩) F.length F.length) ∧ w'.ownsRow w.heap.size 86 2 (.slice (some ⟨w.heap.size, 0, none⟩) F.length F.length) F.length (vC (tbS S F)) ∧ Below w.heap.size w w' := by
  obtain ⟨i0, hi, hz0, hz1, hz2⟩ := info_parts Try.infoVar
  have h6 := hp.1
  have hph := Lib.hid hp.2
  have hSh := Lib.hid hS
  have hFh := Lib.hid hF
  clear hp hS hF
  have hbb : i0.bytes * F.length ≤ 281474976710656 := by rw [hz2]; omega
  have hmm : F.length ≤ maxLen := by unfold maxLen; omega
  go_enter Try.func109, Try.ntmps109
  go_wp2_with (at_make; go_loud (refine wpList_make_full _ rfl _ _ 35 rfl w.heap.size 86 i0 (.agg #[.string ⟨#[]⟩, .int .i64 0]) 2 Try.underlying35 hi hz0 hz1 .i64 .i64 _ _ F.length rfl rfl rfl rfl hbb hmm (Nat.le_refl _) (fun w1 hown hgrow => ?_)))
  have hb1 : Below w.heap.size w w1 := (Below.refl _ _).grown hgrow (Nat.le_refl _) (by intro k hk; cases hk)
  clear hgrow hi hz0 hz1 hz2
  go_loopw [13] (fun c wr => ∃ (i : Nat) (xs : List Value), i ≤ F.length ∧ c = .int .i64 i ∧ wr.ownsRow w.heap.size 86 2 (.slice (some ⟨w.heap.size, 0, none⟩) F.length F.length) F.length xs ∧ Hid (∀ j, j < i * 2 → xs[j]? = (vC (tbS S F))[j]?) ∧ Below w.heap.size w wr) (fun c _ => F.length - (intOf c).toNat)
  case atStart => exact ⟨0, _, by omega, rfl, hown, (fun j hj => absurd hj (by omega)), hb1⟩
  case round =>
    clear hown hb1
    obtain ⟨i, xs, hi, rfl, hown, hdone, hb⟩ := hrel
    by_cases hlt : i < F.length
    · obtain ⟨bl, off, v, rfl, hbl, hFv, hc0⟩ := (hFh.out.below hb).int hlt
      obtain ⟨p0, p1⟩ := hph.out i v hFv
      obtain ⟨n, rfl⟩ := Int.eq_ofNat_of_zero_le p0
      rw [Int.toNat_natCast] at p1
      obtain ⟨bl2, off2, nm, lv, rfl, hbl2, hSv, hc1, hc2⟩ := (hSh.out.below hb).var p1
      have hat0 := Lib.hid (vC_at0 (tbS_at (S := S) hFv (by rw [Int.toNat_natCast]; exact hSv)))
      have hat1 := Lib.hid (vC_at1 (tbS_at (S := S) hFv (by rw [Int.toNat_natCast]; exact hSv)))
      obtain ⟨u, hu, k0⟩ := own_cell hown (j := i * 2) (by omega)
      obtain ⟨u', hu', k1⟩ := own_cell hown (j := i * 2 + 1) (by omega)
      have k2 := hown.frozenAt (i * 2)
      have k3 := hown.frozenAt (i * 2 + 1)
      have k4 := (own_lt hown).2
      have hu := Lib.hid hu
      have hu' := Lib.hid hu'
      have hFv := Lib.hid hFv
      have hSv := Lib.hid hSv
      have hlt' : (i : Int) < (F.length : Int) := by omega
      have hlt2 : (n : Int) < (S.length : Int) := by omega
      go_wp2
      go_roundw
      case rel =>
        refine ⟨i + 1, _, by omega, by go_num, ((hown.stored (i * 2) (.string nm)).1.stored (i * 2 + 1) (.int .i64 lv)).1, ?_, (by repeat (first | exact Below.refl _ _ | assumption | refine Below.drew ?_ | refine below_drewN ?_ _ | refine Below.alloc' ?_ _ | (refine Below.setCell ?_ (by first | omega | (simp; done) | (simp; omega) | exact Below.size (by assumption) | exact Nat.le_trans (Below.size (by assumption)) (by simp)) _) | (refine Below.via' ?_ (by assumption)) | (refine Below.alloc ?_ (by first | omega | (simp; done) | (simp; omega) | exact Below.size (by assumption) | exact Nat.le_trans (Below.size (by assumption)) (by simp)) _) | (refine Below.via ?_ (by assumption) (by first | omega | (simp; done) | (simp; omega) | exact Below.size (by assumption) | exact Nat.le_trans (Below.size (by assumption)) (by simp)))))⟩
        intro j hj
        have hlen : xs.length = F.length * 2 := by rw [hown.1]
        rw [List.getElem?_set, List.getElem?_set]
        split
        · subst_vars
          rw [if_pos (by simp; omega), hat1.out]
        · split
          · subst_vars
            rw [if_pos (by omega), hat0.out]
          · exact hdone.out j (by omega)
      case measure => simp [intOf]; omega
    · have hij : i = F.length := by omega
      subst hij
      have hxs : xs = vC (tbS S F) := by
        have hlen : xs.length = F.length * 2 := by rw [hown.1]
        apply List.ext_getElem?
        intro j
        rcases Nat.lt_or_ge j (F.length * 2) with hj | hj
        · exact hdone.out j hj
        · rw [List.getElem?_eq_none (by omega), List.getElem?_eq_none (by rw [vC_len, tbS_len]; omega)]
      subst hxs
      have hown := Lib.hid hown
      clear hdone
      go_wp2
      go_ret
      exact ⟨rfl, hown.out, hb⟩

set_option maxHeartbeats 2000000 in
theorem sPick_any (x y : Option Addr) (c1 c2 : Nat) (V F : List Int) (w : World) (hp : InP V.length F) (hV : IIn w y V) (hF : Rd w x (iC F)) :
    Calls Try.prog 121 #[.slice y V.length c1, .slice x F.length c2] w fun e w' => ∃ u, e = .returned u ∧ w'.ownsRow w.heap.size 3 1 u (tbV V F).length (iC (tbV V F)) ∧ Below w.heap.size w w' := by
  obtain ⟨i0, hii, hz0, hz1, hz2⟩ := info_parts Try.infoInt
  have h6 := hp.1
  have hph := Lib.hid hp.2
  have hVl := hV.1
  have hVh := Lib.hid hV.2.2
  have hFh := Lib.hid hF
  clear hp hV hF
  go_enter Try.func121, Try.ntmps121
  go_wp2
  go_loopw [5, 10] (fun u c wr => ∃ i : Nat, i ≤ F.length ∧ c = .int .i64 i ∧ wr.ownsRow w.heap.size 3 1 u (tbV V (F.take i)).length (iC (tbV V (F.take i))) ∧ Below w.heap.size w wr) (fun _ c _ => F.length - (intOf c).toNat)
  case atStart => exact ⟨0, by omega, rfl, World.ownsRow_nil _ _ _ _, Below.refl _ _⟩
  case round =>
    obtain ⟨i, hi, rfl, hown, hb⟩ := hrel
    have hownh := Lib.hid hown
    clear hown
    have hl : (tbV V (F.take i)).length ≤ 6 := by rw [tbV_len, List.length_take]; omega
    by_cases hlt : i < F.length
    · obtain ⟨bl, off, v, rfl, hbl, hFv, hc0⟩ := (hFh.out.below hb).int hlt
      obtain ⟨p0, p1⟩ := hph.out i v hFv
      obtain ⟨n, rfl⟩ := Int.eq_ofNat_of_zero_le p0
      rw [Int.toNat_natCast] at p1
      obtain ⟨bl2, off2, v2, rfl, hbl2, hVv, hc1⟩ := (hVh.out.below hb).int p1
      have hsel := Lib.hid (tbV_snoc V hFv (by rw [Int.toNat_natCast]; exact hVv))
      have hFv := Lib.hid hFv
      have hVv := Lib.hid hVv
      have hlt' : (i : Int) < (F.length : Int) := by omega
      have hlt2 : (n : Int) < (V.length : Int) := by omega
      have hs0 := hb.size
      go_wp2_with (at_builtin; go_loud (refine wpList_append_rd _ rfl (.tmp 14) (.tmp 19) 22 rfl (w.heap.size) 3 i0 (.int .i64 0) 1 8 Try.underlying22 hii hz0 hz1 hz2 rfl (by decide) _ (tbV V (F.take i)).length (iC (tbV V (F.take i))) rfl ((hownh.out.alloc _)) _ 1 1 rfl (Nat.le_refl _) (by intro h; cases h) (iC [(v2 : Int)]) rfl (rd_oneE _ _ _ _ (by simp)) (iC_one _) (by unfold maxLen; omega) (by omega) (by simp; omega) ?_); intro v3 w3 hown3 hgrow3 hwhere3)
      obtain ⟨hb3, hl3⟩ := append_below hb (fun k hk => (hownh.out.lt k hk).1) hgrow3 hwhere3
      have hown3 := Lib.hid (own_snocE hown3 hsel.out rfl)
      clear hgrow3 hwhere3
      go_wp2
      go_roundw
      case rel => exact ⟨i + 1, by omega, by go_num, hown3.out, hb3⟩
      case measure => simp [intOf]; omega
    · have hij : i = F.length := by omega
      subst hij
      have hown := Lib.hid (show wr.ownsRow w.heap.size 3 1 u5 (tbV V F).length (iC (tbV V F)) by have h0 := hownh.out; rwa [List.take_length] at h0)
      go_wp2
      go_ret
      exact ⟨_, rfl, hown.out, hb⟩

set_option maxHeartbeats 2000000 in
theorem sPart_any (x y : Option Addr) (c1 c2 : Nat) (S : List (ByteArray × Int)) (F : List Int) (w : World) (hp : InP S.length F) (hS : Rd w y (vC S)) (hF : Rd w x (iC F)) :
    Calls Try.prog 71 #[.slice y S.length c1, .slice x F.length c2] w fun e w' => ∃ u, e = .returned u ∧ w'.ownsRow w.heap.size 86 2 u (tbS S F).length (vC (tbS S F)) ∧ Below w.heap.size w w' := by
  obtain ⟨i0, hii, hz0, hz1, hz2⟩ := info_parts Try.infoVar
  have h6 := hp.1
  have hph := Lib.hid hp.2
  have hSh := Lib.hid hS
  have hFh := Lib.hid hF
  clear hp hS hF
  go_enter Try.func71, Try.ntmps71
  go_wp2
  go_loopw [5, 10] (fun u c wr => ∃ i : Nat, i ≤ F.length ∧ c = .int .i64 i ∧ wr.ownsRow w.heap.size 86 2 u (tbS S (F.take i)).length (vC (tbS S (F.take i))) ∧ Below w.heap.size w wr) (fun _ c _ => F.length - (intOf c).toNat)
  case atStart => exact ⟨0, by omega, rfl, World.ownsRow_nil _ _ _ _, Below.refl _ _⟩
  case round =>
    obtain ⟨i, hi, rfl, hown, hb⟩ := hrel
    have hownh := Lib.hid hown
    clear hown
    have hl : (tbS S (F.take i)).length ≤ 6 := by rw [tbS_len, List.length_take]; omega
    by_cases hlt : i < F.length
    · obtain ⟨bl, off, v, rfl, hbl, hFv, hc0⟩ := (hFh.out.below hb).int hlt
      obtain ⟨p0, p1⟩ := hph.out i v hFv
      obtain ⟨n, rfl⟩ := Int.eq_ofNat_of_zero_le p0
      rw [Int.toNat_natCast] at p1
      obtain ⟨bl2, off2, nm, lv, rfl, hbl2, hSv, hc1, hc2⟩ := (hSh.out.below hb).var p1
      have hsel := Lib.hid (tbS_snoc S hFv (by rw [Int.toNat_natCast]; exact hSv))
      have hFv := Lib.hid hFv
      have hSv := Lib.hid hSv
      have hlt' : (i : Int) < (F.length : Int) := by omega
      have hlt2 : (n : Int) < (S.length : Int) := by omega
      have hs0 := hb.size
      go_wp2_with (at_builtin; go_loud (refine wpList_append_rd _ rfl (.tmp 14) (.tmp 19) 35 rfl w.heap.size 86 i0 (.agg #[.string ⟨#[]⟩, .int .i64 0]) 2 24 Try.underlying35 hii hz0 hz1 hz2 rfl (by decide) _ (tbS S (F.take i)).length (vC (tbS S (F.take i))) rfl (hownh.out.alloc _) _ 1 1 rfl (Nat.le_refl _) (by intro h; cases h) (vC [(nm, lv)]) rfl (Rd.oneV _ _ _ _) (vC_one _) (by unfold maxLen; omega) (by omega) (by simp; omega) ?_); intro v3 w3 hown3 hgrow3 hwhere3)
      obtain ⟨hb3, hl3⟩ := append_below hb (fun k hk => (hownh.out.lt k hk).1) hgrow3 hwhere3
      have hown4 := Lib.hid (own_eq (n' := (tbS S (F.take i) ++ [(nm, lv)]).length) hown3 (by simp) (vC_app _ _).symm)
      clear hgrow3 hwhere3 hown3
      go_wp2
      go_roundw
      case rel => exact ⟨i + 1, by omega, by go_num, by rw [hsel.out]; exact hown4.out, hb3⟩
      case measure => simp [intOf]; omega
    · have hij : i = F.length := by omega
      subst hij
      have hown := Lib.hid (show wr.ownsRow w.heap.size 86 2 u5 (tbS S F).length (vC (tbS S F)) by have h0 := hownh.out; rwa [List.take_length] at h0)
      go_wp2
      go_ret
      exact ⟨_, rfl, hown.out, hb⟩
end Go.Proofs.Ytgkaalonmkcclaa

namespace Go.Proofs.Ytgkaalonmkcclaa
open Go.RowKit
set_option maxRecDepth 100000

theorem ty_bad {P : List Int} {M : List RV} {i : Nat} {r : RV} (h : M[i]? = some r) (k : (lfL P).contains r.1 = false) : tyB P M = false := by
  unfold tyB
  rw [List.all_eq_false]
  exact ⟨r, List.mem_of_getElem? h, by rw [k]; decide⟩
theorem ty_all {P : List Int} {M : List RV} (h : ∀ j, j < M.length → ∃ r, M[j]? = some r ∧ (lfL P).contains r.1 = true) : tyB P M = true := by
  unfold tyB
  rw [List.all_eq_true]
  intro r hr
  obtain ⟨j, hj, e⟩ := List.getElem_of_mem hr
  obtain ⟨r2, h1, h2⟩ := h j hj
  rw [List.getElem?_eq_getElem hj, e] at h1
  cases h1
  exact h2
theorem sel_i64 {p : Nat → Bool} {k : Nat} (hk : k ≤ 1000) : ∀ n ∈ selK p k, IsI64 n := by
  intro n hn
  obtain ⟨i, rfl, hi, -⟩ := sel_mem.1 hn
  unfold IsI64
  omega
theorem iin_sel {w : World} {x : Option Addr} {p : Nat → Bool} {k : Nat} (hk : k ≤ 1000) (h : Rd w x (iC (selK p k))) : IIn w x (selK p k) := ⟨by have := sel_len p k; omega, sel_i64 hk, h⟩
set_option maxHeartbeats 4000000 in
theorem isSurveyFor_any (x y z : Option Addr) (c c1 c2 : Nat) (P : List Int) (S : List (ByteArray × Int)) (Q : List PR) (w : World) (hg : geB P = true) (hs : schB S = true) (hP : IIn w x P) (hS : SIn w y c1 S) (hQ : DIn w z Q) :
    Calls Try.prog 85 #[.agg #[.slice x P.length c], .slice y S.length c1, .slice z Q.length c2] w fun e w' => e = .returned (.bool (dokB S (pM Q) && tyB P (pM Q))) ∧ Below w.heap.size w w' := by
  have hm := hS.1
  have hQl := hQ.1
  have hl30 := (ge_len hg).2
  have hq := Lib.hid (QB.new w x P.length c 33)
  have hPh := Lib.hid hP
  have hSh := Lib.hid hS
  have hQh := Lib.hid hQ
  have hgh := Lib.hid hg
  have hsh := Lib.hid hs
  clear hP hS hQ hg hs
  go_enter Try.func85, Try.ntmps85
  go_wp2_with fail
  refine (areDataFor_any _ _ _ _ S Q _ hsh.out hm (hSh.out.rd.below (by exact (by repeat (first | exact Below.refl _ _ | assumption | refine Below.drew ?_ | refine below_drewN ?_ _ | refine Below.alloc' ?_ _ | (refine Below.setCell ?_ (by first | omega | (simp; done) | (simp; omega) | exact Below.size (by assumption) | exact Nat.le_trans (Below.size (by assumption)) (by simp)) _) | (refine Below.via' ?_ (by assumption)) | (refine Below.alloc ?_ (by first | omega | (simp; done) | (simp; omega) | exact Below.size (by assumption) | exact Nat.le_trans (Below.size (by assumption)) (by simp)) _) | (refine Below.via ?_ (by assumption) (by first | omega | (simp; done) | (simp; omega) | exact Below.size (by assumption) | exact Nat.le_trans (Below.size (by assumption)) (by simp))))))) (hQh.out.below (by exact (by repeat (first | exact Below.refl _ _ | assumption | refine Below.drew ?_ | refine below_drewN ?_ _ | refine Below.alloc' ?_ _ | (refine Below.setCell ?_ (by first | omega | (simp; done) | (simp; omega) | exact Below.size (by assumption) | exact Nat.le_trans (Below.size (by assumption)) (by simp)) _) | (refine Below.via' ?_ (by assumption)) | (refine Below.alloc ?_ (by first | omega | (simp; done) | (simp; omega) | exact Below.size (by assumption) | exact Nat.le_trans (Below.size (by assumption)) (by simp)) _) | (refine Below.via ?_ (by assumption) (by first | omega | (simp; done) | (simp; omega) | exact Below.size (by assumption) | exact Nat.le_trans (Below.size (by assumption)) (by simp)))))))).mono ?_
  rintro e w1 ⟨rfl, hb1⟩
  obtain ⟨ka, kb, kc⟩ := hq.out.below hb1
  have B1 : Below w.heap.size w w1 := (by repeat (first | exact Below.refl _ _ | assumption | refine Below.drew ?_ | refine below_drewN ?_ _ | refine Below.alloc' ?_ _ | (refine Below.setCell ?_ (by first | omega | (simp; done) | (simp; omega) | exact Below.size (by assumption) | exact Nat.le_trans (Below.size (by assumption)) (by simp)) _) | (refine Below.via' ?_ (by assumption)) | (refine Below.alloc ?_ (by first | omega | (simp; done) | (simp; omega) | exact Below.size (by assumption) | exact Nat.le_trans (Below.size (by assumption)) (by simp)) _) | (refine Below.via ?_ (by assumption) (by first | omega | (simp; done) | (simp; omega) | exact Below.size (by assumption) | exact Nat.le_trans (Below.size (by assumption)) (by simp)))))
  cases hd : dokB S (pM Q)
  · go_wp2
    go_ret
    exact ⟨ret_bool (by rw [hd]; rfl), B1⟩
  replace hd := Lib.hid hd
  go_wp2_with fail
  refine (leavesOf_any _ _ P _ hgh.out (hPh.out.below B1)).mono ?_
  rintro e w2 ⟨v2, rfl, ho2, hb2⟩
  obtain ⟨xL, cL, rfl, -, -⟩ := (OwR.of ho2).form
  have hL2 : Hid (IIn w2 xL (lfL P)) := iin_sel (by omega) (Rd.of_own ho2)
  have B2 : Below w.heap.size w w2 := Below.via' B1 hb2
  clear ho2 ka kb kc
  go_wp2
  go_loopw [18] (fun c wr => ∃ i : Nat, i ≤ Q.length ∧ c = .int .i64 i ∧ Hid (∀ j, j < i → ∃ r, (pM Q)[j]? = some r ∧ (lfL P).contains r.1 = true) ∧ Below w2.heap.size w2 wr) (fun c _ => Q.length - (intOf c).toNat)
  case atStart => exact ⟨0, by omega, rfl, (fun j hj => absurd hj (by omega)), Below.refl _ _⟩
  case round =>
    obtain ⟨i, hi, rfl, hall, hb⟩ := hrel
    have Bw : Below w.heap.size w wr := Below.via' B2 hb
    by_cases hlt : i < Q.length
    · obtain ⟨bl, off, q, rfl, hbl, hQi, hc0, hc1, hc2⟩ := (hQh.out.2.2.below Bw).rec hlt
      have hlt' : (i : Int) < (Q.length : Int) := by omega
      have hi0 : (0 : Int) ≤ (i : Int) := by omega
      have hLw := Lib.hid ((hL2.out.below hb).below (show Below wr.heap.size wr (wr.alloc (.cells #[.int .i64 q.a, .int .i64 q.h, q.v] 72)) from (by repeat (first | exact Below.refl _ _ | assumption | refine Below.drew ?_ | refine below_drewN ?_ _ | refine Below.alloc' ?_ _ | (refine Below.setCell ?_ (by first | omega | (simp; done) | (simp; omega) | exact Below.size (by assumption) | exact Nat.le_trans (Below.size (by assumption)) (by simp)) _) | (refine Below.via' ?_ (by assumption)) | (refine Below.alloc ?_ (by first | omega | (simp; done) | (simp; omega) | exact Below.size (by assumption) | exact Nat.le_trans (Below.size (by assumption)) (by simp)) _) | (refine Below.via ?_ (by assumption) (by first | omega | (simp; done) | (simp; omega) | exact Below.size (by assumption) | exact Nat.le_trans (Below.size (by assumption)) (by simp)))))))
      have hL3 : Hid (IIn (wr.alloc (.cells #[.int .i64 q.a, .int .i64 q.h, .slice q.x q.L.length q.c] 72)) xL (lfL P)) := hLw.out
      clear hLw
      cases hr : (lfL P).contains q.a
      · have hv := Lib.hid (ty_bad (P := P) (pM_at hQi) hr)
        have hrh := Lib.hid hr
        clear hQi hr
        go_wp2_with fail
        refine (contains_any _ _ (lfL P) _ _ hL3.out).mono ?_
        rintro e w4 ⟨rfl, rfl⟩
        rw [hrh.out]
        go_wp2
        go_ret
        exact ⟨ret_bool (by first | (rw [hd.out, hv.out]; rfl) | (rw [hv.out]; rfl) | (rw [hgh.out, hd.out, hv.out]; rfl)), (by repeat (first | exact Below.refl _ _ | assumption | refine Below.drew ?_ | refine below_drewN ?_ _ | refine Below.alloc' ?_ _ | (refine Below.setCell ?_ (by first | omega | (simp; done) | (simp; omega) | exact Below.size (by assumption) | exact Nat.le_trans (Below.size (by assumption)) (by simp)) _) | (refine Below.via' ?_ (by assumption)) | (refine Below.alloc ?_ (by first | omega | (simp; done) | (simp; omega) | exact Below.size (by assumption) | exact Nat.le_trans (Below.size (by assumption)) (by simp)) _) | (refine Below.via ?_ (by assumption) (by first | omega | (simp; done) | (simp; omega) | exact Below.size (by assumption) | exact Nat.le_trans (Below.size (by assumption)) (by simp)))))⟩
      · replace hQi := Lib.hid hQi
        have hrh := Lib.hid hr
        clear hr
        go_wp2_with fail
        refine (contains_any _ _ (lfL P) _ _ hL3.out).mono ?_
        rintro e w4 ⟨rfl, rfl⟩
        rw [hrh.out]
        go_wp2
        go_roundw
        case rel =>
          refine ⟨i + 1, by omega, by go_num, fun j hj => ?_, (by repeat (first | exact Below.refl _ _ | assumption | refine Below.drew ?_ | refine below_drewN ?_ _ | refine Below.alloc' ?_ _ | (refine Below.setCell ?_ (by first | omega | (simp; done) | (simp; omega) | exact Below.size (by assumption) | exact Nat.le_trans (Below.size (by assumption)) (by simp)) _) | (refine Below.via' ?_ (by assumption)) | (refine Below.alloc ?_ (by first | omega | (simp; done) | (simp; omega) | exact Below.size (by assumption) | exact Nat.le_trans (Below.size (by assumption)) (by simp)) _) | (refine Below.via ?_ (by assumption) (by first | omega | (simp; done) | (simp; omega) | exact Below.size (by assumption) | exact Nat.le_trans (Below.size (by assumption)) (by simp)))))⟩
          rcases Nat.lt_or_ge j i with hj2 | hj2
          · exact hall.out j hj2
          · obtain rfl : j = i := by omega
            exact ⟨_, pM_at hQi.out, hrh.out⟩
        case measure => simp [intOf]; omega
    · have hij : i = Q.length := by omega
      subst hij
      have hv := Lib.hid (ty_all (P := P) (M := pM Q) (by rw [pM_len]; exact hall.out))
      clear hall
      go_wp2
      go_ret
      exact ⟨ret_bool (by first | (rw [hd.out, hv.out]; rfl) | (rw [hv.out]; rfl) | (rw [hgh.out, hd.out, hv.out]; rfl)), Bw⟩
set_option maxHeartbeats 4000000 in
theorem uSurvey_any (x y z : Option Addr) (c c1 c2 : Nat) (P : List Int) (S : List (ByteArray × Int)) (Q : List PR) (w : World) (hP : IIn w x P) (hS : SIn w y c1 S) (hQ : DIn w z Q) :
    Calls Try.prog 83 #[.agg #[.slice x P.length c], .slice y S.length c1, .slice z Q.length c2] w fun e w' => e = .returned (.bool ((geB P && idB S (pM Q)) && tyB P (pM Q))) ∧ Below w.heap.size w w' := by
  have hm := hS.1
  have hQl := hQ.1
  have hq := Lib.hid (QB.new w x P.length c 33)
  have hPh := Lib.hid hP
  have hSh := Lib.hid hS
  have hQh := Lib.hid hQ
  clear hP hS hQ
  cases hg : geB P
  · go_enter Try.func83, Try.ntmps83
    go_wp2_with fail
    refine (gGood_any _ _ P _ (hPh.out.below (by exact (by repeat (first | exact Below.refl _ _ | assumption | refine Below.drew ?_ | refine below_drewN ?_ _ | refine Below.alloc' ?_ _ | (refine Below.setCell ?_ (by first | omega | (simp; done) | (simp; omega) | exact Below.size (by assumption) | exact Nat.le_trans (Below.size (by assumption)) (by simp)) _) | (refine Below.via' ?_ (by assumption)) | (refine Below.alloc ?_ (by first | omega | (simp; done) | (simp; omega) | exact Below.size (by assumption) | exact Nat.le_trans (Below.size (by assumption)) (by simp)) _) | (refine Below.via ?_ (by assumption) (by first | omega | (simp; done) | (simp; omega) | exact Below.size (by assumption) | exact Nat.le_trans (Below.size (by assumption)) (by simp)))))))).mono ?_
    rintro e w1 ⟨rfl, hb1⟩
    rw [hg]
    go_wp2
    go_ret
    exact ⟨ret_bool (by first | rfl | (rw [hg]; rfl)), (by repeat (first | exact Below.refl _ _ | assumption | refine Below.drew ?_ | refine below_drewN ?_ _ | refine Below.alloc' ?_ _ | (refine Below.setCell ?_ (by first | omega | (simp; done) | (simp; omega) | exact Below.size (by assumption) | exact Nat.le_trans (Below.size (by assumption)) (by simp)) _) | (refine Below.via' ?_ (by assumption)) | (refine Below.alloc ?_ (by first | omega | (simp; done) | (simp; omega) | exact Below.size (by assumption) | exact Nat.le_trans (Below.size (by assumption)) (by simp)) _) | (refine Below.via ?_ (by assumption) (by first | omega | (simp; done) | (simp; omega) | exact Below.size (by assumption) | exact Nat.le_trans (Below.size (by assumption)) (by simp)))))⟩
  have hl30 := (ge_len hg).2
  have hgh := Lib.hid hg
  clear hg
  go_enter Try.func83, Try.ntmps83
  go_wp2_with fail
  refine (gGood_any _ _ P _ (hPh.out.below (by exact (by repeat (first | exact Below.refl _ _ | assumption | refine Below.drew ?_ | refine below_drewN ?_ _ | refine Below.alloc' ?_ _ | (refine Below.setCell ?_ (by first | omega | (simp; done) | (simp; omega) | exact Below.size (by assumption) | exact Nat.le_trans (Below.size (by assumption)) (by simp)) _) | (refine Below.via' ?_ (by assumption)) | (refine Below.alloc ?_ (by first | omega | (simp; done) | (simp; omega) | exact Below.size (by assumption) | exact Nat.le_trans (Below.size (by assumption)) (by simp)) _) | (refine Below.via ?_ (by assumption) (by first | omega | (simp; done) | (simp; omega) | exact Below.size (by assumption) | exact Nat.le_trans (Below.size (by assumption)) (by simp)))))))).mono ?_
  rintro e w0 ⟨rfl, hb0⟩
  rw [hgh.out]
  have q0 := Lib.hid (hq.out.below hb0)
  have B0 : Below w.heap.size w w0 := (by repeat (first | exact Below.refl _ _ | assumption | refine Below.drew ?_ | refine below_drewN ?_ _ | refine Below.alloc' ?_ _ | (refine Below.setCell ?_ (by first | omega | (simp; done) | (simp; omega) | exact Below.size (by assumption) | exact Nat.le_trans (Below.size (by assumption)) (by simp)) _) | (refine Below.via' ?_ (by assumption)) | (refine Below.alloc ?_ (by first | omega | (simp; done) | (simp; omega) | exact Below.size (by assumption) | exact Nat.le_trans (Below.size (by assumption)) (by simp)) _) | (refine Below.via ?_ (by assumption) (by first | omega | (simp; done) | (simp; omega) | exact Below.size (by assumption) | exact Nat.le_trans (Below.size (by assumption)) (by simp)))))
  clear hb0
  go_wp2_with fail
  refine (dInput_any _ _ _ _ S Q _ (hSh.out.below B0) (hQh.out.below B0)).mono ?_
  rintro e w1 ⟨rfl, hb1⟩
  obtain ⟨ka, kb, kc⟩ := q0.out.below hb1
  have B1 : Below w.heap.size w w1 := Below.via' B0 hb1
  cases hd : idB S (pM Q)
  · go_wp2
    go_ret
    exact ⟨ret_bool (by first | rfl | (rw [hgh.out, hd]; rfl) | (rw [hd]; rfl)), B1⟩
  replace hd := Lib.hid hd
  go_wp2_with fail
  refine (gLeaves_any _ _ P _ hgh.out (hPh.out.below B1)).mono ?_
  rintro e w2 ⟨v2, rfl, ho2, hb2⟩
  obtain ⟨xL, cL, rfl, -, -⟩ := (OwR.of ho2).form
  have hL2 : Hid (IIn w2 xL (lfL P)) := iin_sel (by omega) (Rd.of_own ho2)
  have B2 : Below w.heap.size w w2 := Below.via' B1 hb2
  clear ho2 ka kb kc
  go_wp2
  go_loopw [23] (fun c wr => ∃ i : Nat, i ≤ Q.length ∧ c = .int .i64 i ∧ Hid (∀ j, j < i → ∃ r, (pM Q)[j]? = some r ∧ (lfL P).contains r.1 = true) ∧ Below w2.heap.size w2 wr) (fun c _ => Q.length - (intOf c).toNat)
  case atStart => exact ⟨0, by omega, rfl, (fun j hj => absurd hj (by omega)), Below.refl _ _⟩
  case round =>
    obtain ⟨i, hi, rfl, hall, hb⟩ := hrel
    have Bw : Below w.heap.size w wr := Below.via' B2 hb
    by_cases hlt : i < Q.length
    · obtain ⟨bl, off, q, rfl, hbl, hQi, hc0, hc1, hc2⟩ := (hQh.out.2.2.below Bw).rec hlt
      have hlt' : (i : Int) < (Q.length : Int) := by omega
      have hi0 : (0 : Int) ≤ (i : Int) := by omega
      have hLw := Lib.hid ((hL2.out.below hb).below (show Below wr.heap.size wr (wr.alloc (.cells #[.int .i64 q.a, .int .i64 q.h, q.v] 72)) from (by repeat (first | exact Below.refl _ _ | assumption | refine Below.drew ?_ | refine below_drewN ?_ _ | refine Below.alloc' ?_ _ | (refine Below.setCell ?_ (by first | omega | (simp; done) | (simp; omega) | exact Below.size (by assumption) | exact Nat.le_trans (Below.size (by assumption)) (by simp)) _) | (refine Below.via' ?_ (by assumption)) | (refine Below.alloc ?_ (by first | omega | (simp; done) | (simp; omega) | exact Below.size (by assumption) | exact Nat.le_trans (Below.size (by assumption)) (by simp)) _) | (refine Below.via ?_ (by assumption) (by first | omega | (simp; done) | (simp; omega) | exact Below.size (by assumption) | exact Nat.le_trans (Below.size (by assumption)) (by simp)))))))
      have hL3 : Hid (IIn (wr.alloc (.cells #[.int .i64 q.a, .int .i64 q.h, .slice q.x q.L.length q.c] 72)) xL (lfL P)) := hLw.out
      clear hLw
      cases hr : (lfL P).contains q.a
      · have hv := Lib.hid (ty_bad (P := P) (pM_at hQi) hr)
        have hrh := Lib.hid hr
        clear hQi hr
        go_wp2_with fail
        refine (l1Has_any _ _ (lfL P) _ _ hL3.out).mono ?_
        rintro e w4 ⟨rfl, rfl⟩
        rw [hrh.out]
        go_wp2
        go_ret
        exact ⟨ret_bool (by first | (rw [hd.out, hv.out]; rfl) | (rw [hv.out]; rfl) | (rw [hgh.out, hd.out, hv.out]; rfl)), (by repeat (first | exact Below.refl _ _ | assumption | refine Below.drew ?_ | refine below_drewN ?_ _ | refine Below.alloc' ?_ _ | (refine Below.setCell ?_ (by first | omega | (simp; done) | (simp; omega) | exact Below.size (by assumption) | exact Nat.le_trans (Below.size (by assumption)) (by simp)) _) | (refine Below.via' ?_ (by assumption)) | (refine Below.alloc ?_ (by first | omega | (simp; done) | (simp; omega) | exact Below.size (by assumption) | exact Nat.le_trans (Below.size (by assumption)) (by simp)) _) | (refine Below.via ?_ (by assumption) (by first | omega | (simp; done) | (simp; omega) | exact Below.size (by assumption) | exact Nat.le_trans (Below.size (by assumption)) (by simp)))))⟩
      · replace hQi := Lib.hid hQi
        have hrh := Lib.hid hr
        clear hr
        go_wp2_with fail
        refine (l1Has_any _ _ (lfL P) _ _ hL3.out).mono ?_
        rintro e w4 ⟨rfl, rfl⟩
        rw [hrh.out]
        go_wp2
        go_roundw
        case rel =>
          refine ⟨i + 1, by omega, by go_num, fun j hj => ?_, (by repeat (first | exact Below.refl _ _ | assumption | refine Below.drew ?_ | refine below_drewN ?_ _ | refine Below.alloc' ?_ _ | (refine Below.setCell ?_ (by first | omega | (simp; done) | (simp; omega) | exact Below.size (by assumption) | exact Nat.le_trans (Below.size (by assumption)) (by simp)) _) | (refine Below.via' ?_ (by assumption)) | (refine Below.alloc ?_ (by first | omega | (simp; done) | (simp; omega) | exact Below.size (by assumption) | exact Nat.le_trans (Below.size (by assumption)) (by simp)) _) | (refine Below.via ?_ (by assumption) (by first | omega | (simp; done) | (simp; omega) | exact Below.size (by assumption) | exact Nat.le_trans (Below.size (by assumption)) (by simp)))))⟩
          rcases Nat.lt_or_ge j i with hj2 | hj2
          · exact hall.out j hj2
          · obtain rfl : j = i := by omega
            exact ⟨_, pM_at hQi.out, hrh.out⟩
        case measure => simp [intOf]; omega
    · have hij : i = Q.length := by omega
      subst hij
      have hv := Lib.hid (ty_all (P := P) (M := pM Q) (by rw [pM_len]; exact hall.out))
      clear hall
      go_wp2
      go_ret
      exact ⟨ret_bool (by first | (rw [hd.out, hv.out]; rfl) | (rw [hv.out]; rfl) | (rw [hgh.out, hd.out, hv.out]; rfl)), Bw⟩
end Go.Proofs.Ytgkaalonmkcclaa

namespace Go.Proofs.Ytgkaalonmkcclaa
open Go.RowKit
set_option maxRecDepth 100000

set_option maxHeartbeats 2000000 in
theorem gcount_any (p y z g v : Option Addr) (n c k2 c2 k3 c3 c4 c5 : Nat) (l m : Int) (A : List Int) (S : List (ByteArray × Int)) (w : World) (hs : PtS S) (hA : A.length ≤ 30) (hS : Rd w v (vC S)) :
    Calls Try.prog 69 #[.agg #[.slice p n c, .int .i64 l, .slice y k2 c2, .slice z k3 c3, .int .i64 m, .slice g A.length c4, .slice v S.length c5]] w fun e w' => e = .returned (.int .i64 ((A.length : Int) * cnZ S)) ∧ Below w.heap.size w w' := by
  have hc := pt_cn hs
  have q0 : 0 ≤ (A.length : Int) * cnZ S ∧ (A.length : Int) * cnZ S ≤ 30 * 262144 := ⟨Int.mul_nonneg (by omega) (by omega), Int.mul_le_mul (by omega) hc.2 (by omega) (by omega)⟩
  have q1 : IntKind.i64.wrap ((A.length : Int) * cnZ S) = (A.length : Int) * cnZ S := IntWalk.i64_in _ (by omega)
  have hSh := Lib.hid hS
  have hsh := Lib.hid hs
  clear hS hs q0
  go_enter Try.func69, Try.ntmps69
  go_wp2
  go_region_held3 (fun w' => Below ((w.alloc (.cells #[.slice p n c, .int .i64 l, .slice y k2 c2, .slice z k3 c3, .int .i64 m, .slice g A.length c4, .slice v S.length c5] 91))).heap.size ((w.alloc (.cells #[.slice p n c, .int .i64 l, .slice y k2 c2, .slice z k3 c3, .int .i64 m, .slice g A.length c4, .slice v S.length c5] 91))) w' ∧ (∀ b o, b < ((w.alloc (.cells #[.slice p n c, .int .i64 l, .slice y k2 c2, .slice z k3 c3, .int .i64 m, .slice g A.length c4, .slice v S.length c5] 91))).heap.size → w'.cell? ⟨b, o, none⟩ = ((w.alloc (.cells #[.slice p n c, .int .i64 l, .slice y k2 c2, .slice z k3 c3, .int .i64 m, .slice g A.length c4, .slice v S.length c5] 91))).cell? ⟨b, o, none⟩)) (first | exact keep_of (Below.refl _ _) | ((try go_split_ands); exact keep_of (by repeat (first | exact Below.refl _ _ | assumption | refine Below.drew ?_ | refine below_drewN ?_ _ | refine Below.alloc' ?_ _ | (refine Below.setCell ?_ (by first | omega | (simp; done) | (simp; omega) | exact Below.size (by assumption) | exact Nat.le_trans (Below.size (by assumption)) (by simp)) _) | (refine Below.via' ?_ (by assumption)) | (refine Below.alloc ?_ (by first | omega | (simp; done) | (simp; omega) | exact Below.size (by assumption) | exact Nat.le_trans (Below.size (by assumption)) (by simp)) _) | (refine Below.via ?_ (by assumption) (by first | omega | (simp; done) | (simp; omega) | exact Below.size (by assumption) | exact Nat.le_trans (Below.size (by assumption)) (by simp))))))) ((go_at_call 110; refine (countComb_p _ _ S _ hsh.out (hSh.out.below (by exact (by repeat (first | exact Below.refl _ _ | assumption | refine Below.drew ?_ | refine below_drewN ?_ _ | refine Below.alloc' ?_ _ | (refine Below.setCell ?_ (by first | omega | (simp; done) | (simp; omega) | exact Below.size (by assumption) | exact Nat.le_trans (Below.size (by assumption)) (by simp)) _) | (refine Below.via' ?_ (by assumption)) | (refine Below.alloc ?_ (by first | omega | (simp; done) | (simp; omega) | exact Below.size (by assumption) | exact Nat.le_trans (Below.size (by assumption)) (by simp)) _) | (refine Below.via ?_ (by assumption) (by first | omega | (simp; done) | (simp; omega) | exact Below.size (by assumption) | exact Nat.le_trans (Below.size (by assumption)) (by simp)))))))).mono ?_; rintro e w1 ⟨rfl, hb1⟩)); rename_i hH; obtain ⟨hb1, hcl1⟩ := hH; have hz1 := hb1.size; (try simp at hz1); (try (have hly1 := Nat.lt_of_succ_le hz1)); (try (have hlx1 := Nat.lt_of_succ_lt hly1)); (try (have hlw1 := Nat.lt_of_succ_lt hlx1)); (try (have hle1 := Nat.le_of_lt hly1)); (try (have hya1 : w.heap.size < w1.heap.size := by omega)); (try (have hyb1 : w.heap.size + 1 < w1.heap.size := by omega)); (try (have hyc1 : w.heap.size + 1 + 1 < w1.heap.size := by omega)); (try (have hyd1 : wa.heap.size < w1.heap.size := by omega))
  go_wp2
  go_ret
  exact ⟨rfl, (by repeat (first | exact Below.refl _ _ | assumption | refine Below.drew ?_ | refine below_drewN ?_ _ | refine Below.alloc' ?_ _ | (refine Below.setCell ?_ (by first | omega | (simp; done) | (simp; omega) | exact Below.size (by assumption) | exact Nat.le_trans (Below.size (by assumption)) (by simp)) _) | (refine Below.via' ?_ (by assumption)) | (refine Below.alloc ?_ (by first | omega | (simp; done) | (simp; omega) | exact Below.size (by assumption) | exact Nat.le_trans (Below.size (by assumption)) (by simp)) _) | (refine Below.via ?_ (by assumption) (by first | omega | (simp; done) | (simp; omega) | exact Below.size (by assumption) | exact Nat.le_trans (Below.size (by assumption)) (by simp)))))⟩

set_option maxHeartbeats 4000000 in
theorem uCount_any (p y x z : Option Addr) (c c1 c2 c3 : Nat) (P : List Int) (S : List (ByteArray × Int)) (l m : Int) (F W : List Int) (w : World) (hg : geB P = true) (hs : schB S = true) (hr : rsB S F = true) (hP : IIn w p P) (hS : SIn w y c1 S) (hF : IIn w x F) :
    Calls Try.prog 67 #[.agg #[.slice p P.length c], .slice y S.length c1, .agg #[.int .i64 l, .slice x F.length c2, .slice z W.length c3, .int .i64 m]] w fun e w' => e = .returned (.int .i64 (tcZ P S l F)) ∧ Below w.heap.size w w' := by
  have hb := tc_bd (l := l) hg hs hr
  have q1 : IntKind.i64.wrap (((lvL P l).length : Int) * cnZ (tbS S F)) = ((lvL P l).length : Int) * cnZ (tbS S F) := IntWalk.i64_in _ (by unfold tcZ at hb; omega)
  have hpt := Lib.hid (tbS_ok hs hr)
  have hip := Lib.hid (inP_of hs hr rfl)
  have hPh := Lib.hid hP
  have hSh := Lib.hid hS.rd
  have hFh := Lib.hid hF
  have hgh := Lib.hid hg
  clear hP hS hF hs hg hb
  have p1 := Lib.hid (QB.new w p P.length c 33)
  have p2 := Lib.hid (TQ.new (w.alloc (.cells #[.slice p P.length c] 33)) l x F.length c2 z W.length c3 m 37)
  obtain ⟨w0, hw0⟩ : ∃ w0, w0 = (w.alloc (.cells #[.slice p P.length c] 33)).alloc (.cells #[.int .i64 l, .slice x F.length c2, .slice z W.length c3, .int .i64 m] 37) := ⟨_, rfl⟩
  have B0 : Below w.heap.size w w0 := by rw [hw0]; exact (by repeat (first | exact Below.refl _ _ | assumption | refine Below.drew ?_ | refine below_drewN ?_ _ | refine Below.alloc' ?_ _ | (refine Below.setCell ?_ (by first | omega | (simp; done) | (simp; omega) | exact Below.size (by assumption) | exact Nat.le_trans (Below.size (by assumption)) (by simp)) _) | (refine Below.via' ?_ (by assumption)) | (refine Below.alloc ?_ (by first | omega | (simp; done) | (simp; omega) | exact Below.size (by assumption) | exact Nat.le_trans (Below.size (by assumption)) (by simp)) _) | (refine Below.via ?_ (by assumption) (by first | omega | (simp; done) | (simp; omega) | exact Below.size (by assumption) | exact Nat.le_trans (Below.size (by assumption)) (by simp)))))
  have g0 : Hid (QB w0 w.heap.size p P.length c) := by
    rw [hw0]
    exact p1.out.below (show Below (w.alloc (.cells #[.slice p P.length c] 33)).heap.size (w.alloc (.cells #[.slice p P.length c] 33)) _ from (by repeat (first | exact Below.refl _ _ | assumption | refine Below.drew ?_ | refine below_drewN ?_ _ | refine Below.alloc' ?_ _ | (refine Below.setCell ?_ (by first | omega | (simp; done) | (simp; omega) | exact Below.size (by assumption) | exact Nat.le_trans (Below.size (by assumption)) (by simp)) _) | (refine Below.via' ?_ (by assumption)) | (refine Below.alloc ?_ (by first | omega | (simp; done) | (simp; omega) | exact Below.size (by assumption) | exact Nat.le_trans (Below.size (by assumption)) (by simp)) _) | (refine Below.via ?_ (by assumption) (by first | omega | (simp; done) | (simp; omega) | exact Below.size (by assumption) | exact Nat.le_trans (Below.size (by assumption)) (by simp))))))
  have t0 : Hid (TQ w0 (w.heap.size + 1) l x F.length c2 z W.length c3 m) := by
    have h0 := p2.out
    rw [World.size_alloc, ← hw0] at h0
    exact h0
  have z0 : w0.heap.size = w.heap.size + 1 + 1 := by rw [hw0]; simp
  clear p1 p2
  go_enter Try.func67, Try.ntmps67
  go_wp2
  rw [← hw0]
  replace hw0 := Lib.hid hw0
  replace z0 := Lib.hid z0
  obtain ⟨ka, kb, kc⟩ := g0.out
  obtain ⟨ta, tb, tc, td, te⟩ := t0.out
  go_region_held3 (fun w' => Below (w0).heap.size (w0) w' ∧ (∀ b o, b < (w0).heap.size → w'.cell? ⟨b, o, none⟩ = (w0).cell? ⟨b, o, none⟩)) (first | exact keep_of (Below.refl _ _) | ((try go_split_ands); exact keep_of (by repeat (first | exact Below.refl _ _ | assumption | refine Below.drew ?_ | refine below_drewN ?_ _ | refine Below.alloc' ?_ _ | (refine Below.setCell ?_ (by first | omega | (simp; done) | (simp; omega) | exact Below.size (by assumption) | exact Nat.le_trans (Below.size (by assumption)) (by simp)) _) | (refine Below.via' ?_ (by assumption)) | (refine Below.alloc ?_ (by first | omega | (simp; done) | (simp; omega) | exact Below.size (by assumption) | exact Nat.le_trans (Below.size (by assumption)) (by simp)) _) | (refine Below.via ?_ (by assumption) (by first | omega | (simp; done) | (simp; omega) | exact Below.size (by assumption) | exact Nat.le_trans (Below.size (by assumption)) (by simp))))))) (first | (go_at_call 73; refine (gLevel_any _ _ P l _ hgh.out (hPh.out.below (by exact (by repeat (first | exact Below.refl _ _ | assumption | refine Below.drew ?_ | refine below_drewN ?_ _ | refine Below.alloc' ?_ _ | (refine Below.setCell ?_ (by first | omega | (simp; done) | (simp; omega) | exact Below.size (by assumption) | exact Nat.le_trans (Below.size (by assumption)) (by simp)) _) | (refine Below.via' ?_ (by assumption)) | (refine Below.alloc ?_ (by first | omega | (simp; done) | (simp; omega) | exact Below.size (by assumption) | exact Nat.le_trans (Below.size (by assumption)) (by simp)) _) | (refine Below.via ?_ (by assumption) (by first | omega | (simp; done) | (simp; omega) | exact Below.size (by assumption) | exact Nat.le_trans (Below.size (by assumption)) (by simp)))))))).mono ?_; rintro e w1 ⟨v1, rfl, ho1, hb1⟩; obtain ⟨x1, n1, rfl, -, -⟩ := (OwR.of ho1).form; clear ho1) | (go_at_call 71; refine (sPart_any _ _ _ _ S F _ hip.out (hSh.out.below (by exact (by repeat (first | exact Below.refl _ _ | assumption | refine Below.drew ?_ | refine below_drewN ?_ _ | refine Below.alloc' ?_ _ | (refine Below.setCell ?_ (by first | omega | (simp; done) | (simp; omega) | exact Below.size (by assumption) | exact Nat.le_trans (Below.size (by assumption)) (by simp)) _) | (refine Below.via' ?_ (by assumption)) | (refine Below.alloc ?_ (by first | omega | (simp; done) | (simp; omega) | exact Below.size (by assumption) | exact Nat.le_trans (Below.size (by assumption)) (by simp)) _) | (refine Below.via ?_ (by assumption) (by first | omega | (simp; done) | (simp; omega) | exact Below.size (by assumption) | exact Nat.le_trans (Below.size (by assumption)) (by simp))))))) (hFh.out.2.2.below (by exact (by repeat (first | exact Below.refl _ _ | assumption | refine Below.drew ?_ | refine below_drewN ?_ _ | refine Below.alloc' ?_ _ | (refine Below.setCell ?_ (by first | omega | (simp; done) | (simp; omega) | exact Below.size (by assumption) | exact Nat.le_trans (Below.size (by assumption)) (by simp)) _) | (refine Below.via' ?_ (by assumption)) | (refine Below.alloc ?_ (by first | omega | (simp; done) | (simp; omega) | exact Below.size (by assumption) | exact Nat.le_trans (Below.size (by assumption)) (by simp)) _) | (refine Below.via ?_ (by assumption) (by first | omega | (simp; done) | (simp; omega) | exact Below.size (by assumption) | exact Nat.le_trans (Below.size (by assumption)) (by simp)))))))).mono ?_; rintro e w2 ⟨v2, rfl, ho2, hb2⟩; obtain ⟨x2, n2, rfl, -, -⟩ := (OwR.of ho2).form; (have hr2 := Lib.hid (Rd.of_own ho2)); clear ho2) | (go_at_call 74; refine (sCount_p _ _ (tbS S F) _ hpt.out (hr2.out.below (by exact (by repeat (first | exact Below.refl _ _ | assumption | refine Below.drew ?_ | refine below_drewN ?_ _ | refine Below.alloc' ?_ _ | (refine Below.setCell ?_ (by first | omega | (simp; done) | (simp; omega) | exact Below.size (by assumption) | exact Nat.le_trans (Below.size (by assumption)) (by simp)) _) | (refine Below.via' ?_ (by assumption)) | (refine Below.alloc ?_ (by first | omega | (simp; done) | (simp; omega) | exact Below.size (by assumption) | exact Nat.le_trans (Below.size (by assumption)) (by simp)) _) | (refine Below.via ?_ (by assumption) (by first | omega | (simp; done) | (simp; omega) | exact Below.size (by assumption) | exact Nat.le_trans (Below.size (by assumption)) (by simp)))))))).mono ?_; rintro e w3 ⟨rfl, hb3⟩)); rename_i hH; obtain ⟨hb3, hcl3⟩ := hH; have hz3 := hb3.size; (try simp at hz3); (try (have hly3 := Nat.lt_of_succ_le hz3)); (try (have hlx3 := Nat.lt_of_succ_lt hly3)); (try (have hlw3 := Nat.lt_of_succ_lt hlx3)); (try (have hle3 := Nat.le_of_lt hly3)); (try (have hya3 : w.heap.size < w3.heap.size := by omega)); (try (have hyb3 : w.heap.size + 1 < w3.heap.size := by omega)); (try (have hyc3 : w.heap.size + 1 + 1 < w3.heap.size := by omega)); (try (have hyd3 : wa.heap.size < w3.heap.size := by omega))
  go_wp2
  go_ret
  exact ⟨rfl, Below.via' B0 (by assumption)⟩
end Go.Proofs.Ytgkaalonmkcclaa
