import Derived.Test.YtmcibcechffppaaEdH
import Derived.Test.YtmcibcechffppaaEdA
import Derived.Test.YtmcibcechffppaaEdC
namespace Go.Proofs.Ytmcibcechffppaa
open Go.RowKit
set_option maxRecDepth 100000

/-- Two edits for a schema. -/
def seeB (S : List (ByteArray × Int)) (E F : List Int) : Bool := seB S E && edB S F
def ctR (S : List (ByteArray × Int)) (E F : List Int) : Bool := seeB S E F && ctB E F
theorem see_no1 {S : List (ByteArray × Int)} {E F : List Int} (h : seB S E = false) : seeB S E F = false ∧ ctR S E F = false := by unfold ctR seeB; rw [h]; exact ⟨rfl, rfl⟩
theorem see_no2 {S : List (ByteArray × Int)} {E F : List Int} (h : edB S F = false) : seeB S E F = false ∧ ctR S E F = false := by unfold ctR seeB; rw [h, Bool.and_false]; exact ⟨rfl, rfl⟩
theorem see_yes {S : List (ByteArray × Int)} {E F : List Int} (h : seB S E = true) (k : edB S F = true) : seeB S E F = true ∧ ctR S E F = ctB E F := by unfold ctR seeB; rw [h, k]; exact ⟨rfl, rfl⟩
theorem see_get {S : List (ByteArray × Int)} {E F : List Int} (h : seeB S E F = true) : schB S = true ∧ edB S E = true ∧ edB S F = true := by
  unfold seeB at h
  rw [Bool.and_eq_true] at h
  exact ⟨(se_get h.1).1, (se_get h.1).2, h.2⟩
/-- Two edits side by side: small numbers. -/
theorem see_at {S : List (ByteArray × Int)} {E F : List Int} (hs : schB S = true) (hE : edB S E = true) (hF : edB S F = true) {i : Nat} (hi : i < S.length) : ∃ x y, E[i]? = some x ∧ F[i]? = some y ∧ 1 ≤ x ∧ x ≤ 255 ∧ 1 ≤ y ∧ y ≤ 255 := by
  obtain ⟨_, _, x, _, b, c, _, _, _, d⟩ := ed_at hs hE hi
  obtain ⟨_, _, y, _, b2, c2, _, _, _, d2⟩ := ed_at hs hF hi
  exact ⟨x, y, b, b2, c, d, c2, d2⟩

set_option maxHeartbeats 4000000 in
theorem eContains_any (y z : Option Addr) (c2 c3 : Nat) (E F : List Int) (w : World) (hl : E.length = F.length) (hf : ∀ i, i < F.length → ∃ x y, E[i]? = some x ∧ F[i]? = some y ∧ 1 ≤ x ∧ x ≤ 255 ∧ 1 ≤ y ∧ y ≤ 255) (hE : IIn w y E) (hF : IIn w z F) :
    Calls Try.prog 84 #[.agg #[.slice y E.length c2], .agg #[.slice z F.length c3]] w fun e w' => e = .returned (.bool (ctB E F)) ∧ Below w.heap.size w w' := by
  have hlh := Lib.hid hl
  have hfh := Lib.hid hf
  have hEh := Lib.hid hE
  have hFh := Lib.hid hF
  have hFl := hF.1
  clear hE hF hl hf
  have hb1 : Below w.heap.size w (w.alloc (.cells #[.slice y E.length c2] 62)) := (by repeat (first | exact Below.refl _ _ | assumption | refine Below.drew ?_ | refine below_drewN ?_ _ | refine Below.alloc' ?_ _ | (refine Below.setCell ?_ (by first | omega | (simp; done) | (simp; omega) | exact Below.size (by assumption) | exact Nat.le_trans (Below.size (by assumption)) (by simp)) _) | (refine Below.via' ?_ (by assumption)) | (refine Below.alloc ?_ (by first | omega | (simp; done) | (simp; omega) | exact Below.size (by assumption) | exact Nat.le_trans (Below.size (by assumption)) (by simp)) _) | (refine Below.via ?_ (by assumption) (by first | omega | (simp; done) | (simp; omega) | exact Below.size (by assumption) | exact Nat.le_trans (Below.size (by assumption)) (by simp)))))
  have hb2 : Below (w.alloc (.cells #[.slice y E.length c2] 62)).heap.size (w.alloc (.cells #[.slice y E.length c2] 62)) ((w.alloc (.cells #[.slice y E.length c2] 62)).alloc (.cells #[.slice z F.length c3] 62)) := (by repeat (first | exact Below.refl _ _ | assumption | refine Below.drew ?_ | refine below_drewN ?_ _ | refine Below.alloc' ?_ _ | (refine Below.setCell ?_ (by first | omega | (simp; done) | (simp; omega) | exact Below.size (by assumption) | exact Nat.le_trans (Below.size (by assumption)) (by simp)) _) | (refine Below.via' ?_ (by assumption)) | (refine Below.alloc ?_ (by first | omega | (simp; done) | (simp; omega) | exact Below.size (by assumption) | exact Nat.le_trans (Below.size (by assumption)) (by simp)) _) | (refine Below.via ?_ (by assumption) (by first | omega | (simp; done) | (simp; omega) | exact Below.size (by assumption) | exact Nat.le_trans (Below.size (by assumption)) (by simp)))))
  have hqE := Lib.hid ((QB.new w y E.length c2 62).below hb2)
  have hqF : Hid (QB ((w.alloc (.cells #[.slice y E.length c2] 62)).alloc (.cells #[.slice z F.length c3] 62)) (w.heap.size + 1) z F.length c3) := by
    have h0 := QB.new (w.alloc (.cells #[.slice y E.length c2] 62)) z F.length c3 62
    rwa [World.size_alloc] at h0
  have hB2 : Below w.heap.size w ((w.alloc (.cells #[.slice y E.length c2] 62)).alloc (.cells #[.slice z F.length c3] 62)) := (by repeat (first | exact Below.refl _ _ | assumption | refine Below.drew ?_ | refine below_drewN ?_ _ | refine Below.alloc' ?_ _ | (refine Below.setCell ?_ (by first | omega | (simp; done) | (simp; omega) | exact Below.size (by assumption) | exact Nat.le_trans (Below.size (by assumption)) (by simp)) _) | (refine Below.via' ?_ (by assumption)) | (refine Below.alloc ?_ (by first | omega | (simp; done) | (simp; omega) | exact Below.size (by assumption) | exact Nat.le_trans (Below.size (by assumption)) (by simp)) _) | (refine Below.via ?_ (by assumption) (by first | omega | (simp; done) | (simp; omega) | exact Below.size (by assumption) | exact Nat.le_trans (Below.size (by assumption)) (by simp)))))
  obtain ⟨W0, hW0⟩ : ∃ W0, (w.alloc (.cells #[.slice y E.length c2] 62)).alloc (.cells #[.slice z F.length c3] 62) = W0 := ⟨_, rfl⟩
  have hW0z : Hid (W0.heap.size = w.heap.size + 2) := by unfold Hid; rw [← hW0]; simp
  rw [hW0] at hqE hqF hB2
  clear hb1 hb2
  obtain ⟨fa0, fb0, fc0⟩ := hqF.out
  obtain ⟨ea0, eb0, ec0⟩ := hqE.out
  go_enter Try.func84, Try.ntmps84
  go_wp2
  try rw [hW0]
  clear hW0 fa0 fb0 ea0 eb0
  go_loopw [10] (fun c wr => ∃ i : Nat, i ≤ F.length ∧ c = .int .i64 i ∧ Hid (∀ j, j < i → ∃ x y, E[j]? = some x ∧ F[j]? = some y ∧ sbB x y = true) ∧ Below W0.heap.size W0 wr) (fun c _ => F.length - (intOf c).toNat)
  case atStart => exact ⟨0, by omega, rfl, (fun j hj => absurd hj (by omega)), Below.refl _ _⟩
  case round =>
    obtain ⟨i, hi, rfl, hall, hb⟩ := hrel
    have hBr : Below w.heap.size w wr := hB2.trans (hb.mono hB2.size)
    by_cases hlt : i < F.length
    · obtain ⟨x, u, hEi, hFi, x0, x1, y0, y1⟩ := hfh.out i hlt
      obtain ⟨bl, off, x', rfl, hbl, hEi2, hc0⟩ := (hEh.out.below hBr).2.2.int (i := i) (by have := hlh.out; omega)
      obtain ⟨bl2, off2, u', rfl, hbl2, hFi2, hc1⟩ := (hFh.out.below hBr).2.2.int (i := i) hlt
      obtain rfl := Option.some.inj (hEi2.symm.trans hEi)
      obtain rfl := Option.some.inj (hFi2.symm.trans hFi)
      clear hEi2 hFi2
      obtain ⟨ka, kb, kc⟩ := hqE.out.below hb
      have hlt' : (i : Int) < (F.length : Int) := by omega
      have hlt2 : (i : Int) < (E.length : Int) := by have := hlh.out; omega
      have hi0 : (0 : Int) ≤ (i : Int) := by omega
      have hsub := and_sub (x := x') (y := u') (by omega) x1 (by omega) y1
      cases hh : sbB x' u'
      · have hv := Lib.hid (ct_bad hEi hFi hh)
        have hz : (bits .and .i64 u' x' == u') = false := by rw [beq_eq_false_iff_ne]; intro h; rw [hsub.1 h] at hh; cases hh
        replace hEi := Lib.hid hEi
        replace hFi := Lib.hid hFi
        clear hsub
        go_wp2
        go_ret
        exact ⟨ret_bool hv.out.symm, (by repeat (first | exact Below.refl _ _ | assumption | refine Below.drew ?_ | refine below_drewN ?_ _ | refine Below.alloc' ?_ _ | (refine Below.setCell ?_ (by first | omega | (simp; done) | (simp; omega) | exact Below.size (by assumption) | exact Nat.le_trans (Below.size (by assumption)) (by simp)) _) | (refine Below.via' ?_ (by assumption)) | (refine Below.alloc ?_ (by first | omega | (simp; done) | (simp; omega) | exact Below.size (by assumption) | exact Nat.le_trans (Below.size (by assumption)) (by simp)) _) | (refine Below.via ?_ (by assumption) (by first | omega | (simp; done) | (simp; omega) | exact Below.size (by assumption) | exact Nat.le_trans (Below.size (by assumption)) (by simp)))))⟩
      · have hz : (bits .and .i64 u' x' == u') = true := by rw [beq_iff_eq]; exact hsub.2 hh
        replace hEi := Lib.hid hEi
        replace hFi := Lib.hid hFi
        have hhh := Lib.hid hh
        clear hh hsub
        go_wp2
        go_roundw
        case rel =>
          refine ⟨i + 1, by omega, by go_num, fun j hj => ?_, (by repeat (first | exact Below.refl _ _ | assumption | refine Below.drew ?_ | refine below_drewN ?_ _ | refine Below.alloc' ?_ _ | (refine Below.setCell ?_ (by first | omega | (simp; done) | (simp; omega) | exact Below.size (by assumption) | exact Nat.le_trans (Below.size (by assumption)) (by simp)) _) | (refine Below.via' ?_ (by assumption)) | (refine Below.alloc ?_ (by first | omega | (simp; done) | (simp; omega) | exact Below.size (by assumption) | exact Nat.le_trans (Below.size (by assumption)) (by simp)) _) | (refine Below.via ?_ (by assumption) (by first | omega | (simp; done) | (simp; omega) | exact Below.size (by assumption) | exact Nat.le_trans (Below.size (by assumption)) (by simp)))))⟩
          rcases Nat.lt_or_ge j i with hj2 | hj2
          · exact hall.out j hj2
          · obtain rfl : j = i := by omega
            exact ⟨_, _, hEi.out, hFi.out, hhh.out⟩
        case measure => simp [intOf]; omega
    · have hij : i = F.length := by omega
      subst hij
      have hv := Lib.hid (ct_all (E := E) (n := F.length) (by have := hlh.out; omega) hall.out)
      clear hall
      go_wp2
      go_ret
      exact ⟨ret_bool hv.out.symm, (by repeat (first | exact Below.refl _ _ | assumption | refine Below.drew ?_ | refine below_drewN ?_ _ | refine Below.alloc' ?_ _ | (refine Below.setCell ?_ (by first | omega | (simp; done) | (simp; omega) | exact Below.size (by assumption) | exact Nat.le_trans (Below.size (by assumption)) (by simp)) _) | (refine Below.via' ?_ (by assumption)) | (refine Below.alloc ?_ (by first | omega | (simp; done) | (simp; omega) | exact Below.size (by assumption) | exact Nat.le_trans (Below.size (by assumption)) (by simp)) _) | (refine Below.via ?_ (by assumption) (by first | omega | (simp; done) | (simp; omega) | exact Below.size (by assumption) | exact Nat.le_trans (Below.size (by assumption)) (by simp)))))⟩

set_option maxHeartbeats 4000000 in
theorem containsEdit_any (y z : Option Addr) (c2 c3 : Nat) (E F : List Int) (w : World) (hl : E.length = F.length) (hf : ∀ i, i < F.length → ∃ x y, E[i]? = some x ∧ F[i]? = some y ∧ 1 ≤ x ∧ x ≤ 255 ∧ 1 ≤ y ∧ y ≤ 255) (hE : IIn w y E) (hF : IIn w z F) :
    Calls Try.prog 46 #[.agg #[.slice y E.length c2], .agg #[.slice z F.length c3]] w fun e w' => e = .returned (.bool (ctB E F)) ∧ Below w.heap.size w w' := by
  have hlh := Lib.hid hl
  have hfh := Lib.hid hf
  have hEh := Lib.hid hE
  have hFh := Lib.hid hF
  have hFl := hF.1
  clear hE hF hl hf
  have hb1 : Below w.heap.size w (w.alloc (.cells #[.slice y E.length c2] 62)) := (by repeat (first | exact Below.refl _ _ | assumption | refine Below.drew ?_ | refine below_drewN ?_ _ | refine Below.alloc' ?_ _ | (refine Below.setCell ?_ (by first | omega | (simp; done) | (simp; omega) | exact Below.size (by assumption) | exact Nat.le_trans (Below.size (by assumption)) (by simp)) _) | (refine Below.via' ?_ (by assumption)) | (refine Below.alloc ?_ (by first | omega | (simp; done) | (simp; omega) | exact Below.size (by assumption) | exact Nat.le_trans (Below.size (by assumption)) (by simp)) _) | (refine Below.via ?_ (by assumption) (by first | omega | (simp; done) | (simp; omega) | exact Below.size (by assumption) | exact Nat.le_trans (Below.size (by assumption)) (by simp)))))
  have hb2 : Below (w.alloc (.cells #[.slice y E.length c2] 62)).heap.size (w.alloc (.cells #[.slice y E.length c2] 62)) ((w.alloc (.cells #[.slice y E.length c2] 62)).alloc (.cells #[.slice z F.length c3] 62)) := (by repeat (first | exact Below.refl _ _ | assumption | refine Below.drew ?_ | refine below_drewN ?_ _ | refine Below.alloc' ?_ _ | (refine Below.setCell ?_ (by first | omega | (simp; done) | (simp; omega) | exact Below.size (by assumption) | exact Nat.le_trans (Below.size (by assumption)) (by simp)) _) | (refine Below.via' ?_ (by assumption)) | (refine Below.alloc ?_ (by first | omega | (simp; done) | (simp; omega) | exact Below.size (by assumption) | exact Nat.le_trans (Below.size (by assumption)) (by simp)) _) | (refine Below.via ?_ (by assumption) (by first | omega | (simp; done) | (simp; omega) | exact Below.size (by assumption) | exact Nat.le_trans (Below.size (by assumption)) (by simp)))))
  have hqE := Lib.hid ((QB.new w y E.length c2 62).below hb2)
  have hqF : Hid (QB ((w.alloc (.cells #[.slice y E.length c2] 62)).alloc (.cells #[.slice z F.length c3] 62)) (w.heap.size + 1) z F.length c3) := by
    have h0 := QB.new (w.alloc (.cells #[.slice y E.length c2] 62)) z F.length c3 62
    rwa [World.size_alloc] at h0
  have hB2 : Below w.heap.size w ((w.alloc (.cells #[.slice y E.length c2] 62)).alloc (.cells #[.slice z F.length c3] 62)) := (by repeat (first | exact Below.refl _ _ | assumption | refine Below.drew ?_ | refine below_drewN ?_ _ | refine Below.alloc' ?_ _ | (refine Below.setCell ?_ (by first | omega | (simp; done) | (simp; omega) | exact Below.size (by assumption) | exact Nat.le_trans (Below.size (by assumption)) (by simp)) _) | (refine Below.via' ?_ (by assumption)) | (refine Below.alloc ?_ (by first | omega | (simp; done) | (simp; omega) | exact Below.size (by assumption) | exact Nat.le_trans (Below.size (by assumption)) (by simp)) _) | (refine Below.via ?_ (by assumption) (by first | omega | (simp; done) | (simp; omega) | exact Below.size (by assumption) | exact Nat.le_trans (Below.size (by assumption)) (by simp)))))
  obtain ⟨W0, hW0⟩ : ∃ W0, (w.alloc (.cells #[.slice y E.length c2] 62)).alloc (.cells #[.slice z F.length c3] 62) = W0 := ⟨_, rfl⟩
  have hW0z : Hid (W0.heap.size = w.heap.size + 2) := by unfold Hid; rw [← hW0]; simp
  rw [hW0] at hqE hqF hB2
  clear hb1 hb2
  obtain ⟨fa0, fb0, fc0⟩ := hqF.out
  obtain ⟨ea0, eb0, ec0⟩ := hqE.out
  go_enter Try.func46, Try.ntmps46
  go_wp2
  try rw [hW0]
  clear hW0 fa0 fb0 ea0 eb0
  go_loopw [10] (fun c wr => ∃ i : Nat, i ≤ F.length ∧ c = .int .i64 i ∧ Hid (∀ j, j < i → ∃ x y, E[j]? = some x ∧ F[j]? = some y ∧ sbB x y = true) ∧ Below W0.heap.size W0 wr) (fun c _ => F.length - (intOf c).toNat)
  case atStart => exact ⟨0, by omega, rfl, (fun j hj => absurd hj (by omega)), Below.refl _ _⟩
  case round =>
    obtain ⟨i, hi, rfl, hall, hb⟩ := hrel
    have hBr : Below w.heap.size w wr := hB2.trans (hb.mono hB2.size)
    by_cases hlt : i < F.length
    · obtain ⟨x, u, hEi, hFi, x0, x1, y0, y1⟩ := hfh.out i hlt
      obtain ⟨bl, off, x', rfl, hbl, hEi2, hc0⟩ := (hEh.out.below hBr).2.2.int (i := i) (by have := hlh.out; omega)
      obtain ⟨bl2, off2, u', rfl, hbl2, hFi2, hc1⟩ := (hFh.out.below hBr).2.2.int (i := i) hlt
      obtain rfl := Option.some.inj (hEi2.symm.trans hEi)
      obtain rfl := Option.some.inj (hFi2.symm.trans hFi)
      clear hEi2 hFi2
      obtain ⟨ka, kb, kc⟩ := hqE.out.below hb
      have hlt' : (i : Int) < (F.length : Int) := by omega
      have hlt2 : (i : Int) < (E.length : Int) := by have := hlh.out; omega
      have hi0 : (0 : Int) ≤ (i : Int) := by omega
      have hsub := andNot_sub (x := x') (y := u') (by omega) x1 (by omega) y1
      cases hh : sbB x' u'
      · have hv := Lib.hid (ct_bad hEi hFi hh)
        have hz : (bits .andNot .i64 u' x' == 0) = false := by rw [beq_eq_false_iff_ne]; intro h; rw [hsub.1 h] at hh; cases hh
        replace hEi := Lib.hid hEi
        replace hFi := Lib.hid hFi
        clear hsub
        go_wp2
        go_ret
        exact ⟨ret_bool hv.out.symm, (by repeat (first | exact Below.refl _ _ | assumption | refine Below.drew ?_ | refine below_drewN ?_ _ | refine Below.alloc' ?_ _ | (refine Below.setCell ?_ (by first | omega | (simp; done) | (simp; omega) | exact Below.size (by assumption) | exact Nat.le_trans (Below.size (by assumption)) (by simp)) _) | (refine Below.via' ?_ (by assumption)) | (refine Below.alloc ?_ (by first | omega | (simp; done) | (simp; omega) | exact Below.size (by assumption) | exact Nat.le_trans (Below.size (by assumption)) (by simp)) _) | (refine Below.via ?_ (by assumption) (by first | omega | (simp; done) | (simp; omega) | exact Below.size (by assumption) | exact Nat.le_trans (Below.size (by assumption)) (by simp)))))⟩
      · have hz : (bits .andNot .i64 u' x' == 0) = true := by rw [beq_iff_eq]; exact hsub.2 hh
        replace hEi := Lib.hid hEi
        replace hFi := Lib.hid hFi
        have hhh := Lib.hid hh
        clear hh hsub
        go_wp2
        go_roundw
        case rel =>
          refine ⟨i + 1, by omega, by go_num, fun j hj => ?_, (by repeat (first | exact Below.refl _ _ | assumption | refine Below.drew ?_ | refine below_drewN ?_ _ | refine Below.alloc' ?_ _ | (refine Below.setCell ?_ (by first | omega | (simp; done) | (simp; omega) | exact Below.size (by assumption) | exact Nat.le_trans (Below.size (by assumption)) (by simp)) _) | (refine Below.via' ?_ (by assumption)) | (refine Below.alloc ?_ (by first | omega | (simp; done) | (simp; omega) | exact Below.size (by assumption) | exact Nat.le_trans (Below.size (by assumption)) (by simp)) _) | (refine Below.via ?_ (by assumption) (by first | omega | (simp; done) | (simp; omega) | exact Below.size (by assumption) | exact Nat.le_trans (Below.size (by assumption)) (by simp)))))⟩
          rcases Nat.lt_or_ge j i with hj2 | hj2
          · exact hall.out j hj2
          · obtain rfl : j = i := by omega
            exact ⟨_, _, hEi.out, hFi.out, hhh.out⟩
        case measure => simp [intOf]; omega
    · have hij : i = F.length := by omega
      subst hij
      have hv := Lib.hid (ct_all (E := E) (n := F.length) (by have := hlh.out; omega) hall.out)
      clear hall
      go_wp2
      go_ret
      exact ⟨ret_bool hv.out.symm, (by repeat (first | exact Below.refl _ _ | assumption | refine Below.drew ?_ | refine below_drewN ?_ _ | refine Below.alloc' ?_ _ | (refine Below.setCell ?_ (by first | omega | (simp; done) | (simp; omega) | exact Below.size (by assumption) | exact Nat.le_trans (Below.size (by assumption)) (by simp)) _) | (refine Below.via' ?_ (by assumption)) | (refine Below.alloc ?_ (by first | omega | (simp; done) | (simp; omega) | exact Below.size (by assumption) | exact Nat.le_trans (Below.size (by assumption)) (by simp)) _) | (refine Below.via ?_ (by assumption) (by first | omega | (simp; done) | (simp; omega) | exact Below.size (by assumption) | exact Nat.le_trans (Below.size (by assumption)) (by simp)))))⟩

end Go.Proofs.Ytmcibcechffppaa

namespace Go.Proofs.Ytmcibcechffppaa
open Go.RowKit

/-- A schema with few lists of values, and a list of edits for it. -/
def smS (S : List (ByteArray × Int)) : Bool := schB S && decide (cnZ S ≤ 100)
def smB (S : List (ByteArray × Int)) (M : List (List Int)) : Bool := elB S M && decide (cnZ S ≤ 100)
theorem sm_no1 {S : List (ByteArray × Int)} {M : List (List Int)} (h : elB S M = false) : smB S M = false := by unfold smB; rw [h]; rfl
theorem sm_no2 {S : List (ByteArray × Int)} {M : List (List Int)} (h : ¬ cnZ S ≤ 100) : smB S M = false := by unfold smB; rw [decide_eq_false h, Bool.and_false]
theorem sm_yes {S : List (ByteArray × Int)} {M : List (List Int)} (h : elB S M = true) (k : cnZ S ≤ 100) : smB S M = true := by unfold smB; rw [h, decide_eq_true k]; rfl
theorem sm_get {S : List (ByteArray × Int)} {M : List (List Int)} (h : smB S M = true) : elB S M = true ∧ cnZ S ≤ 100 := by
  unfold smB at h
  simpa only [Bool.and_eq_true, decide_eq_true_eq] using h
theorem smS_no1 {S : List (ByteArray × Int)} (h : schB S = false) : smS S = false := by unfold smS; rw [h]; rfl
theorem smS_no2 {S : List (ByteArray × Int)} (h : ¬ cnZ S ≤ 100) : smS S = false := by unfold smS; rw [decide_eq_false h, Bool.and_false]
theorem smS_yes {S : List (ByteArray × Int)} (h : schB S = true) (k : cnZ S ≤ 100) : smS S = true := by unfold smS; rw [h, decide_eq_true k]; rfl
theorem smS_get {S : List (ByteArray × Int)} (h : smS S = true) : schB S = true ∧ cnZ S ≤ 100 := by
  unfold smS at h
  simpa only [Bool.and_eq_true, decide_eq_true_eq] using h
theorem sm_no3 {S : List (ByteArray × Int)} {M : List (List Int)} (h : smS S = false) : smB S M = false := by
  cases e : smB S M with
  | false => rfl
  | true =>
    obtain ⟨a, b⟩ := sm_get e
    rw [smS_yes (el_get a).1 b] at h
    cases h
theorem sm_both {S : List (ByteArray × Int)} {M : List (List Int)} (h : smS S = true) (k : elB S M = true) : smB S M = true := sm_yes k (smS_get h).2

/-- The union of two sets; the resolvent. -/
def joI (x y : Int) : Int := ((x.toNat ||| y.toNat : Nat) : Int)
theorem or_jo {x y : Int} (h0 : 0 ≤ x) (h1 : x ≤ 255) (h2 : 0 ≤ y) (h3 : y ≤ 255) : bits .or .i64 x y = joI x y := by
  obtain ⟨a, rfl⟩ := Int.eq_ofNat_of_zero_le h0
  obtain ⟨b, rfl⟩ := Int.eq_ofNat_of_zero_le h2
  rw [or64 (by omega) (by omega)]
  rfl
theorem jo_bd {x y lv : Int} (h0 : 1 ≤ x) (h1 : x ≤ flZ lv) (h2 : 1 ≤ y) (h3 : y ≤ flZ lv) : 1 ≤ joI x y ∧ joI x y ≤ flZ lv := by
  have a := flZ_lt (x := x) (by omega) h1
  have b := flZ_lt (x := y) (by omega) h3
  have c := Nat.or_lt_two_pow a b
  have d := Nat.left_le_or (n := x.toNat) (m := y.toNat)
  unfold joI
  refine ⟨by omega, ?_⟩
  have e : ((x.toNat ||| y.toNat : Nat) : Int) < ((2 ^ lv.toNat : Nat) : Int) := by exact_mod_cast c
  push_cast at e
  unfold flZ
  omega
def rvI (v : Int) (i : Nat) (x y : Int) : Int := if (i : Int) = v then joI x y else meI x y
def rvL (E F : List Int) (v : Int) : List Int := (List.range E.length).map fun i => rvI v i (E.getD i 0) (F.getD i 0)
theorem rvL_len (E F : List Int) (v : Int) : (rvL E F v).length = E.length := by unfold rvL; rw [List.length_map, List.length_range]
theorem rvL_at {E F : List Int} {v : Int} {i : Nat} {x y : Int} (h1 : E[i]? = some x) (h2 : F[i]? = some y) : (rvL E F v)[i]? = some (rvI v i x y) := by
  have hi := (List.getElem?_eq_some_iff.1 h1).1
  unfold rvL
  rw [List.getElem?_map, List.getElem?_range hi]
  simp [List.getD_eq_getElem?_getD, h1, h2]
theorem rvI_eq {v : Int} {i : Nat} {x y : Int} (h : (i : Int) = v) : rvI v i x y = joI x y := if_pos h
theorem rvI_ne {v : Int} {i : Nat} {x y : Int} (h : ¬ (i : Int) = v) : rvI v i x y = meI x y := if_neg h
def rvB (E F : List Int) (v : Int) : Bool := (rvL E F v).all fun z => decide (z ≠ 0)
theorem rvB_bad {E F : List Int} {v : Int} {i : Nat} {x y : Int} (h1 : E[i]? = some x) (h2 : F[i]? = some y) (h : rvI v i x y = 0) : rvB E F v = false := by
  unfold rvB
  rw [List.all_eq_false]
  exact ⟨_, List.mem_of_getElem? (rvL_at h1 h2), by simp [h]⟩
theorem rvB_all {E F : List Int} {v : Int} {n : Nat} (hl : E.length ≤ n) (h : ∀ j, j < n → ∃ x y, E[j]? = some x ∧ F[j]? = some y ∧ rvI v j x y ≠ 0) : rvB E F v = true := by
  unfold rvB
  rw [List.all_eq_true]
  intro z hz
  obtain ⟨j, hj, e⟩ := List.getElem_of_mem hz
  rw [rvL_len] at hj
  obtain ⟨x, y, h1, h2, h3⟩ := h j (by omega)
  have := rvL_at (v := v) h1 h2
  rw [List.getElem?_eq_getElem (by rw [rvL_len]; exact hj), e] at this
  injection this with this
  rw [this]
  exact decide_eq_true h3
theorem rv_bd {v : Int} {i : Nat} {x y lv : Int} (h0 : 1 ≤ x) (h1 : x ≤ flZ lv) (h2 : 1 ≤ y) (h3 : y ≤ flZ lv) : 0 ≤ rvI v i x y ∧ rvI v i x y ≤ flZ lv := by
  unfold rvI
  split
  · have := jo_bd h0 h1 h2 h3
    omega
  · have := me_bd (x := x) (y := y) (by omega)
    omega
theorem rv_ed {S : List (ByteArray × Int)} {E F : List Int} (v : Int) (hs : schB S = true) (hE : edB S E = true) (hF : edB S F = true) : edB S (rvL E F v) = rvB E F v := by
  have l1 := ed_len hE
  have l2 := ed_len hF
  have hl : (rvL E F v).length = S.length := by rw [rvL_len, l1]
  rw [Bool.eq_iff_iff]
  constructor
  · intro h
    unfold rvB
    rw [List.all_eq_true]
    intro z hz
    obtain ⟨j, hj, e⟩ := List.getElem_of_mem hz
    obtain ⟨nm, lv, x, a, b, c, _⟩ := ed_at hs h (i := j) (by omega)
    have : z = x := by have := List.getElem?_eq_getElem hj; rw [b, e] at this; cases this; rfl
    simp only [decide_eq_true_eq]
    omega
  · intro h
    unfold rvB at h
    rw [List.all_eq_true] at h
    refine ed_all hl fun j hj => ?_
    obtain ⟨nm, lv, x, a, b, c, d, _⟩ := ed_at hs hE (i := j) hj
    obtain ⟨nm2, lv2, y, a2, b2, c2, d2, _⟩ := ed_at hs hF (i := j) hj
    rw [a] at a2
    cases a2
    have hm := rvL_at (v := v) b b2
    have h1 := h _ (List.mem_of_getElem? hm)
    simp only [decide_eq_true_eq] at h1
    have h2 := rv_bd (v := v) (i := j) c d c2 d2
    exact ⟨nm, lv, _, a, hm, by omega, h2.2⟩
theorem rv_i64 {S : List (ByteArray × Int)} {E F : List Int} (v : Int) (hs : schB S = true) (hE : edB S E = true) (hF : edB S F = true) : ∀ n ∈ rvL E F v, IsI64 n := by
  intro n hn
  obtain ⟨j, hj, e⟩ := List.getElem_of_mem hn
  rw [rvL_len] at hj
  have l1 := ed_len hE
  obtain ⟨nm, lv, x, a, b, c, d, g1, g2, _⟩ := ed_at hs hE (i := j) (by omega)
  obtain ⟨nm2, lv2, y, a2, b2, c2, d2, _⟩ := ed_at hs hF (i := j) (by omega)
  rw [a] at a2
  cases a2
  have hm := rvL_at (v := v) b b2
  rw [List.getElem?_eq_getElem (by rw [rvL_len]; exact hj), e] at hm
  injection hm with hm
  have h2 := rv_bd (v := v) (i := j) c d c2 d2
  have h3 := flZ_bd ⟨g1, g2⟩
  rw [hm]
  unfold IsI64
  omega
/-- Is there a resolvent? -/
def rvR (S : List (ByteArray × Int)) (E F : List Int) (v : Int) : Bool := smB S [E, F] && decide (0 ≤ v ∧ v < S.length) && rvB E F v
theorem rvR_no1 {S : List (ByteArray × Int)} {E F : List Int} {v : Int} (h : smB S [E, F] = false) : rvR S E F v = false := by unfold rvR; rw [h]; rfl
theorem rvR_no2 {S : List (ByteArray × Int)} {E F : List Int} {v : Int} (h : ¬ (0 ≤ v ∧ v < S.length)) : rvR S E F v = false := by unfold rvR; rw [decide_eq_false h, Bool.and_false]; rfl
theorem rvR_no3 {S : List (ByteArray × Int)} {E F : List Int} {v : Int} (h : rvB E F v = false) : rvR S E F v = false := by unfold rvR; rw [h, Bool.and_false]
theorem rvR_yes {S : List (ByteArray × Int)} {E F : List Int} {v : Int} (h : smB S [E, F] = true) (k : 0 ≤ v ∧ v < S.length) (m : rvB E F v = true) : rvR S E F v = true := by unfold rvR; rw [h, decide_eq_true k, m]; rfl
theorem sm_two1 {S : List (ByteArray × Int)} {E F : List Int} (h : smS S = false) : smB S [E, F] = false := sm_no3 h
theorem sm_two2 {S : List (ByteArray × Int)} {E F : List Int} (h : seeB S E F = false) : smB S [E, F] = false := sm_no1 ((el_two S E F).trans h)
theorem sm_two3 {S : List (ByteArray × Int)} {E F : List Int} (h : smS S = true) (k : seeB S E F = true) : smB S [E, F] = true := sm_both h ((el_two S E F).trans k)

/-- The places, below n, of the lists of values that pass. -/
def psN (S : List (ByteArray × Int)) (M : List (List Int)) (n : Nat) : List Nat := (List.range n).filter fun i : Nat => !faB M (atL S i)
theorem psN_yes {S : List (ByteArray × Int)} {M : List (List Int)} {n : Nat} (h : faB M (atL S n) = false) : psN S M (n + 1) = psN S M n ++ [n] := by
  unfold psN
  rw [List.range_succ, List.filter_append]
  simp [h]
theorem psN_no {S : List (ByteArray × Int)} {M : List (List Int)} {n : Nat} (h : faB M (atL S n) = true) : psN S M (n + 1) = psN S M n := by
  unfold psN
  rw [List.range_succ, List.filter_append]
  simp [h]
theorem psN_mem {S : List (ByteArray × Int)} {M : List (List Int)} {n k : Nat} : k ∈ psN S M n ↔ k < n ∧ faB M (atL S k) = false := by
  unfold psN
  rw [List.mem_filter, List.mem_range]
  simp
theorem psN_len (S : List (ByteArray × Int)) (M : List (List Int)) (n : Nat) : (psN S M n).length = cpN S M n := rfl
/-- Is an edit implied? -/
def imV (S : List (ByteArray × Int)) (P : List Nat) (E : List Int) : Bool := P.all fun k => !fsB E (atL S k)
theorem imV_bad {S : List (ByteArray × Int)} {P : List Nat} {E : List Int} {k : Nat} (h : k ∈ P) (hf : fsB E (atL S k) = true) : imV S P E = false := by
  unfold imV
  rw [List.all_eq_false]
  exact ⟨k, h, by simp [hf]⟩
theorem imV_all {S : List (ByteArray × Int)} {P : List Nat} {E : List Int} (h : ∀ k ∈ P, fsB E (atL S k) = false) : imV S P E = true := by
  unfold imV
  rw [List.all_eq_true]
  intro k hk
  rw [h k hk]
  rfl
def imG (S : List (ByteArray × Int)) (M : List (List Int)) (E : List Int) : Bool := smB S M && edB S E
def imB (S : List (ByteArray × Int)) (M : List (List Int)) (E : List Int) : Bool := imG S M E && imV S (psN S M (cnZ S).toNat) E
theorem imG_no1 {S : List (ByteArray × Int)} {M : List (List Int)} {E : List Int} (h : smB S M = false) : imG S M E = false ∧ imB S M E = false := by unfold imB imG; rw [h]; exact ⟨rfl, rfl⟩
theorem imG_no2 {S : List (ByteArray × Int)} {M : List (List Int)} {E : List Int} (h : edB S E = false) : imG S M E = false ∧ imB S M E = false := by unfold imB imG; rw [h, Bool.and_false]; exact ⟨rfl, rfl⟩
theorem imG_yes {S : List (ByteArray × Int)} {M : List (List Int)} {E : List Int} (h : smB S M = true) (k : edB S E = true) : imG S M E = true ∧ imB S M E = imV S (psN S M (cnZ S).toNat) E := by unfold imB imG; rw [h, k]; exact ⟨rfl, rfl⟩
/-- Do all values fail? -/
def icB (S : List (ByteArray × Int)) (M : List (List Int)) : Bool := smB S M && decide (cpN S M (cnZ S).toNat = 0)
theorem icB_no {S : List (ByteArray × Int)} {M : List (List Int)} (h : smB S M = false) : icB S M = false := by unfold icB; rw [h]; rfl
theorem icB_yes {S : List (ByteArray × Int)} {M : List (List Int)} (h : smB S M = true) (k : cpN S M (cnZ S).toNat = 0) : icB S M = true := by unfold icB; rw [h, decide_eq_true k]; rfl
theorem icB_not {S : List (ByteArray × Int)} {M : List (List Int)} (k : 0 < cpN S M (cnZ S).toNat) : icB S M = false := by unfold icB; rw [decide_eq_false (by omega), Bool.and_false]

/-- Does the list of values at a place pass, and agree with others in some variables? -/
def agB (F V x : List Int) : Bool := F.all fun v => decide (x[v.toNat]? = V[v.toNat]?)
def coP (S : List (ByteArray × Int)) (M : List (List Int)) (F V : List Int) (k : Nat) : Bool := !faB M (atL S k) && agB F V (atL S k)
/-- The first place, below n, at which p holds. -/
def ftN (p : Nat → Bool) (n : Nat) : Option Nat := (List.range n).find? p
theorem ft_hit {p : Nat → Bool} {k : Nat} (h0 : ftN p k = none) (h : p k = true) : ∀ d, ftN p (k + 1 + d) = some k
  | 0 => by
    unfold ftN at *
    rw [Nat.add_zero, List.range_succ, List.find?_append, h0]
    simp [h]
  | d + 1 => by
    have e := ft_hit h0 h d
    unfold ftN at *
    rw [← Nat.add_assoc, List.range_succ, List.find?_append, e]
    rfl
theorem ft_found {p : Nat → Bool} {k n : Nat} (hk : k < n) (h0 : ftN p k = none) (h : p k = true) : ftN p n = some k := by
  obtain ⟨d, rfl⟩ : ∃ d, n = k + 1 + d := ⟨n - (k + 1), by omega⟩
  exact ft_hit h0 h d
theorem ft_next {p : Nat → Bool} {k : Nat} (h0 : ftN p k = none) (h : p k = false) : ftN p (k + 1) = none := by
  unfold ftN at *
  rw [List.range_succ, List.find?_append, h0]
  simp [h]
theorem ft_zero (p : Nat → Bool) : ftN p 0 = none := rfl
def coG (S : List (ByteArray × Int)) (M : List (List Int)) (F V : List Int) : Bool := smB S M && (F.all fun v => decide (0 ≤ v ∧ v < S.length)) && decide (F.Pairwise (· < ·)) && fitB S V
def coN (S : List (ByteArray × Int)) (M : List (List Int)) (F V : List Int) : Option Nat := ftN (coP S M F V) (cnZ S).toNat
def coB (S : List (ByteArray × Int)) (M : List (List Int)) (F V : List Int) : Bool := coG S M F V && (coN S M F V).isSome
def coL (S : List (ByteArray × Int)) (M : List (List Int)) (F V : List Int) : List Int := match coN S M F V with | some k => atL S k | none => []
end Go.Proofs.Ytmcibcechffppaa

namespace Go.Proofs.Ytmcibcechffppaa
open Go.RowKit Go.Shelf
set_option maxRecDepth 100000
attribute [local go_sem] Oper.semAt_some

theorem isSmall_any (x : Option Addr) (c : Nat) (S : List (ByteArray × Int)) (w : World) (hS : SIn w x c S) :
    Calls Try.prog 43 #[.slice x S.length c] w fun e w' => e = .returned (.bool (smS S)) ∧ Below w.heap.size w w' := by
  have hSh := Lib.hid hS
  have hm := hS.1
  clear hS
  go_enter Try.func43, Try.ntmps43
  go_wp2_with fail
  refine (isSch_x _ _ _ _ (hSh.out.below (by exact (by repeat (first | exact Below.refl _ _ | assumption | refine Below.drew ?_ | refine below_drewN ?_ _ | refine Below.alloc' ?_ _ | (refine Below.setCell ?_ (by first | omega | (simp; done) | (simp; omega) | exact Below.size (by assumption) | exact Nat.le_trans (Below.size (by assumption)) (by simp)) _) | (refine Below.via' ?_ (by assumption)) | (refine Below.alloc ?_ (by first | omega | (simp; done) | (simp; omega) | exact Below.size (by assumption) | exact Nat.le_trans (Below.size (by assumption)) (by simp)) _) | (refine Below.via ?_ (by assumption) (by first | omega | (simp; done) | (simp; omega) | exact Below.size (by assumption) | exact Nat.le_trans (Below.size (by assumption)) (by simp)))))))).mono ?_
  rintro e w1 ⟨rfl, hb1⟩
  cases hs : schB S
  · have hv := Lib.hid (smS_no1 hs)
    go_wp2
    go_ret
    exact ⟨ret_bool hv.out.symm, (by repeat (first | exact Below.refl _ _ | assumption | refine Below.drew ?_ | refine below_drewN ?_ _ | refine Below.alloc' ?_ _ | (refine Below.setCell ?_ (by first | omega | (simp; done) | (simp; omega) | exact Below.size (by assumption) | exact Nat.le_trans (Below.size (by assumption)) (by simp)) _) | (refine Below.via' ?_ (by assumption)) | (refine Below.alloc ?_ (by first | omega | (simp; done) | (simp; omega) | exact Below.size (by assumption) | exact Nat.le_trans (Below.size (by assumption)) (by simp)) _) | (refine Below.via ?_ (by assumption) (by first | omega | (simp; done) | (simp; omega) | exact Below.size (by assumption) | exact Nat.le_trans (Below.size (by assumption)) (by simp)))))⟩
  have hsh := Lib.hid hs
  clear hs
  go_wp2_with fail
  refine (countCombinations_any _ _ S _ hsh.out hm (hSh.out.rd.below (by exact (by repeat (first | exact Below.refl _ _ | assumption | refine Below.drew ?_ | refine below_drewN ?_ _ | refine Below.alloc' ?_ _ | (refine Below.setCell ?_ (by first | omega | (simp; done) | (simp; omega) | exact Below.size (by assumption) | exact Nat.le_trans (Below.size (by assumption)) (by simp)) _) | (refine Below.via' ?_ (by assumption)) | (refine Below.alloc ?_ (by first | omega | (simp; done) | (simp; omega) | exact Below.size (by assumption) | exact Nat.le_trans (Below.size (by assumption)) (by simp)) _) | (refine Below.via ?_ (by assumption) (by first | omega | (simp; done) | (simp; omega) | exact Below.size (by assumption) | exact Nat.le_trans (Below.size (by assumption)) (by simp)))))))).mono ?_
  rintro e w2 ⟨rfl, hb2⟩
  by_cases hbig : cnZ S ≤ 100
  · have hv := Lib.hid (smS_yes hsh.out hbig)
    go_wp2
    go_ret
    exact ⟨ret_bool hv.out.symm, (by repeat (first | exact Below.refl _ _ | assumption | refine Below.drew ?_ | refine below_drewN ?_ _ | refine Below.alloc' ?_ _ | (refine Below.setCell ?_ (by first | omega | (simp; done) | (simp; omega) | exact Below.size (by assumption) | exact Nat.le_trans (Below.size (by assumption)) (by simp)) _) | (refine Below.via' ?_ (by assumption)) | (refine Below.alloc ?_ (by first | omega | (simp; done) | (simp; omega) | exact Below.size (by assumption) | exact Nat.le_trans (Below.size (by assumption)) (by simp)) _) | (refine Below.via ?_ (by assumption) (by first | omega | (simp; done) | (simp; omega) | exact Below.size (by assumption) | exact Nat.le_trans (Below.size (by assumption)) (by simp)))))⟩
  · have hv := Lib.hid (smS_no2 hbig)
    go_wp2
    go_ret
    exact ⟨ret_bool ((decide_eq_false (by omega)).trans hv.out.symm), (by repeat (first | exact Below.refl _ _ | assumption | refine Below.drew ?_ | refine below_drewN ?_ _ | refine Below.alloc' ?_ _ | (refine Below.setCell ?_ (by first | omega | (simp; done) | (simp; omega) | exact Below.size (by assumption) | exact Nat.le_trans (Below.size (by assumption)) (by simp)) _) | (refine Below.via' ?_ (by assumption)) | (refine Below.alloc ?_ (by first | omega | (simp; done) | (simp; omega) | exact Below.size (by assumption) | exact Nat.le_trans (Below.size (by assumption)) (by simp)) _) | (refine Below.via ?_ (by assumption) (by first | omega | (simp; done) | (simp; omega) | exact Below.size (by assumption) | exact Nat.le_trans (Below.size (by assumption)) (by simp)))))⟩
theorem eSmall_any (x y : Option Addr) (c1 c2 : Nat) (S : List (ByteArray × Int)) (Q : List PR) (w : World) (hS : SIn w x c1 S) (hQ : EIn w y Q) :
    Calls Try.prog 39 #[.slice x S.length c1, .slice y Q.length c2] w fun e w' => e = .returned (.bool (smB S (eM Q))) ∧ Below w.heap.size w w' := by
  have hSh := Lib.hid hS
  have hQh := Lib.hid hQ
  have hm := hS.1
  clear hS hQ
  go_enter Try.func39, Try.ntmps39
  go_wp2_with fail
  refine (eList_any _ _ _ _ S Q _ (hSh.out.below (by exact (by repeat (first | exact Below.refl _ _ | assumption | refine Below.drew ?_ | refine below_drewN ?_ _ | refine Below.alloc' ?_ _ | (refine Below.setCell ?_ (by first | omega | (simp; done) | (simp; omega) | exact Below.size (by assumption) | exact Nat.le_trans (Below.size (by assumption)) (by simp)) _) | (refine Below.via' ?_ (by assumption)) | (refine Below.alloc ?_ (by first | omega | (simp; done) | (simp; omega) | exact Below.size (by assumption) | exact Nat.le_trans (Below.size (by assumption)) (by simp)) _) | (refine Below.via ?_ (by assumption) (by first | omega | (simp; done) | (simp; omega) | exact Below.size (by assumption) | exact Nat.le_trans (Below.size (by assumption)) (by simp))))))) (hQh.out.below (by exact (by repeat (first | exact Below.refl _ _ | assumption | refine Below.drew ?_ | refine below_drewN ?_ _ | refine Below.alloc' ?_ _ | (refine Below.setCell ?_ (by first | omega | (simp; done) | (simp; omega) | exact Below.size (by assumption) | exact Nat.le_trans (Below.size (by assumption)) (by simp)) _) | (refine Below.via' ?_ (by assumption)) | (refine Below.alloc ?_ (by first | omega | (simp; done) | (simp; omega) | exact Below.size (by assumption) | exact Nat.le_trans (Below.size (by assumption)) (by simp)) _) | (refine Below.via ?_ (by assumption) (by first | omega | (simp; done) | (simp; omega) | exact Below.size (by assumption) | exact Nat.le_trans (Below.size (by assumption)) (by simp)))))))).mono ?_
  rintro e w1 ⟨rfl, hb1⟩
  cases he : elB S (eM Q)
  · have hv := Lib.hid (sm_no1 he)
    go_wp2
    go_ret
    exact ⟨ret_bool hv.out.symm, (by repeat (first | exact Below.refl _ _ | assumption | refine Below.drew ?_ | refine below_drewN ?_ _ | refine Below.alloc' ?_ _ | (refine Below.setCell ?_ (by first | omega | (simp; done) | (simp; omega) | exact Below.size (by assumption) | exact Nat.le_trans (Below.size (by assumption)) (by simp)) _) | (refine Below.via' ?_ (by assumption)) | (refine Below.alloc ?_ (by first | omega | (simp; done) | (simp; omega) | exact Below.size (by assumption) | exact Nat.le_trans (Below.size (by assumption)) (by simp)) _) | (refine Below.via ?_ (by assumption) (by first | omega | (simp; done) | (simp; omega) | exact Below.size (by assumption) | exact Nat.le_trans (Below.size (by assumption)) (by simp)))))⟩
  have heh := Lib.hid he
  have hsh := Lib.hid (el_get he).1
  clear he
  go_wp2_with fail
  refine (sCount_any _ _ S _ hsh.out hm (hSh.out.rd.below (by exact (by repeat (first | exact Below.refl _ _ | assumption | refine Below.drew ?_ | refine below_drewN ?_ _ | refine Below.alloc' ?_ _ | (refine Below.setCell ?_ (by first | omega | (simp; done) | (simp; omega) | exact Below.size (by assumption) | exact Nat.le_trans (Below.size (by assumption)) (by simp)) _) | (refine Below.via' ?_ (by assumption)) | (refine Below.alloc ?_ (by first | omega | (simp; done) | (simp; omega) | exact Below.size (by assumption) | exact Nat.le_trans (Below.size (by assumption)) (by simp)) _) | (refine Below.via ?_ (by assumption) (by first | omega | (simp; done) | (simp; omega) | exact Below.size (by assumption) | exact Nat.le_trans (Below.size (by assumption)) (by simp)))))))).mono ?_
  rintro e w2 ⟨rfl, hb2⟩
  by_cases hbig : cnZ S ≤ 100
  · have hv := Lib.hid (sm_yes heh.out hbig)
    go_wp2
    go_ret
    exact ⟨ret_bool hv.out.symm, (by repeat (first | exact Below.refl _ _ | assumption | refine Below.drew ?_ | refine below_drewN ?_ _ | refine Below.alloc' ?_ _ | (refine Below.setCell ?_ (by first | omega | (simp; done) | (simp; omega) | exact Below.size (by assumption) | exact Nat.le_trans (Below.size (by assumption)) (by simp)) _) | (refine Below.via' ?_ (by assumption)) | (refine Below.alloc ?_ (by first | omega | (simp; done) | (simp; omega) | exact Below.size (by assumption) | exact Nat.le_trans (Below.size (by assumption)) (by simp)) _) | (refine Below.via ?_ (by assumption) (by first | omega | (simp; done) | (simp; omega) | exact Below.size (by assumption) | exact Nat.le_trans (Below.size (by assumption)) (by simp)))))⟩
  · have hv := Lib.hid (sm_no2 (M := eM Q) hbig)
    go_wp2
    go_ret
    exact ⟨ret_bool ((decide_eq_false (by omega)).trans hv.out.symm), (by repeat (first | exact Below.refl _ _ | assumption | refine Below.drew ?_ | refine below_drewN ?_ _ | refine Below.alloc' ?_ _ | (refine Below.setCell ?_ (by first | omega | (simp; done) | (simp; omega) | exact Below.size (by assumption) | exact Nat.le_trans (Below.size (by assumption)) (by simp)) _) | (refine Below.via' ?_ (by assumption)) | (refine Below.alloc ?_ (by first | omega | (simp; done) | (simp; omega) | exact Below.size (by assumption) | exact Nat.le_trans (Below.size (by assumption)) (by simp)) _) | (refine Below.via ?_ (by assumption) (by first | omega | (simp; done) | (simp; omega) | exact Below.size (by assumption) | exact Nat.le_trans (Below.size (by assumption)) (by simp)))))⟩
/-- Two result variables' boxes. -/
def ResT (t n : Nat) (v : Value) (b : Bool) (W : World) : Prop := Boxed W n t v ∧ Boxed W (n + 1) 4 (.bool b)
theorem resT_new (t : Nat) (z : Value) (w : World) : ResT t w.heap.size z false ((w.alloc (.cells #[z] t)).alloc (.cells #[.bool false] 4)) := by
  refine ⟨(Boxed.new w t _).alloc _, ?_⟩
  have := Boxed.new (w.alloc (.cells #[z] t)) 4 (.bool false)
  rwa [World.size_alloc] at this
theorem ResT.below {t n : Nat} {v : Value} {b : Bool} {w W : World} (h : ResT t n v b w) (hb : Below w.heap.size w W) : ResT t n v b W := ⟨(hb.block _ h.1.lt).trans h.1, (hb.block _ h.2.lt).trans h.2⟩
theorem ResT.set {t n : Nat} {v v0 : Value} {b b0 : Bool} {W : World} (h : ResT t n v0 b0 W) : ResT t n v b ((W.setCell ⟨n, 0, none⟩ v).setCell ⟨n + 1, 0, none⟩ (.bool b)) :=
  ⟨(h.1.set v).other (by omega) _, (h.2.other (by omega) v).set (.bool b)⟩
theorem ResT.put {t n l : Nat} {v : Value} {b : Bool} {W : World} {o : Obj} (h : ResT t n v b W) (o' : Obj) (hl : W.heap[l]? = some o) (ho : o.isCells = false) : ResT t n v b (W.putObj l o') := by
  have hne : ∀ k c t z, W.heap[k]? = some (.cells c t z) → k ≠ l := by
    rintro k c t z hk rfl
    rw [hk] at hl
    cases hl
    cases ho
  exact ⟨(World.putObj_heap_other (hne _ _ _ _ h.1)).trans h.1, (World.putObj_heap_other (hne _ _ _ _ h.2)).trans h.2⟩
theorem resT_own {β : Type} (t n : Nat) (f : β → Value) (b : Bool) : Own (fun s W => ResT t n (f s) b W) := fun s A B row h hg hr =>
  ⟨boxed_own n t f s A B row h.1 hg hr, boxed_own (n + 1) 4 (fun _ => .bool b) s A B row h.2 hg hr⟩
end Go.Proofs.Ytmcibcechffppaa
