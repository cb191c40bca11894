/-
  The walks of chapter 5: is an edit a part of another; the program's and the model's.
-/
import Derived.Test.YtmcibcechffppaaEdH
namespace Go.Proofs.Ytmcibcechffppaa
open Go.RowKit
set_option maxRecDepth 100000

/-- Two edits for a schema. -/
def seeB (S : List (ByteArray × Int)) (E F : List Int) : Bool := seB S E && edB S F
def ctR (S : List (ByteArray × Int)) (E F : List Int) : Bool := seeB S E F && ctB E F
theorem see_no1 {S : List (ByteArray × Int)} {E F : List Int} (h : seB S E = false) : seeB S E F = false ∧ ctR S E F = false := by unfold ctR seeB; rw [h]; exact ⟨rfl, rfl⟩
theorem see_no2 {S : List (ByteArray × Int)} {E F : List Int} (h : edB S F = false) : seeB S E F = false ∧ ctR S E F = false := by unfold ctR seeB; rw [h, Bool.and_false]; exact ⟨rfl, rfl⟩
theorem see_yes {S : List (ByteArray × Int)} {E F : List Int} (h : seB S E = true) (k : edB S F = true) : seeB S E F = true ∧ ctR S E F = ctB E F := by unfold ctR seeB; rw [h, k]; exact ⟨rfl, rfl⟩
theorem see_get {S : List (ByteArray × Int)} {E F : List Int} (h : seeB S E F = true) : schB S = true ∧ edB S E = true ∧ edB S F = true := by
  unfold seeB at h
  rw [Bool.and_eq_true] at h
  exact ⟨(se_get h.1).1, (se_get h.1).2, h.2⟩
/-- Two edits side by side: small numbers. -/
theorem see_at {S : List (ByteArray × Int)} {E F : List Int} (hs : schB S = true) (hE : edB S E = true) (hF : edB S F = true) {i : Nat} (hi : i < S.length) : ∃ x y, E[i]? = some x ∧ F[i]? = some y ∧ 1 ≤ x ∧ x ≤ 255 ∧ 1 ≤ y ∧ y ≤ 255 := by
  obtain ⟨_, _, x, _, b, c, _, _, _, d⟩ := ed_at hs hE hi
  obtain ⟨_, _, y, _, b2, c2, _, _, _, d2⟩ := ed_at hs hF hi
  exact ⟨x, y, b, b2, c, d, c2, d2⟩

set_option maxHeartbeats 4000000 in
theorem eContains_any (y z : Option Addr) (c2 c3 : Nat) (E F : List Int) (w : World) (hl : E.length = F.length) (hf : ∀ i, i < F.length → ∃ x y, E[i]? = some x ∧ F[i]? = some y ∧ 1 ≤ x ∧ x ≤ 255 ∧ 1 ≤ y ∧ y ≤ 255) (hE : IIn w y E) (hF : IIn w z F) :
    Calls Try.prog 84 #[.agg #[.slice y E.length c2], .agg #[.slice z F.length c3]] w fun e w' => e = .returned (.bool (ctB E F)) ∧ Below w.heap.size w w' := by
  have hlh := Lib.hid hl
  have hfh := Lib.hid hf
  have hEh := Lib.hid hE
  have hFh := Lib.hid hF
  have hFl := hF.1
  clear hE hF hl hf
  have hb1 : Below w.heap.size w (w.alloc (.cells #[.slice y E.length c2] 62)) := (by repeat (first | exact Below.refl _ _ | assumption | refine Below.drew ?_ | refine below_drewN ?_ _ | refine Below.alloc' ?_ _ | (refine Below.setCell ?_ (by first | omega | (simp; done) | (simp; omega) | exact Below.size (by assumption) | exact Nat.le_trans (Below.size (by assumption)) (by simp)) _) | (refine Below.via' ?_ (by assumption)) | (refine Below.alloc ?_ (by first | omega | (simp; done) | (simp; omega) | exact Below.size (by assumption) | exact Nat.le_trans (Below.size (by assumption)) (by simp)) _) | (refine Below.via ?_ (by assumption) (by first | omega | (simp; done) | (simp; omega) | exact Below.size (by assumption) | exact Nat.le_trans (Below.size (by assumption)) (by simp)))))
  have hb2 : Below (w.alloc (.cells #[.slice y E.length c2] 62)).heap.size (w.alloc (.cells #[.slice y E.length c2] 62)) ((w.alloc (.cells #[.slice y E.length c2] 62)).alloc (.cells #[.slice z F.length c3] 62)) := (by repeat (first | exact Below.refl _ _ | assumption | refine Below.drew ?_ | refine below_drewN ?_ _ | refine Below.alloc' ?_ _ | (refine Below.setCell ?_ (by first | omega | (simp; done) | (simp; omega) | exact Below.size (by assumption) | exact Nat.le_trans (Below.size (by assumption)) (by simp)) _) | (refine Below.via' ?_ (by assumption)) | (refine Below.alloc ?_ (by first | omega | (simp; done) | (simp; omega) | exact Below.size (by assumption) | exact Nat.le_trans (Below.size (by assumption)) (by simp)) _) | (refine Below.via ?_ (by assumption) (by first | omega | (simp; done) | (simp; omega) | exact Below.size (by assumption) | exact Nat.le_trans (Below.size (by assumption)) (by simp)))))
  have hqE := Lib.hid ((QB.new w y E.length c2 62).below hb2)
  have hqF : Hid (QB ((w.alloc (.cells #[.slice y E.length c2] 62)).alloc (.cells #[.slice z F.length c3] 62)) (w.heap.size + 1) z F.length c3) := by
    have h0 := QB.new (w.alloc (.cells #[.slice y E.length c2] 62)) z F.length c3 62
    rwa [World.size_alloc] at h0
  have hB2 : Below w.heap.size w ((w.alloc (.cells #[.slice y E.length c2] 62)).alloc (.cells #[.slice z F.length c3] 62)) := (by repeat (first | exact Below.refl _ _ | assumption | refine Below.drew ?_ | refine below_drewN ?_ _ | refine Below.alloc' ?_ _ | (refine Below.setCell ?_ (by first | omega | (simp; done) | (simp; omega) | exact Below.size (by assumption) | exact Nat.le_trans (Below.size (by assumption)) (by simp)) _) | (refine Below.via' ?_ (by assumption)) | (refine Below.alloc ?_ (by first | omega | (simp; done) | (simp; omega) | exact Below.size (by assumption) | exact Nat.le_trans (Below.size (by assumption)) (by simp)) _) | (refine Below.via ?_ (by assumption) (by first | omega | (simp; done) | (simp; omega) | exact Below.size (by assumption) | exact Nat.le_trans (Below.size (by assumption)) (by simp)))))
  obtain ⟨W0, hW0⟩ : ∃ W0, (w.alloc (.cells #[.slice y E.length c2] 62)).alloc (.cells #[.slice z F.length c3] 62) = W0 := ⟨_, rfl⟩
  have hW0z : Hid (W0.heap.size = w.heap.size + 2) := by unfold Hid; rw [← hW0]; simp
  rw [hW0] at hqE hqF hB2
  clear hb1 hb2
  obtain ⟨fa0, fb0, fc0⟩ := hqF.out
  obtain ⟨ea0, eb0, ec0⟩ := hqE.out
  go_enter Try.func84, Try.ntmps84
  go_wp2
  try rw [hW0]
  clear hW0 fa0 fb0 ea0 eb0
  go_loopw [10] (fun c wr => ∃ i : Nat, i ≤ F.length ∧ c = .int .i64 i ∧ Hid (∀ j, j < i → ∃ x y, E[j]? = some x ∧ F[j]? = some y ∧ sbB x y = true) ∧ Below W0.heap.size W0 wr) (fun c _ => F.length - (intOf c).toNat)
  case atStart => exact ⟨0, by omega, rfl, (fun j hj => absurd hj (by omega)), Below.refl _ _⟩
  case round =>
    obtain ⟨i, hi, rfl, hall, hb⟩ := hrel
    have hBr : Below w.heap.size w wr := hB2.trans (hb.mono hB2.size)
    by_cases hlt : i < F.length
    · obtain ⟨x, u, hEi, hFi, x0, x1, y0, y1⟩ := hfh.out i hlt
      obtain ⟨bl, off, x', rfl, hbl, hEi2, hc0⟩ := (hEh.out.below hBr).2.2.int (i := i) (by have := hlh.out; omega)
      obtain ⟨bl2, off2, u', rfl, hbl2, hFi2, hc1⟩ := (hFh.out.below hBr).2.2.int (i := i) hlt
      obtain rfl := Option.some.inj (hEi2.symm.trans hEi)
      obtain rfl := Option.some.inj (hFi2.symm.trans hFi)
      clear hEi2 hFi2
      obtain ⟨ka, kb, kc⟩ := hqE.out.below hb
      have hlt' : (i : Int) < (F.length : Int) := by omega
      have hlt2 : (i : Int) < (E.length : Int) := by have := hlh.out; omega
      have hi0 : (0 : Int) ≤ (i : Int) := by omega
      have hsub := and_sub (x := x') (y := u') (by omega) x1 (by omega) y1
      cases hh : sbB x' u'
      · have hv := Lib.hid (ct_bad hEi hFi hh)
        have hz : (bits .and .i64 u' x' == u') = false := by rw [beq_eq_false_iff_ne]; intro h; rw [hsub.1 h] at hh; cases hh
        replace hEi := Lib.hid hEi
        replace hFi := Lib.hid hFi
        clear hsub
        go_wp2
        go_ret
        exact ⟨ret_bool hv.out.symm, (by repeat (first | exact Below.refl _ _ | assumption | refine Below.drew ?_ | refine below_drewN ?_ _ | refine Below.alloc' ?_ _ | (refine Below.setCell ?_ (by first | omega | (simp; done) | (simp; omega) | exact Below.size (by assumption) | exact Nat.le_trans (Below.size (by assumption)) (by simp)) _) | (refine Below.via' ?_ (by assumption)) | (refine Below.alloc ?_ (by first | omega | (simp; done) | (simp; omega) | exact Below.size (by assumption) | exact Nat.le_trans (Below.size (by assumption)) (by simp)) _) | (refine Below.via ?_ (by assumption) (by first | omega | (simp; done) | (simp; omega) | exact Below.size (by assumption) | exact Nat.le_trans (Below.size (by assumption)) (by simp)))))⟩
      · have hz : (bits .and .i64 u' x' == u') = true := by rw [beq_iff_eq]; exact hsub.2 hh
        replace hEi := Lib.hid hEi
        replace hFi := Lib.hid hFi
        have hhh := Lib.hid hh
        clear hh hsub
        go_wp2
        go_roundw
        case rel =>
          refine ⟨i + 1, by omega, by go_num, fun j hj => ?_, (by repeat (first | exact Below.refl _ _ | assumption | refine Below.drew ?_ | refine below_drewN ?_ _ | refine Below.alloc' ?_ _ | (refine Below.setCell ?_ (by first | omega | (simp; done) | (simp; omega) | exact Below.size (by assumption) | exact Nat.le_trans (Below.size (by assumption)) (by simp)) _) | (refine Below.via' ?_ (by assumption)) | (refine Below.alloc ?_ (by first | omega | (simp; done) | (simp; omega) | exact Below.size (by assumption) | exact Nat.le_trans (Below.size (by assumption)) (by simp)) _) | (refine Below.via ?_ (by assumption) (by first | omega | (simp; done) | (simp; omega) | exact Below.size (by assumption) | exact Nat.le_trans (Below.size (by assumption)) (by simp)))))⟩
          rcases Nat.lt_or_ge j i with hj2 | hj2
          · exact hall.out j hj2
          · obtain rfl : j = i := by omega
            exact ⟨_, _, hEi.out, hFi.out, hhh.out⟩
        case measure => simp [intOf]; omega
    · have hij : i = F.length := by omega
      subst hij
      have hv := Lib.hid (ct_all (E := E) (n := F.length) (by have := hlh.out; omega) hall.out)
      clear hall
      go_wp2
      go_ret
      exact ⟨ret_bool hv.out.symm, (by repeat (first | exact Below.refl _ _ | assumption | refine Below.drew ?_ | refine below_drewN ?_ _ | refine Below.alloc' ?_ _ | (refine Below.setCell ?_ (by first | omega | (simp; done) | (simp; omega) | exact Below.size (by assumption) | exact Nat.le_trans (Below.size (by assumption)) (by simp)) _) | (refine Below.via' ?_ (by assumption)) | (refine Below.alloc ?_ (by first | omega | (simp; done) | (simp; omega) | exact Below.size (by assumption) | exact Nat.le_trans (Below.size (by assumption)) (by simp)) _) | (refine Below.via ?_ (by assumption) (by first | omega | (simp; done) | (simp; omega) | exact Below.size (by assumption) | exact Nat.le_trans (Below.size (by assumption)) (by simp)))))⟩

set_option maxHeartbeats 4000000 in
theorem containsEdit_any (y z : Option Addr) (c2 c3 : Nat) (E F : List Int) (w : World) (hl : E.length = F.length) (hf : ∀ i, i < F.length → ∃ x y, E[i]? = some x ∧ F[i]? = some y ∧ 1 ≤ x ∧ x ≤ 255 ∧ 1 ≤ y ∧ y ≤ 255) (hE : IIn w y E) (hF : IIn w z F) :
    Calls Try.prog 46 #[.agg #[.slice y E.length c2], .agg #[.slice z F.length c3]] w fun e w' => e = .returned (.bool (ctB E F)) ∧ Below w.heap.size w w' := by
  have hlh := Lib.hid hl
  have hfh := Lib.hid hf
  have hEh := Lib.hid hE
  have hFh := Lib.hid hF
  have hFl := hF.1
  clear hE hF hl hf
  have hb1 : Below w.heap.size w (w.alloc (.cells #[.slice y E.length c2] 62)) := (by repeat (first | exact Below.refl _ _ | assumption | refine Below.drew ?_ | refine below_drewN ?_ _ | refine Below.alloc' ?_ _ | (refine Below.setCell ?_ (by first | omega | (simp; done) | (simp; omega) | exact Below.size (by assumption) | exact Nat.le_trans (Below.size (by assumption)) (by simp)) _) | (refine Below.via' ?_ (by assumption)) | (refine Below.alloc ?_ (by first | omega | (simp; done) | (simp; omega) | exact Below.size (by assumption) | exact Nat.le_trans (Below.size (by assumption)) (by simp)) _) | (refine Below.via ?_ (by assumption) (by first | omega | (simp; done) | (simp; omega) | exact Below.size (by assumption) | exact Nat.le_trans (Below.size (by assumption)) (by simp)))))
  have hb2 : Below (w.alloc (.cells #[.slice y E.length c2] 62)).heap.size (w.alloc (.cells #[.slice y E.length c2] 62)) ((w.alloc (.cells #[.slice y E.length c2] 62)).alloc (.cells #[.slice z F.length c3] 62)) := (by repeat (first | exact Below.refl _ _ | assumption | refine Below.drew ?_ | refine below_drewN ?_ _ | refine Below.alloc' ?_ _ | (refine Below.setCell ?_ (by first | omega | (simp; done) | (simp; omega) | exact Below.size (by assumption) | exact Nat.le_trans (Below.size (by assumption)) (by simp)) _) | (refine Below.via' ?_ (by assumption)) | (refine Below.alloc ?_ (by first | omega | (simp; done) | (simp; omega) | exact Below.size (by assumption) | exact Nat.le_trans (Below.size (by assumption)) (by simp)) _) | (refine Below.via ?_ (by assumption) (by first | omega | (simp; done) | (simp; omega) | exact Below.size (by assumption) | exact Nat.le_trans (Below.size (by assumption)) (by simp)))))
  have hqE := Lib.hid ((QB.new w y E.length c2 62).below hb2)
  have hqF : Hid (QB ((w.alloc (.cells #[.slice y E.length c2] 62)).alloc (.cells #[.slice z F.length c3] 62)) (w.heap.size + 1) z F.length c3) := by
    have h0 := QB.new (w.alloc (.cells #[.slice y E.length c2] 62)) z F.length c3 62
    rwa [World.size_alloc] at h0
  have hB2 : Below w.heap.size w ((w.alloc (.cells #[.slice y E.length c2] 62)).alloc (.cells #[.slice z F.length c3] 62)) := (by repeat (first | exact Below.refl _ _ | assumption | refine Below.drew ?_ | refine below_drewN ?_ _ | refine Below.alloc' ?_ _ | (refine Below.setCell ?_ (by first | omega | (simp; done) | (simp; omega) | exact Below.size (by assumption) | exact Nat.le_trans (Below.size (by assumption)) (by simp)) _) | (refine Below.via' ?_ (by assumption)) | (refine Below.alloc ?_ (by first | omega | (simp; done) | (simp; omega) | exact Below.size (by assumption) | exact Nat.le_trans (Below.size (by assumption)) (by simp)) _) | (refine Below.via ?_ (by assumption) (by first | omega | (simp; done) | (simp; omega) | exact Below.size (by assumption) | exact Nat.le_trans (Below.size (by assumption)) (by simp)))))
  obtain ⟨W0, hW0⟩ : ∃ W0, (w.alloc (.cells #[.slice y E.length c2] 62)).alloc (.cells #[.slice z F.length c3] 62) = W0 := ⟨_, rfl⟩
  have hW0z : Hid (W0.heap.size = w.heap.size + 2) := by unfold Hid; rw [← hW0]; simp
  rw [hW0] at hqE hqF hB2
  clear hb1 hb2
  obtain ⟨fa0, fb0, fc0⟩ := hqF.out
  obtain ⟨ea0, eb0, ec0⟩ := hqE.out
  go_enter Try.func46, Try.ntmps46
  go_wp2
  try rw [hW0]
  clear hW0 fa0 fb0 ea0 eb0
  go_loopw [10] (fun c wr => ∃ i : Nat, i ≤ F.length ∧ c = .int .i64 i ∧ Hid (∀ j, j < i → ∃ x y, E[j]? = some x ∧ F[j]? = some y ∧ sbB x y = true) ∧ Below W0.heap.size W0 wr) (fun c _ => F.length - (intOf c).toNat)
  case atStart => exact ⟨0, by omega, rfl, (fun j hj => absurd hj (by omega)), Below.refl _ _⟩
  case round =>
    obtain ⟨i, hi, rfl, hall, hb⟩ := hrel
    have hBr : Below w.heap.size w wr := hB2.trans (hb.mono hB2.size)
    by_cases hlt : i < F.length
    · obtain ⟨x, u, hEi, hFi, x0, x1, y0, y1⟩ := hfh.out i hlt
      obtain ⟨bl, off, x', rfl, hbl, hEi2, hc0⟩ := (hEh.out.below hBr).2.2.int (i := i) (by have := hlh.out; omega)
      obtain ⟨bl2, off2, u', rfl, hbl2, hFi2, hc1⟩ := (hFh.out.below hBr).2.2.int (i := i) hlt
      obtain rfl := Option.some.inj (hEi2.symm.trans hEi)
      obtain rfl := Option.some.inj (hFi2.symm.trans hFi)
      clear hEi2 hFi2
      obtain ⟨ka, kb, kc⟩ := hqE.out.below hb
      have hlt' : (i : Int) < (F.length : Int) := by omega
      have hlt2 : (i : Int) < (E.length : Int) := by have := hlh.out; omega
      have hi0 : (0 : Int) ≤ (i : Int) := by omega
      have hsub := andNot_sub (x := x') (y := u') (by omega) x1 (by omega) y1
      cases hh : sbB x' u'
      · have hv := Lib.hid (ct_bad hEi hFi hh)
        have hz : (bits .andNot .i64 u' x' == 0) = false := by rw [beq_eq_false_iff_ne]; intro h; rw [hsub.1 h] at hh; cases hh
        replace hEi := Lib.hid hEi
        replace hFi := Lib.hid hFi
        clear hsub
        go_wp2
        go_ret
        exact ⟨ret_bool hv.out.symm, (by repeat (first | exact Below.refl _ _ | assumption | refine Below.drew ?_ | refine below_drewN ?_ _ | refine Below.alloc' ?_ _ | (refine Below.setCell ?_ (by first | omega | (simp; done) | (simp; omega) | exact Below.size (by assumption) | exact Nat.le_trans (Below.size (by assumption)) (by simp)) _) | (refine Below.via' ?_ (by assumption)) | (refine Below.alloc ?_ (by first | omega | (simp; done) | (simp; omega) | exact Below.size (by assumption) | exact Nat.le_trans (Below.size (by assumption)) (by simp)) _) | (refine Below.via ?_ (by assumption) (by first | omega | (simp; done) | (simp; omega) | exact Below.size (by assumption) | exact Nat.le_trans (Below.size (by assumption)) (by simp)))))⟩
      · have hz : (bits .andNot .i64 u' x' == 0) = true := by rw [beq_iff_eq]; exact hsub.2 hh
        replace hEi := Lib.hid hEi
        replace hFi := Lib.hid hFi
        have hhh := Lib.hid hh
        clear hh hsub
        go_wp2
        go_roundw
        case rel =>
          refine ⟨i + 1, by omega, by go_num, fun j hj => ?_, (by repeat (first | exact Below.refl _ _ | assumption | refine Below.drew ?_ | refine below_drewN ?_ _ | refine Below.alloc' ?_ _ | (refine Below.setCell ?_ (by first | omega | (simp; done) | (simp; omega) | exact Below.size (by assumption) | exact Nat.le_trans (Below.size (by assumption)) (by simp)) _) | (refine Below.via' ?_ (by assumption)) | (refine Below.alloc ?_ (by first | omega | (simp; done) | (simp; omega) | exact Below.size (by assumption) | exact Nat.le_trans (Below.size (by assumption)) (by simp)) _) | (refine Below.via ?_ (by assumption) (by first | omega | (simp; done) | (simp; omega) | exact Below.size (by assumption) | exact Nat.le_trans (Below.size (by assumption)) (by simp)))))⟩
          rcases Nat.lt_or_ge j i with hj2 | hj2
          · exact hall.out j hj2
          · obtain rfl : j = i := by omega
            exact ⟨_, _, hEi.out, hFi.out, hhh.out⟩
        case measure => simp [intOf]; omega
    · have hij : i = F.length := by omega
      subst hij
      have hv := Lib.hid (ct_all (E := E) (n := F.length) (by have := hlh.out; omega) hall.out)
      clear hall
      go_wp2
      go_ret
      exact ⟨ret_bool hv.out.symm, (by repeat (first | exact Below.refl _ _ | assumption | refine Below.drew ?_ | refine below_drewN ?_ _ | refine Below.alloc' ?_ _ | (refine Below.setCell ?_ (by first | omega | (simp; done) | (simp; omega) | exact Below.size (by assumption) | exact Nat.le_trans (Below.size (by assumption)) (by simp)) _) | (refine Below.via' ?_ (by assumption)) | (refine Below.alloc ?_ (by first | omega | (simp; done) | (simp; omega) | exact Below.size (by assumption) | exact Nat.le_trans (Below.size (by assumption)) (by simp)) _) | (refine Below.via ?_ (by assumption) (by first | omega | (simp; done) | (simp; omega) | exact Below.size (by assumption) | exact Nat.le_trans (Below.size (by assumption)) (by simp)))))⟩

end Go.Proofs.Ytmcibcechffppaa
