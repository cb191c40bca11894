/-
  The walks of chapter 5: is an edit a part of another; the program's and the model's.
-/
import Derived.Test.YtfaobfgckfjnjaaEdH
namespace Go.Proofs.Ytfaobfgckfjnjaa
open Go.RowKit
set_option maxRecDepth 100000

/-- Two edits for a schema. -/
def seeB (S : List (ByteArray × Int)) (E F : List Int) : Bool := seB S E && edB S F
def ctR (S : List (ByteArray × Int)) (E F : List Int) : Bool := seeB S E F && ctB E F
theorem see_no1 {S : List (ByteArray × Int)} {E F : List Int} (h : seB S E = false) : seeB S E F = false ∧ ctR S E F = false := by unfold ctR seeB; rw [h]; exact ⟨rfl, rfl⟩
theorem see_no2 {S : List (ByteArray × Int)} {E F : List Int} (h : edB S F = false) : seeB S E F = false ∧ ctR S E F = false := by unfold ctR seeB; rw [h, Bool.and_false]; exact ⟨rfl, rfl⟩
theorem see_yes {S : List (ByteArray × Int)} {E F : List Int} (h : seB S E = true) (k : edB S F = true) : seeB S E F = true ∧ ctR S E F = ctB E F := by unfold ctR seeB; rw [h, k]; exact ⟨rfl, rfl⟩
theorem see_get {S : List (ByteArray × Int)} {E F : List Int} (h : seeB S E F = true) : schB S = true ∧ edB S E = true ∧ edB S F = true := by
  unfold seeB at h
  rw [Bool.and_eq_true] at h
  exact ⟨(se_get h.1).1, (se_get h.1).2, h.2⟩
/-- Two edits side by side: small numbers. -/
theorem see_at {S : List (ByteArray × Int)} {E F : List Int} (hs : schB S = true) (hE : edB S E = true) (hF : edB S F = true) {i : Nat} (hi : i < S.length) : ∃ x y, E[i]? = some x ∧ F[i]? = some y ∧ 1 ≤ x ∧ x ≤ 255 ∧ 1 ≤ y ∧ y ≤ 255 := by
  obtain ⟨_, _, x, _, b, c, _, _, _, d⟩ := ed_at hs hE hi
  obtain ⟨_, _, y, _, b2, c2, _, _, _, d2⟩ := ed_at hs hF hi
  exact ⟨x, y, b, b2, c, d, c2, d2⟩

set_option maxHeartbeats 4000000 in
theorem eContains_any (y z : Option Addr) (c2 c3 : Nat) (E F : List Int) (w : World) (hl : E.length = F.length) (hf : ∀ i, i < F.length → ∃ x y, E[i]? = some x ∧ F[i]? = some y ∧ 1 ≤ x ∧ x ≤ 255 ∧ 1 ≤ y ∧ y ≤ 255) (hE : IIn w y E) (hF : IIn w z F) :
    Calls Try.prog 107 #[.agg #[.slice y E.length c2], .agg #[.slice z F.length c3]] w fun e w' => e = .returned (.bool (ctB E F)) ∧ Below w.heap.size w w' := by
  have hlh := Lib.hid hl
  have hfh := Lib.hid hf
  have hEh := Lib.hid hE
  have hFh := Lib.hid hF
  have hFl := hF.1
  clear hE hF hl hf
  have hb1 : Below w.heap.size w (w.alloc (.cells #[.slice y E.length c2] 28)) := (by repeat (first | exact Below.refl _ _ | assumption | refine Below.drew ?_ | refine below_drewN ?_ _ | refine Below.alloc' ?_ _ | (refine Below.setCell ?_ (by first | omega | (simp; done) | (simp; omega) | exact Below.size (by assumption) | exact Nat.le_trans (Below.size (by assumption)) (by simp)) _) | (refine Below.via' ?_ (by assumption)) | (refine Below.alloc ?_ (by first | omega | (simp; done) | (simp; omega) | exact Below.size (by assumption) | exact Nat.le_trans (Below.size (by assumption)) (by simp)) _) | (refine Below.via ?_ (by assumption) (by first | omega | (simp; done) | (simp; omega) | exact Below.size (by assumption) | exact Nat.le_trans (Below.size (by assumption)) (by simp)))))
  have hb2 : Below (w.alloc (.cells #[.slice y E.length c2] 28)).heap.size (w.alloc (.cells #[.slice y E.length c2] 28)) ((w.alloc (.cells #[.slice y E.length c2] 28)).alloc (.cells #[.slice z F.length c3] 28)) := (by repeat (first | exact Below.refl _ _ | assumption | refine Below.drew ?_ | refine below_drewN ?_ _ | refine Below.alloc' ?_ _ | (refine Below.setCell ?_ (by first | omega | (simp; done) | (simp; omega) | exact Below.size (by assumption) | exact Nat.le_trans (Below.size (by assumption)) (by simp)) _) | (refine Below.via' ?_ (by assumption)) | (refine Below.alloc ?_ (by first | omega | (simp; done) | (simp; omega) | exact Below.size (by assumption) | exact Nat.le_trans (Below.size (by assumption)) (by simp)) _) | (refine Below.via ?_ (by assumption) (by first | omega | (simp; done) | (simp; omega) | exact Below.size (by assumption) | exact Nat.le_trans (Below.size (by assumption)) (by simp)))))
  have hqE := Lib.hid ((QB.new w y E.length c2 28).below hb2)
  have hqF : Hid (QB ((w.alloc (.cells #[.slice y E.length c2] 28)).alloc (.cells #[.slice z F.length c3] 28)) (w.heap.size + 1) z F.length c3) := by
    have h0 := QB.new (w.alloc (.cells #[.slice y E.length c2] 28)) z F.length c3 28
    rwa [World.size_alloc] at h0
  have hB2 : Below w.heap.size w ((w.alloc (.cells #[.slice y E.length c2] 28)).alloc (.cells #[.slice z F.length c3] 28)) := (by repeat (first | exact Below.refl _ _ | assumption | refine Below.drew ?_ | refine below_drewN ?_ _ | refine Below.alloc' ?_ _ | (refine Below.setCell ?_ (by first | omega | (simp; done) | (simp; omega) | exact Below.size (by assumption) | exact Nat.le_trans (Below.size (by assumption)) (by simp)) _) | (refine Below.via' ?_ (by assumption)) | (refine Below.alloc ?_ (by first | omega | (simp; done) | (simp; omega) | exact Below.size (by assumption) | exact Nat.le_trans (Below.size (by assumption)) (by simp)) _) | (refine Below.via ?_ (by assumption) (by first | omega | (simp; done) | (simp; omega) | exact Below.size (by assumption) | exact Nat.le_trans (Below.size (by assumption)) (by simp)))))
  obtain ⟨W0, hW0⟩ : ∃ W0, (w.alloc (.cells #[.slice y E.length c2] 28)).alloc (.cells #[.slice z F.length c3] 28) = W0 := ⟨_, rfl⟩
  have hW0z : Hid (W0.heap.size = w.heap.size + 2) := by unfold Hid; rw [← hW0]; simp
  rw [hW0] at hqE hqF hB2
  clear hb1 hb2
  obtain ⟨fa0, fb0, fc0⟩ := hqF.out
  obtain ⟨ea0, eb0, ec0⟩ := hqE.out
  go_enter Try.func107, Try.ntmps107
  go_wp2
  try rw [hW0]
  clear hW0 fa0 fb0 ea0 eb0
  go_loopw [10] (fun c wr => ∃ i : Nat, i ≤ F.length ∧ c = .int .i64 i ∧ Hid (∀ j, j < i → ∃ x y, E[j]? = some x ∧ F[j]? = some y ∧ sbB x y = true) ∧ Below W0.heap.size W0 wr) (fun c _ => F.length - (intOf c).toNat)
  case atStart => exact ⟨0, by omega, rfl, (fun j hj => absurd hj (by omega)), Below.refl _ _⟩
  case round =>
    obtain ⟨i, hi, rfl, hall, hb⟩ := hrel
    have hBr : Below w.heap.size w wr := hB2.trans (hb.mono hB2.size)
    by_cases hlt : i < F.length
    · obtain ⟨x, u, hEi, hFi, x0, x1, y0, y1⟩ := hfh.out i hlt
      obtain ⟨bl, off, x', rfl, hbl, hEi2, hc0⟩ := (hEh.out.below hBr).2.2.int (i := i) (by have := hlh.out; omega)
      obtain ⟨bl2, off2, u', rfl, hbl2, hFi2, hc1⟩ := (hFh.out.below hBr).2.2.int (i := i) hlt
      obtain rfl := Option.some.inj (hEi2.symm.trans hEi)
      obtain rfl := Option.some.inj (hFi2.symm.trans hFi)
      clear hEi2 hFi2
      obtain ⟨ka, kb, kc⟩ := hqE.out.below hb
      have hlt' : (i : Int) < (F.length : Int) := by omega
      have hlt2 : (i : Int) < (E.length : Int) := by have := hlh.out; omega
      have hi0 : (0 : Int) ≤ (i : Int) := by omega
      have hsub := and_sub (x := x') (y := u') (by omega) x1 (by omega) y1
      cases hh : sbB x' u'
      · have hv := Lib.hid (ct_bad hEi hFi hh)
        have hz : (bits .and .i64 u' x' == u') = false := by rw [beq_eq_false_iff_ne]; intro h; rw [hsub.1 h] at hh; cases hh
        replace hEi := Lib.hid hEi
        replace hFi := Lib.hid hFi
        clear hsub
        go_wp2
        go_ret
        exact ⟨ret_bool hv.out.symm, (by repeat (first | exact Below.refl _ _ | assumption | refine Below.drew ?_ | refine below_drewN ?_ _ | refine Below.alloc' ?_ _ | (refine Below.setCell ?_ (by first | omega | (simp; done) | (simp; omega) | exact Below.size (by assumption) | exact Nat.le_trans (Below.size (by assumption)) (by simp)) _) | (refine Below.via' ?_ (by assumption)) | (refine Below.alloc ?_ (by first | omega | (simp; done) | (simp; omega) | exact Below.size (by assumption) | exact Nat.le_trans (Below.size (by assumption)) (by simp)) _) | (refine Below.via ?_ (by assumption) (by first | omega | (simp; done) | (simp; omega) | exact Below.size (by assumption) | exact Nat.le_trans (Below.size (by assumption)) (by simp)))))⟩
      · have hz : (bits .and .i64 u' x' == u') = true := by rw [beq_iff_eq]; exact hsub.2 hh
        replace hEi := Lib.hid hEi
        replace hFi := Lib.hid hFi
        have hhh := Lib.hid hh
        clear hh hsub
        go_wp2
        go_roundw
        case rel =>
          refine ⟨i + 1, by omega, by go_num, fun j hj => ?_, (by repeat (first | exact Below.refl _ _ | assumption | refine Below.drew ?_ | refine below_drewN ?_ _ | refine Below.alloc' ?_ _ | (refine Below.setCell ?_ (by first | omega | (simp; done) | (simp; omega) | exact Below.size (by assumption) | exact Nat.le_trans (Below.size (by assumption)) (by simp)) _) | (refine Below.via' ?_ (by assumption)) | (refine Below.alloc ?_ (by first | omega | (simp; done) | (simp; omega) | exact Below.size (by assumption) | exact Nat.le_trans (Below.size (by assumption)) (by simp)) _) | (refine Below.via ?_ (by assumption) (by first | omega | (simp; done) | (simp; omega) | exact Below.size (by assumption) | exact Nat.le_trans (Below.size (by assumption)) (by simp)))))⟩
          rcases Nat.lt_or_ge j i with hj2 | hj2
          · exact hall.out j hj2
          · obtain rfl : j = i := by omega
            exact ⟨_, _, hEi.out, hFi.out, hhh.out⟩
        case measure => simp [intOf]; omega
    · have hij : i = F.length := by omega
      subst hij
      have hv := Lib.hid (ct_all (E := E) (n := F.length) (by have := hlh.out; omega) hall.out)
      clear hall
      go_wp2
      go_ret
      exact ⟨ret_bool hv.out.symm, (by repeat (first | exact Below.refl _ _ | assumption | refine Below.drew ?_ | refine below_drewN ?_ _ | refine Below.alloc' ?_ _ | (refine Below.setCell ?_ (by first | omega | (simp; done) | (simp; omega) | exact Below.size (by assumption) | exact Nat.le_trans (Below.size (by assumption)) (by simp)) _) | (refine Below.via' ?_ (by assumption)) | (refine Below.alloc ?_ (by first | omega | (simp; done) | (simp; omega) | exact Below.size (by assumption) | exact Nat.le_trans (Below.size (by assumption)) (by simp)) _) | (refine Below.via ?_ (by assumption) (by first | omega | (simp; done) | (simp; omega) | exact Below.size (by assumption) | exact Nat.le_trans (Below.size (by assumption)) (by simp)))))⟩

set_option maxHeartbeats 4000000 in
theorem containsEdit_any (y z : Option Addr) (c2 c3 : Nat) (E F : List Int) (w : World) (hl : E.length = F.length) (hf : ∀ i, i < F.length → ∃ x y, E[i]? = some x ∧ F[i]? = some y ∧ 1 ≤ x ∧ x ≤ 255 ∧ 1 ≤ y ∧ y ≤ 255) (hE : IIn w y E) (hF : IIn w z F) :
    Calls Try.prog 84 #[.agg #[.slice y E.length c2], .agg #[.slice z F.length c3]] w fun e w' => e = .returned (.bool (ctB E F)) ∧ Below w.heap.size w w' := by
  have hlh := Lib.hid hl
  have hfh := Lib.hid hf
  have hEh := Lib.hid hE
  have hFh := Lib.hid hF
  have hFl := hF.1
  clear hE hF hl hf
  have hb1 : Below w.heap.size w (w.alloc (.cells #[.slice y E.length c2] 28)) := (by repeat (first | exact Below.refl _ _ | assumption | refine Below.drew ?_ | refine below_drewN ?_ _ | refine Below.alloc' ?_ _ | (refine Below.setCell ?_ (by first | omega | (simp; done) | (simp; omega) | exact Below.size (by assumption) | exact Nat.le_trans (Below.size (by assumption)) (by simp)) _) | (refine Below.via' ?_ (by assumption)) | (refine Below.alloc ?_ (by first | omega | (simp; done) | (simp; omega) | exact Below.size (by assumption) | exact Nat.le_trans (Below.size (by assumption)) (by simp)) _) | (refine Below.via ?_ (by assumption) (by first | omega | (simp; done) | (simp; omega) | exact Below.size (by assumption) | exact Nat.le_trans (Below.size (by assumption)) (by simp)))))
  have hb2 : Below (w.alloc (.cells #[.slice y E.length c2] 28)).heap.size (w.alloc (.cells #[.slice y E.length c2] 28)) ((w.alloc (.cells #[.slice y E.length c2] 28)).alloc (.cells #[.slice z F.length c3] 28)) := (by repeat (first | exact Below.refl _ _ | assumption | refine Below.drew ?_ | refine below_drewN ?_ _ | refine Below.alloc' ?_ _ | (refine Below.setCell ?_ (by first | omega | (simp; done) | (simp; omega) | exact Below.size (by assumption) | exact Nat.le_trans (Below.size (by assumption)) (by simp)) _) | (refine Below.via' ?_ (by assumption)) | (refine Below.alloc ?_ (by first | omega | (simp; done) | (simp; omega) | exact Below.size (by assumption) | exact Nat.le_trans (Below.size (by assumption)) (by simp)) _) | (refine Below.via ?_ (by assumption) (by first | omega | (simp; done) | (simp; omega) | exact Below.size (by assumption) | exact Nat.le_trans (Below.size (by assumption)) (by simp)))))
  have hqE := Lib.hid ((QB.new w y E.length c2 28).below hb2)
  have hqF : Hid (QB ((w.alloc (.cells #[.slice y E.length c2] 28)).alloc (.cells #[.slice z F.length c3] 28)) (w.heap.size + 1) z F.length c3) := by
    have h0 := QB.new (w.alloc (.cells #[.slice y E.length c2] 28)) z F.length c3 28
    rwa [World.size_alloc] at h0
  have hB2 : Below w.heap.size w ((w.alloc (.cells #[.slice y E.length c2] 28)).alloc (.cells #[.slice z F.length c3] 28)) := (by repeat (first | exact Below.refl _ _ | assumption | refine Below.drew ?_ | refine below_drewN ?_ _ | refine Below.alloc' ?_ _ | (refine Below.setCell ?_ (by first | omega | (simp; done) | (simp; omega) | exact Below.size (by assumption) | exact Nat.le_trans (Below.size (by assumption)) (by simp)) _) | (refine Below.via' ?_ (by assumption)) | (refine Below.alloc ?_ (by first | omega | (simp; done) | (simp; omega) | exact Below.size (by assumption) | exact Nat.le_trans (Below.size (by assumption)) (by simp)) _) | (refine Below.via ?_ (by assumption) (by first | omega | (simp; done) | (simp; omega) | exact Below.size (by assumption) | exact Nat.le_trans (Below.size (by assumption)) (by simp)))))
  obtain ⟨W0, hW0⟩ : ∃ W0, (w.alloc (.cells #[.slice y E.length c2] 28)).alloc (.cells #[.slice z F.length c3] 28) = W0 := ⟨_, rfl⟩
  have hW0z : Hid (W0.heap.size = w.heap.size + 2) := by unfold Hid; rw [← hW0]; simp
  rw [hW0] at hqE hqF hB2
  clear hb1 hb2
  obtain ⟨fa0, fb0, fc0⟩ := hqF.out
  obtain ⟨ea0, eb0, ec0⟩ := hqE.out
  go_enter Try.func84, Try.ntmps84
  go_wp2
  try rw [hW0]
  clear hW0 fa0 fb0 ea0 eb0
  go_loopw [10] (fun c wr => ∃ i : Nat, i ≤ F.length ∧ c = .int .i64 i ∧ Hid (∀ j, j < i → ∃ x y, E[j]? = some x ∧ F[j]? = some y ∧ sbB x y = true) ∧ Below W0.heap.size W0 wr) (fun c _ => F.length - (intOf c).toNat)
  case atStart => exact ⟨0, by omega, rfl, (fun j hj => absurd hj (by omega)), Below.refl _ _⟩
  case round =>
    obtain ⟨i, hi, rfl, hall, hb⟩ := hrel
    have hBr : Below w.heap.size w wr := hB2.trans (hb.mono hB2.size)
    by_cases hlt : i < F.length
    · obtain ⟨x, u, hEi, hFi, x0, x1, y0, y1⟩ := hfh.out i hlt
      obtain ⟨bl, off, x', rfl, hbl, hEi2, hc0⟩ := (hEh.out.below hBr).2.2.int (i := i) (by have := hlh.out; omega)
      obtain ⟨bl2, off2, u', rfl, hbl2, hFi2, hc1⟩ := (hFh.out.below hBr).2.2.int (i := i) hlt
      obtain rfl := Option.some.inj (hEi2.symm.trans hEi)
      obtain rfl := Option.some.inj (hFi2.symm.trans hFi)
      clear hEi2 hFi2
      obtain ⟨ka, kb, kc⟩ := hqE.out.below hb
      have hlt' : (i : Int) < (F.length : Int) := by omega
      have hlt2 : (i : Int) < (E.length : Int) := by have := hlh.out; omega
      have hi0 : (0 : Int) ≤ (i : Int) := by omega
      have hsub := andNot_sub (x := x') (y := u') (by omega) x1 (by omega) y1
      cases hh : sbB x' u'
      · have hv := Lib.hid (ct_bad hEi hFi hh)
        have hz : (bits .andNot .i64 u' x' == 0) = false := by rw [beq_eq_false_iff_ne]; intro h; rw [hsub.1 h] at hh; cases hh
        replace hEi := Lib.hid hEi
        replace hFi := Lib.hid hFi
        clear hsub
        go_wp2
        go_ret
        exact ⟨ret_bool hv.out.symm, (by repeat (first | exact Below.refl _ _ | assumption | refine Below.drew ?_ | refine below_drewN ?_ _ | refine Below.alloc' ?_ _ | (refine Below.setCell ?_ (by first | omega | (simp; done) | (simp; omega) | exact Below.size (by assumption) | exact Nat.le_trans (Below.size (by assumption)) (by simp)) _) | (refine Below.via' ?_ (by assumption)) | (refine Below.alloc ?_ (by first | omega | (simp; done) | (simp; omega) | exact Below.size (by assumption) | exact Nat.le_trans (Below.size (by assumption)) (by simp)) _) | (refine Below.via ?_ (by assumption) (by first | omega | (simp; done) | (simp; omega) | exact Below.size (by assumption) | exact Nat.le_trans (Below.size (by assumption)) (by simp)))))⟩
      · have hz : (bits .andNot .i64 u' x' == 0) = true := by rw [beq_iff_eq]; exact hsub.2 hh
        replace hEi := Lib.hid hEi
        replace hFi := Lib.hid hFi
        have hhh := Lib.hid hh
        clear hh hsub
        go_wp2
        go_roundw
        case rel =>
          refine ⟨i + 1, by omega, by go_num, fun j hj => ?_, (by repeat (first | exact Below.refl _ _ | assumption | refine Below.drew ?_ | refine below_drewN ?_ _ | refine Below.alloc' ?_ _ | (refine Below.setCell ?_ (by first | omega | (simp; done) | (simp; omega) | exact Below.size (by assumption) | exact Nat.le_trans (Below.size (by assumption)) (by simp)) _) | (refine Below.via' ?_ (by assumption)) | (refine Below.alloc ?_ (by first | omega | (simp; done) | (simp; omega) | exact Below.size (by assumption) | exact Nat.le_trans (Below.size (by assumption)) (by simp)) _) | (refine Below.via ?_ (by assumption) (by first | omega | (simp; done) | (simp; omega) | exact Below.size (by assumption) | exact Nat.le_trans (Below.size (by assumption)) (by simp)))))⟩
          rcases Nat.lt_or_ge j i with hj2 | hj2
          · exact hall.out j hj2
          · obtain rfl : j = i := by omega
            exact ⟨_, _, hEi.out, hFi.out, hhh.out⟩
        case measure => simp [intOf]; omega
    · have hij : i = F.length := by omega
      subst hij
      have hv := Lib.hid (ct_all (E := E) (n := F.length) (by have := hlh.out; omega) hall.out)
      clear hall
      go_wp2
      go_ret
      exact ⟨ret_bool hv.out.symm, (by repeat (first | exact Below.refl _ _ | assumption | refine Below.drew ?_ | refine below_drewN ?_ _ | refine Below.alloc' ?_ _ | (refine Below.setCell ?_ (by first | omega | (simp; done) | (simp; omega) | exact Below.size (by assumption) | exact Nat.le_trans (Below.size (by assumption)) (by simp)) _) | (refine Below.via' ?_ (by assumption)) | (refine Below.alloc ?_ (by first | omega | (simp; done) | (simp; omega) | exact Below.size (by assumption) | exact Nat.le_trans (Below.size (by assumption)) (by simp)) _) | (refine Below.via ?_ (by assumption) (by first | omega | (simp; done) | (simp; omega) | exact Below.size (by assumption) | exact Nat.le_trans (Below.size (by assumption)) (by simp)))))⟩

set_option maxHeartbeats 1000000 in
theorem iCE_x (x y z : Option Addr) (c1 c2 c3 : Nat) (S : List (ByteArray × Int)) (E F : List Int) (w : World) (hS : SIn w x c1 S) (hE : IIn w y E) (hF : IIn w z F) :
    Calls Try.prog 54 #[.slice x S.length c1, .agg #[.slice y E.length c2], .agg #[.slice z F.length c3]] w fun e w' => e = .returned (.tuple #[.bool (ctR S E F), .bool (seeB S E F)]) ∧ Below w.heap.size w w' := by
  have hSh := Lib.hid hS
  have hEh := Lib.hid hE
  have hFh := Lib.hid hF
  have hm := hS.1
  clear hS hE hF
  have hb1 : Below w.heap.size w (w.alloc (.cells #[.slice y E.length c2] 28)) := (by repeat (first | exact Below.refl _ _ | assumption | refine Below.drew ?_ | refine below_drewN ?_ _ | refine Below.alloc' ?_ _ | (refine Below.setCell ?_ (by first | omega | (simp; done) | (simp; omega) | exact Below.size (by assumption) | exact Nat.le_trans (Below.size (by assumption)) (by simp)) _) | (refine Below.via' ?_ (by assumption)) | (refine Below.alloc ?_ (by first | omega | (simp; done) | (simp; omega) | exact Below.size (by assumption) | exact Nat.le_trans (Below.size (by assumption)) (by simp)) _) | (refine Below.via ?_ (by assumption) (by first | omega | (simp; done) | (simp; omega) | exact Below.size (by assumption) | exact Nat.le_trans (Below.size (by assumption)) (by simp)))))
  have hb2 : Below (w.alloc (.cells #[.slice y E.length c2] 28)).heap.size (w.alloc (.cells #[.slice y E.length c2] 28)) ((w.alloc (.cells #[.slice y E.length c2] 28)).alloc (.cells #[.slice z F.length c3] 28)) := (by repeat (first | exact Below.refl _ _ | assumption | refine Below.drew ?_ | refine below_drewN ?_ _ | refine Below.alloc' ?_ _ | (refine Below.setCell ?_ (by first | omega | (simp; done) | (simp; omega) | exact Below.size (by assumption) | exact Nat.le_trans (Below.size (by assumption)) (by simp)) _) | (refine Below.via' ?_ (by assumption)) | (refine Below.alloc ?_ (by first | omega | (simp; done) | (simp; omega) | exact Below.size (by assumption) | exact Nat.le_trans (Below.size (by assumption)) (by simp)) _) | (refine Below.via ?_ (by assumption) (by first | omega | (simp; done) | (simp; omega) | exact Below.size (by assumption) | exact Nat.le_trans (Below.size (by assumption)) (by simp)))))
  have hqE := Lib.hid ((QB.new w y E.length c2 28).below hb2)
  have hqF : Hid (QB ((w.alloc (.cells #[.slice y E.length c2] 28)).alloc (.cells #[.slice z F.length c3] 28)) (w.heap.size + 1) z F.length c3) := by
    have h0 := QB.new (w.alloc (.cells #[.slice y E.length c2] 28)) z F.length c3 28
    rwa [World.size_alloc] at h0
  have hB2 : Below w.heap.size w ((w.alloc (.cells #[.slice y E.length c2] 28)).alloc (.cells #[.slice z F.length c3] 28)) := (by repeat (first | exact Below.refl _ _ | assumption | refine Below.drew ?_ | refine below_drewN ?_ _ | refine Below.alloc' ?_ _ | (refine Below.setCell ?_ (by first | omega | (simp; done) | (simp; omega) | exact Below.size (by assumption) | exact Nat.le_trans (Below.size (by assumption)) (by simp)) _) | (refine Below.via' ?_ (by assumption)) | (refine Below.alloc ?_ (by first | omega | (simp; done) | (simp; omega) | exact Below.size (by assumption) | exact Nat.le_trans (Below.size (by assumption)) (by simp)) _) | (refine Below.via ?_ (by assumption) (by first | omega | (simp; done) | (simp; omega) | exact Below.size (by assumption) | exact Nat.le_trans (Below.size (by assumption)) (by simp)))))
  obtain ⟨W0, hW0⟩ : ∃ W0, (w.alloc (.cells #[.slice y E.length c2] 28)).alloc (.cells #[.slice z F.length c3] 28) = W0 := ⟨_, rfl⟩
  have hW0z : Hid (W0.heap.size = w.heap.size + 2) := by unfold Hid; rw [← hW0]; simp
  rw [hW0] at hqE hqF hB2
  clear hb1 hb2
  obtain ⟨fa0, fb0, fc0⟩ := hqF.out
  obtain ⟨ea0, eb0, ec0⟩ := hqE.out
  go_enter Try.func54, Try.ntmps54
  go_wp2_with fail
  refine (isSch_x _ _ _ _ (hSh.out.below hB2)).mono ?_
  rintro e w1 ⟨rfl, hb1⟩
  clear hW0
  have hqE1 := Lib.hid (hqE.out.below hb1)
  obtain ⟨ea1, eb1, ec1⟩ := hqE1.out
  have hqF1 := Lib.hid (hqF.out.below hb1)
  obtain ⟨fa1, fb1, fc1⟩ := hqF1.out
  have B1 : Below w.heap.size w w1 := hB2.trans (hb1.mono hB2.size)
  clear ea0 eb0 fa0 fb0
  cases hs : schB S
  · have hv := Lib.hid (see_no1 (F := F) (se_no1 (E := E) hs))
    go_wp2
    go_ret2
    exact ⟨ret_bbE hv.out.2.symm hv.out.1.symm, (by repeat (first | exact Below.refl _ _ | assumption | refine Below.drew ?_ | refine below_drewN ?_ _ | refine Below.alloc' ?_ _ | (refine Below.setCell ?_ (by first | omega | (simp; done) | (simp; omega) | exact Below.size (by assumption) | exact Nat.le_trans (Below.size (by assumption)) (by simp)) _) | (refine Below.via' ?_ (by assumption)) | (refine Below.alloc ?_ (by first | omega | (simp; done) | (simp; omega) | exact Below.size (by assumption) | exact Nat.le_trans (Below.size (by assumption)) (by simp)) _) | (refine Below.via ?_ (by assumption) (by first | omega | (simp; done) | (simp; omega) | exact Below.size (by assumption) | exact Nat.le_trans (Below.size (by assumption)) (by simp)))))⟩
  have hsh := Lib.hid hs
  clear hs
  go_wp2_with fail
  refine (isEditFor_any _ _ _ _ S E _ hsh.out hm (hSh.out.rd.below (by exact (by repeat (first | exact Below.refl _ _ | assumption | refine Below.drew ?_ | refine below_drewN ?_ _ | refine Below.alloc' ?_ _ | (refine Below.setCell ?_ (by first | omega | (simp; done) | (simp; omega) | exact Below.size (by assumption) | exact Nat.le_trans (Below.size (by assumption)) (by simp)) _) | (refine Below.via' ?_ (by assumption)) | (refine Below.alloc ?_ (by first | omega | (simp; done) | (simp; omega) | exact Below.size (by assumption) | exact Nat.le_trans (Below.size (by assumption)) (by simp)) _) | (refine Below.via ?_ (by assumption) (by first | omega | (simp; done) | (simp; omega) | exact Below.size (by assumption) | exact Nat.le_trans (Below.size (by assumption)) (by simp))))))) (hEh.out.below (by exact (by repeat (first | exact Below.refl _ _ | assumption | refine Below.drew ?_ | refine below_drewN ?_ _ | refine Below.alloc' ?_ _ | (refine Below.setCell ?_ (by first | omega | (simp; done) | (simp; omega) | exact Below.size (by assumption) | exact Nat.le_trans (Below.size (by assumption)) (by simp)) _) | (refine Below.via' ?_ (by assumption)) | (refine Below.alloc ?_ (by first | omega | (simp; done) | (simp; omega) | exact Below.size (by assumption) | exact Nat.le_trans (Below.size (by assumption)) (by simp)) _) | (refine Below.via ?_ (by assumption) (by first | omega | (simp; done) | (simp; omega) | exact Below.size (by assumption) | exact Nat.le_trans (Below.size (by assumption)) (by simp)))))))).mono ?_
  rintro e w2 ⟨rfl, hb2⟩
  have hqE2 := Lib.hid (hqE1.out.below hb2)
  obtain ⟨ea2, eb2, ec2⟩ := hqE2.out
  have hqF2 := Lib.hid (hqF1.out.below hb2)
  obtain ⟨fa2, fb2, fc2⟩ := hqF2.out
  clear ea1 eb1 fa1 fb1
  cases he : edB S E
  · have hv := Lib.hid (see_no1 (F := F) (se_no2 (S := S) he))
    go_wp2
    go_ret2
    exact ⟨ret_bbE hv.out.2.symm hv.out.1.symm, (by repeat (first | exact Below.refl _ _ | assumption | refine Below.drew ?_ | refine below_drewN ?_ _ | refine Below.alloc' ?_ _ | (refine Below.setCell ?_ (by first | omega | (simp; done) | (simp; omega) | exact Below.size (by assumption) | exact Nat.le_trans (Below.size (by assumption)) (by simp)) _) | (refine Below.via' ?_ (by assumption)) | (refine Below.alloc ?_ (by first | omega | (simp; done) | (simp; omega) | exact Below.size (by assumption) | exact Nat.le_trans (Below.size (by assumption)) (by simp)) _) | (refine Below.via ?_ (by assumption) (by first | omega | (simp; done) | (simp; omega) | exact Below.size (by assumption) | exact Nat.le_trans (Below.size (by assumption)) (by simp)))))⟩
  have heh := Lib.hid he
  clear he
  go_wp2_with fail
  refine (isEditFor_any _ _ _ _ S F _ hsh.out hm (hSh.out.rd.below (by exact (by repeat (first | exact Below.refl _ _ | assumption | refine Below.drew ?_ | refine below_drewN ?_ _ | refine Below.alloc' ?_ _ | (refine Below.setCell ?_ (by first | omega | (simp; done) | (simp; omega) | exact Below.size (by assumption) | exact Nat.le_trans (Below.size (by assumption)) (by simp)) _) | (refine Below.via' ?_ (by assumption)) | (refine Below.alloc ?_ (by first | omega | (simp; done) | (simp; omega) | exact Below.size (by assumption) | exact Nat.le_trans (Below.size (by assumption)) (by simp)) _) | (refine Below.via ?_ (by assumption) (by first | omega | (simp; done) | (simp; omega) | exact Below.size (by assumption) | exact Nat.le_trans (Below.size (by assumption)) (by simp))))))) (hFh.out.below (by exact (by repeat (first | exact Below.refl _ _ | assumption | refine Below.drew ?_ | refine below_drewN ?_ _ | refine Below.alloc' ?_ _ | (refine Below.setCell ?_ (by first | omega | (simp; done) | (simp; omega) | exact Below.size (by assumption) | exact Nat.le_trans (Below.size (by assumption)) (by simp)) _) | (refine Below.via' ?_ (by assumption)) | (refine Below.alloc ?_ (by first | omega | (simp; done) | (simp; omega) | exact Below.size (by assumption) | exact Nat.le_trans (Below.size (by assumption)) (by simp)) _) | (refine Below.via ?_ (by assumption) (by first | omega | (simp; done) | (simp; omega) | exact Below.size (by assumption) | exact Nat.le_trans (Below.size (by assumption)) (by simp)))))))).mono ?_
  rintro e w3 ⟨rfl, hb3⟩
  have hqE3 := Lib.hid (hqE2.out.below hb3)
  obtain ⟨ea3, eb3, ec3⟩ := hqE3.out
  have hqF3 := Lib.hid (hqF2.out.below hb3)
  obtain ⟨fa3, fb3, fc3⟩ := hqF3.out
  clear ea2 eb2 fa2 fb2
  cases hf : edB S F
  · have hv := Lib.hid (see_no2 (E := E) hf)
    go_wp2
    go_ret2
    exact ⟨ret_bbE hv.out.2.symm hv.out.1.symm, (by repeat (first | exact Below.refl _ _ | assumption | refine Below.drew ?_ | refine below_drewN ?_ _ | refine Below.alloc' ?_ _ | (refine Below.setCell ?_ (by first | omega | (simp; done) | (simp; omega) | exact Below.size (by assumption) | exact Nat.le_trans (Below.size (by assumption)) (by simp)) _) | (refine Below.via' ?_ (by assumption)) | (refine Below.alloc ?_ (by first | omega | (simp; done) | (simp; omega) | exact Below.size (by assumption) | exact Nat.le_trans (Below.size (by assumption)) (by simp)) _) | (refine Below.via ?_ (by assumption) (by first | omega | (simp; done) | (simp; omega) | exact Below.size (by assumption) | exact Nat.le_trans (Below.size (by assumption)) (by simp)))))⟩
  have hfh := Lib.hid hf
  clear hf
  have hv := Lib.hid (see_yes (se_yes hsh.out heh.out) hfh.out)
  have hl := Lib.hid (show E.length = F.length by rw [ed_len heh.out, ed_len hfh.out])
  have hat := Lib.hid (fun i (h : i < F.length) => see_at hsh.out heh.out hfh.out (i := i) (by rw [← ed_len hfh.out]; exact h))
  have B3 : Below w.heap.size w w3 := (by repeat (first | exact Below.refl _ _ | assumption | refine Below.drew ?_ | refine below_drewN ?_ _ | refine Below.alloc' ?_ _ | (refine Below.setCell ?_ (by first | omega | (simp; done) | (simp; omega) | exact Below.size (by assumption) | exact Nat.le_trans (Below.size (by assumption)) (by simp)) _) | (refine Below.via' ?_ (by assumption)) | (refine Below.alloc ?_ (by first | omega | (simp; done) | (simp; omega) | exact Below.size (by assumption) | exact Nat.le_trans (Below.size (by assumption)) (by simp)) _) | (refine Below.via ?_ (by assumption) (by first | omega | (simp; done) | (simp; omega) | exact Below.size (by assumption) | exact Nat.le_trans (Below.size (by assumption)) (by simp)))))
  go_wp2_with fail
  refine (containsEdit_any _ _ _ _ E F _ hl.out hat.out (hEh.out.below B3) (hFh.out.below B3)).mono ?_
  rintro e w4 ⟨rfl, hb4⟩
  go_wp2
  go_ret2
  exact ⟨ret_bbE hv.out.2.symm hv.out.1.symm, (by repeat (first | exact Below.refl _ _ | assumption | refine Below.drew ?_ | refine below_drewN ?_ _ | refine Below.alloc' ?_ _ | (refine Below.setCell ?_ (by first | omega | (simp; done) | (simp; omega) | exact Below.size (by assumption) | exact Nat.le_trans (Below.size (by assumption)) (by simp)) _) | (refine Below.via' ?_ (by assumption)) | (refine Below.alloc ?_ (by first | omega | (simp; done) | (simp; omega) | exact Below.size (by assumption) | exact Nat.le_trans (Below.size (by assumption)) (by simp)) _) | (refine Below.via ?_ (by assumption) (by first | omega | (simp; done) | (simp; omega) | exact Below.size (by assumption) | exact Nat.le_trans (Below.size (by assumption)) (by simp)))))⟩

set_option maxHeartbeats 1000000 in
theorem sCE_x (x y z : Option Addr) (c1 c2 c3 : Nat) (S : List (ByteArray × Int)) (E F : List Int) (w : World) (hS : SIn w x c1 S) (hE : IIn w y E) (hF : IIn w z F) :
    Calls Try.prog 53 #[.slice x S.length c1, .agg #[.slice y E.length c2], .agg #[.slice z F.length c3]] w fun e w' => e = .returned (.tuple #[.bool (ctR S E F), .bool (seeB S E F)]) ∧ Below w.heap.size w w' := by
  have hSh := Lib.hid hS
  have hEh := Lib.hid hE
  have hFh := Lib.hid hF
  have hm := hS.1
  clear hS hE hF
  have hb1 : Below w.heap.size w (w.alloc (.cells #[.slice y E.length c2] 28)) := (by repeat (first | exact Below.refl _ _ | assumption | refine Below.drew ?_ | refine below_drewN ?_ _ | refine Below.alloc' ?_ _ | (refine Below.setCell ?_ (by first | omega | (simp; done) | (simp; omega) | exact Below.size (by assumption) | exact Nat.le_trans (Below.size (by assumption)) (by simp)) _) | (refine Below.via' ?_ (by assumption)) | (refine Below.alloc ?_ (by first | omega | (simp; done) | (simp; omega) | exact Below.size (by assumption) | exact Nat.le_trans (Below.size (by assumption)) (by simp)) _) | (refine Below.via ?_ (by assumption) (by first | omega | (simp; done) | (simp; omega) | exact Below.size (by assumption) | exact Nat.le_trans (Below.size (by assumption)) (by simp)))))
  have hb2 : Below (w.alloc (.cells #[.slice y E.length c2] 28)).heap.size (w.alloc (.cells #[.slice y E.length c2] 28)) ((w.alloc (.cells #[.slice y E.length c2] 28)).alloc (.cells #[.slice z F.length c3] 28)) := (by repeat (first | exact Below.refl _ _ | assumption | refine Below.drew ?_ | refine below_drewN ?_ _ | refine Below.alloc' ?_ _ | (refine Below.setCell ?_ (by first | omega | (simp; done) | (simp; omega) | exact Below.size (by assumption) | exact Nat.le_trans (Below.size (by assumption)) (by simp)) _) | (refine Below.via' ?_ (by assumption)) | (refine Below.alloc ?_ (by first | omega | (simp; done) | (simp; omega) | exact Below.size (by assumption) | exact Nat.le_trans (Below.size (by assumption)) (by simp)) _) | (refine Below.via ?_ (by assumption) (by first | omega | (simp; done) | (simp; omega) | exact Below.size (by assumption) | exact Nat.le_trans (Below.size (by assumption)) (by simp)))))
  have hqE := Lib.hid ((QB.new w y E.length c2 28).below hb2)
  have hqF : Hid (QB ((w.alloc (.cells #[.slice y E.length c2] 28)).alloc (.cells #[.slice z F.length c3] 28)) (w.heap.size + 1) z F.length c3) := by
    have h0 := QB.new (w.alloc (.cells #[.slice y E.length c2] 28)) z F.length c3 28
    rwa [World.size_alloc] at h0
  have hB2 : Below w.heap.size w ((w.alloc (.cells #[.slice y E.length c2] 28)).alloc (.cells #[.slice z F.length c3] 28)) := (by repeat (first | exact Below.refl _ _ | assumption | refine Below.drew ?_ | refine below_drewN ?_ _ | refine Below.alloc' ?_ _ | (refine Below.setCell ?_ (by first | omega | (simp; done) | (simp; omega) | exact Below.size (by assumption) | exact Nat.le_trans (Below.size (by assumption)) (by simp)) _) | (refine Below.via' ?_ (by assumption)) | (refine Below.alloc ?_ (by first | omega | (simp; done) | (simp; omega) | exact Below.size (by assumption) | exact Nat.le_trans (Below.size (by assumption)) (by simp)) _) | (refine Below.via ?_ (by assumption) (by first | omega | (simp; done) | (simp; omega) | exact Below.size (by assumption) | exact Nat.le_trans (Below.size (by assumption)) (by simp)))))
  obtain ⟨W0, hW0⟩ : ∃ W0, (w.alloc (.cells #[.slice y E.length c2] 28)).alloc (.cells #[.slice z F.length c3] 28) = W0 := ⟨_, rfl⟩
  have hW0z : Hid (W0.heap.size = w.heap.size + 2) := by unfold Hid; rw [← hW0]; simp
  rw [hW0] at hqE hqF hB2
  clear hb1 hb2
  obtain ⟨fa0, fb0, fc0⟩ := hqF.out
  obtain ⟨ea0, eb0, ec0⟩ := hqE.out
  have hL : Hid (EIn (W0.alloc (.cells #[.slice y E.length c2, .slice z F.length c3] 28)) (some ⟨W0.heap.size, 0, none⟩) [⟨0, 0, y, c2, E⟩, ⟨0, 0, z, c3, F⟩]) := eIn_two (c := c2) (d := c3) 28 (hEh.out.below hB2) (hFh.out.below hB2)
  have hel := Lib.hid ((el_two S E F).trans (show (seB S E && edB S F) = seeB S E F from rfl))
  have hbL : Below W0.heap.size W0 (W0.alloc (.cells #[.slice y E.length c2, .slice z F.length c3] 28)) := (by repeat (first | exact Below.refl _ _ | assumption | refine Below.drew ?_ | refine below_drewN ?_ _ | refine Below.alloc' ?_ _ | (refine Below.setCell ?_ (by first | omega | (simp; done) | (simp; omega) | exact Below.size (by assumption) | exact Nat.le_trans (Below.size (by assumption)) (by simp)) _) | (refine Below.via' ?_ (by assumption)) | (refine Below.alloc ?_ (by first | omega | (simp; done) | (simp; omega) | exact Below.size (by assumption) | exact Nat.le_trans (Below.size (by assumption)) (by simp)) _) | (refine Below.via ?_ (by assumption) (by first | omega | (simp; done) | (simp; omega) | exact Below.size (by assumption) | exact Nat.le_trans (Below.size (by assumption)) (by simp)))))
  have hSW := Lib.hid (hSh.out.below (hB2.trans (hbL.mono hB2.size)))
  go_enter Try.func53, Try.ntmps53
  go_wp2_with fail
  refine (eList_any _ _ _ _ S [⟨0, 0, y, c2, E⟩, ⟨0, 0, z, c3, F⟩] _ hSW.out hL.out).mono ?_
  rintro e w1 ⟨rfl, hb1⟩
  have hqE1 := Lib.hid ((hqE.out.below hbL).below hb1)
  obtain ⟨ea1, eb1, ec1⟩ := hqE1.out
  have hqF1 := Lib.hid ((hqF.out.below hbL).below hb1)
  obtain ⟨fa1, fb1, fc1⟩ := hqF1.out
  have B1 : Below w.heap.size w w1 := (hB2.trans (hbL.mono hB2.size)).trans (hb1.mono (by have := hB2.size; simp; omega))
  clear hW0 ea0 eb0 fa0 fb0
  rw [show eM [⟨0, 0, y, c2, E⟩, ⟨0, 0, z, c3, F⟩] = [E, F] from rfl, hel.out]
  cases hs : seeB S E F
  · have hss := Lib.hid hs
    have hv : ctR S E F = false := by unfold ctR; rw [hs]; rfl
    replace hv := Lib.hid hv
    go_wp2
    go_ret2
    exact ⟨ret_bbE hv.out.symm hss.out.symm, (by repeat (first | exact Below.refl _ _ | assumption | refine Below.drew ?_ | refine below_drewN ?_ _ | refine Below.alloc' ?_ _ | (refine Below.setCell ?_ (by first | omega | (simp; done) | (simp; omega) | exact Below.size (by assumption) | exact Nat.le_trans (Below.size (by assumption)) (by simp)) _) | (refine Below.via' ?_ (by assumption)) | (refine Below.alloc ?_ (by first | omega | (simp; done) | (simp; omega) | exact Below.size (by assumption) | exact Nat.le_trans (Below.size (by assumption)) (by simp)) _) | (refine Below.via ?_ (by assumption) (by first | omega | (simp; done) | (simp; omega) | exact Below.size (by assumption) | exact Nat.le_trans (Below.size (by assumption)) (by simp)))))⟩
  obtain ⟨g1, g2, g3⟩ := see_get hs
  have hv : ctR S E F = ctB E F := by unfold ctR; rw [hs]; rfl
  replace hv := Lib.hid hv
  have hl := Lib.hid (show E.length = F.length by rw [ed_len g2, ed_len g3])
  have hat := Lib.hid (fun i (h : i < F.length) => see_at g1 g2 g3 (i := i) (by rw [← ed_len g3]; exact h))
  have hss := Lib.hid hs
  clear hs g1 g2 g3
  go_wp2_with fail
  refine (eContains_any _ _ _ _ E F _ hl.out hat.out (hEh.out.below B1) (hFh.out.below B1)).mono ?_
  rintro e w2 ⟨rfl, hb2⟩
  go_wp2
  go_ret2
  exact ⟨ret_bbE hv.out.symm hss.out.symm, (by repeat (first | exact Below.refl _ _ | assumption | refine Below.drew ?_ | refine below_drewN ?_ _ | refine Below.alloc' ?_ _ | (refine Below.setCell ?_ (by first | omega | (simp; done) | (simp; omega) | exact Below.size (by assumption) | exact Nat.le_trans (Below.size (by assumption)) (by simp)) _) | (refine Below.via' ?_ (by assumption)) | (refine Below.alloc ?_ (by first | omega | (simp; done) | (simp; omega) | exact Below.size (by assumption) | exact Nat.le_trans (Below.size (by assumption)) (by simp)) _) | (refine Below.via ?_ (by assumption) (by first | omega | (simp; done) | (simp; omega) | exact Below.size (by assumption) | exact Nat.le_trans (Below.size (by assumption)) (by simp)))))⟩
end Go.Proofs.Ytfaobfgckfjnjaa
