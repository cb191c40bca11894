/-
  The walks of chapter 5: do values fail an edit; FailsEdit; the program's and the model's.
-/
import Derived.Test.YtgkaalonmkcclabEdG
namespace Go.Proofs.Ytgkaalonmkcclab
open Go.RowKit
set_option maxRecDepth 100000

/-- Small numbers, one for each value. -/
def Fine (E V : List Int) : Prop := V.length = E.length ∧ ∀ j, j < V.length → ∃ x v : Int, E[j]? = some x ∧ V[j]? = some v ∧ 0 ≤ x ∧ x ≤ 255 ∧ 0 ≤ v ∧ v ≤ 8
theorem fine_of {S : List (ByteArray × Int)} {E V : List Int} (hs : schB S = true) (hE : edB S E = true) (hV : fitB S V = true) : Fine E V := by
  have l1 := ed_len hE
  have l2 := fit_len hV
  refine ⟨by omega, fun j hj => ?_⟩
  obtain ⟨nm, lv, x, a, b, c, d, e, f, g⟩ := ed_at hs hE (i := j) (by omega)
  have hv : V[j]? = some (V[j]'hj) := List.getElem?_eq_getElem hj
  have := fit_get hV a hv
  exact ⟨x, _, b, hv, by omega, g, by omega, by omega⟩
set_option maxHeartbeats 2000000 in
theorem failsEdit_any (y z : Option Addr) (c1 c2 : Nat) (E V : List Int) (w : World) (hf : Fine E V) (hE : IIn w y E) (hV : IIn w z V) :
    Calls Try.prog 123 #[.agg #[.slice y E.length c1], .slice z V.length c2] w fun e w' => e = .returned (.bool (fsB E V)) ∧ Below w.heap.size w w' := by
  have hq := Lib.hid (QB.new w y E.length c1 90)
  have hEh := Lib.hid (hE.2.2.alloc (.cells #[.slice y E.length c1] 90))
  have hVh := Lib.hid (hV.2.2.alloc (.cells #[.slice y E.length c1] 90))
  have hVl := hV.1
  have hfl := Lib.hid hf.1
  have hfh := Lib.hid hf.2
  clear hE hV hf
  go_enter Try.func123, Try.ntmps123
  go_wp2
  go_loopw [9] (fun c wr => ∃ i : Nat, i ≤ V.length ∧ c = .int .i64 i ∧ Hid (∀ j, j < i → ∃ x v, E[j]? = some x ∧ V[j]? = some v ∧ hsB x v = true) ∧ Below (w.alloc (.cells #[.slice y E.length c1] 90)).heap.size (w.alloc (.cells #[.slice y E.length c1] 90)) wr) (fun c _ => V.length - (intOf c).toNat)
  case atStart => exact ⟨0, by omega, rfl, (fun j hj => absurd hj (by omega)), Below.refl _ _⟩
  case round =>
    obtain ⟨i, hi, rfl, hall, hb⟩ := hrel
    by_cases hlt : i < V.length
    · obtain ⟨x, v, hEi, hVi, x0, x1, v0, v1⟩ := hfh.out i hlt
      obtain ⟨bl, off, x', rfl, hbl, hEi2, hc0⟩ := (hEh.out.below hb).int (i := i) (by have := hfl.out; omega)
      obtain ⟨bl2, off2, v', rfl, hbl2, hVi2, hc1⟩ := (hVh.out.below hb).int (i := i) hlt
      obtain rfl := Option.some.inj (hEi2.symm.trans hEi)
      obtain rfl := Option.some.inj (hVi2.symm.trans hVi)
      clear hEi2 hVi2
      obtain ⟨ka, kb, kc⟩ := hq.out.below hb
      have hlt' : (i : Int) < (V.length : Int) := by omega
      have hlt2 : (i : Int) < (E.length : Int) := by have := hfl.out; omega
      have hi0 : (0 : Int) ≤ (i : Int) := by omega
      cases hh : hsB x' v'
      · have hv := Lib.hid (fs_bad hEi hVi hh)
        replace hEi := Lib.hid hEi
        replace hVi := Lib.hid hVi
        go_wp2_with fail
        refine (hasLevel_any _ _ _ x0 x1 v0 v1).mono ?_
        rintro e w2 ⟨rfl, rfl⟩
        rw [hh]
        go_wp2
        go_ret
        exact ⟨ret_bool hv.out.symm, (by repeat (first | exact Below.refl _ _ | assumption | refine Below.drew ?_ | refine below_drewN ?_ _ | refine Below.alloc' ?_ _ | (refine Below.setCell ?_ (by first | omega | (simp; done) | (simp; omega) | exact Below.size (by assumption) | exact Nat.le_trans (Below.size (by assumption)) (by simp)) _) | (refine Below.via' ?_ (by assumption)) | (refine Below.alloc ?_ (by first | omega | (simp; done) | (simp; omega) | exact Below.size (by assumption) | exact Nat.le_trans (Below.size (by assumption)) (by simp)) _) | (refine Below.via ?_ (by assumption) (by first | omega | (simp; done) | (simp; omega) | exact Below.size (by assumption) | exact Nat.le_trans (Below.size (by assumption)) (by simp)))))⟩
      · replace hEi := Lib.hid hEi
        replace hVi := Lib.hid hVi
        have hhh := Lib.hid hh
        clear hh
        go_wp2_with fail
        refine (hasLevel_any _ _ _ x0 x1 v0 v1).mono ?_
        rintro e w2 ⟨rfl, rfl⟩
        rw [hhh.out]
        go_wp2
        go_roundw
        case rel =>
          refine ⟨i + 1, by omega, by go_num, fun j hj => ?_, (by repeat (first | exact Below.refl _ _ | assumption | refine Below.drew ?_ | refine below_drewN ?_ _ | refine Below.alloc' ?_ _ | (refine Below.setCell ?_ (by first | omega | (simp; done) | (simp; omega) | exact Below.size (by assumption) | exact Nat.le_trans (Below.size (by assumption)) (by simp)) _) | (refine Below.via' ?_ (by assumption)) | (refine Below.alloc ?_ (by first | omega | (simp; done) | (simp; omega) | exact Below.size (by assumption) | exact Nat.le_trans (Below.size (by assumption)) (by simp)) _) | (refine Below.via ?_ (by assumption) (by first | omega | (simp; done) | (simp; omega) | exact Below.size (by assumption) | exact Nat.le_trans (Below.size (by assumption)) (by simp)))))⟩
          rcases Nat.lt_or_ge j i with hj2 | hj2
          · exact hall.out j hj2
          · obtain rfl : j = i := by omega
            exact ⟨_, _, hEi.out, hVi.out, hhh.out⟩
        case measure => simp [intOf]; omega
    · have hij : i = V.length := by omega
      subst hij
      have hv := Lib.hid (fs_all hall.out)
      clear hall
      go_wp2
      go_ret
      exact ⟨ret_bool hv.out.symm, (by repeat (first | exact Below.refl _ _ | assumption | refine Below.drew ?_ | refine below_drewN ?_ _ | refine Below.alloc' ?_ _ | (refine Below.setCell ?_ (by first | omega | (simp; done) | (simp; omega) | exact Below.size (by assumption) | exact Nat.le_trans (Below.size (by assumption)) (by simp)) _) | (refine Below.via' ?_ (by assumption)) | (refine Below.alloc ?_ (by first | omega | (simp; done) | (simp; omega) | exact Below.size (by assumption) | exact Nat.le_trans (Below.size (by assumption)) (by simp)) _) | (refine Below.via ?_ (by assumption) (by first | omega | (simp; done) | (simp; omega) | exact Below.size (by assumption) | exact Nat.le_trans (Below.size (by assumption)) (by simp)))))⟩
set_option maxHeartbeats 2000000 in
theorem eFails_any (y z : Option Addr) (c1 c2 : Nat) (E V : List Int) (w : World) (hf : Fine E V) (hE : IIn w y E) (hV : IIn w z V) :
    Calls Try.prog 50 #[.agg #[.slice y E.length c1], .slice z V.length c2] w fun e w' => e = .returned (.bool (fsB E V)) ∧ Below w.heap.size w w' := by
  have hq := Lib.hid (QB.new w y E.length c1 90)
  have hEh := Lib.hid (hE.2.2.alloc (.cells #[.slice y E.length c1] 90))
  have hVh := Lib.hid (hV.2.2.alloc (.cells #[.slice y E.length c1] 90))
  have hVl := hV.1
  have hfl := Lib.hid hf.1
  have hfh := Lib.hid hf.2
  clear hE hV hf
  go_enter Try.func50, Try.ntmps50
  go_wp2
  go_loopw [9] (fun c wr => ∃ i : Nat, i ≤ V.length ∧ c = .int .i64 i ∧ Hid (∀ j, j < i → ∃ x v, E[j]? = some x ∧ V[j]? = some v ∧ hsB x v = true) ∧ Below (w.alloc (.cells #[.slice y E.length c1] 90)).heap.size (w.alloc (.cells #[.slice y E.length c1] 90)) wr) (fun c _ => V.length - (intOf c).toNat)
  case atStart => exact ⟨0, by omega, rfl, (fun j hj => absurd hj (by omega)), Below.refl _ _⟩
  case round =>
    obtain ⟨i, hi, rfl, hall, hb⟩ := hrel
    by_cases hlt : i < V.length
    · obtain ⟨x, v, hEi, hVi, x0, x1, v0, v1⟩ := hfh.out i hlt
      obtain ⟨bl, off, x', rfl, hbl, hEi2, hc0⟩ := (hEh.out.below hb).int (i := i) (by have := hfl.out; omega)
      obtain ⟨bl2, off2, v', rfl, hbl2, hVi2, hc1⟩ := (hVh.out.below hb).int (i := i) hlt
      obtain rfl := Option.some.inj (hEi2.symm.trans hEi)
      obtain rfl := Option.some.inj (hVi2.symm.trans hVi)
      clear hEi2 hVi2
      obtain ⟨ka, kb, kc⟩ := hq.out.below hb
      obtain ⟨k, rfl⟩ := Int.eq_ofNat_of_zero_le v0
      have hlt' : (i : Int) < (V.length : Int) := by omega
      have hlt2 : (i : Int) < (E.length : Int) := by have := hfl.out; omega
      have hi0 : (0 : Int) ≤ (i : Int) := by omega
      have hsv := shr_one x0 (by omega) k
      have hwu : IntKind.u64.wrap (k : Int) = k := by rw [show IntKind.u64.wrap (k : Int) = (k : Int) % 18446744073709551616 by simp [IntKind.wrap, IntKind.bits, IntKind.signed]]; omega
      have hk8 : k ≤ 8 := by omega
      cases hh : hsB x' (k : Int)
      · have hv := Lib.hid (fs_bad hEi hVi hh)
        replace hEi := Lib.hid hEi
        replace hVi := Lib.hid hVi
        rw [hh] at hsv
        have hz : (bits .and .i64 (x' / 2 ^ k) 1 == 0) = true := by rw [hsv]; rfl
        replace hsv := Lib.hid hsv
        go_wp2
        go_ret
        exact ⟨ret_bool hv.out.symm, (by repeat (first | exact Below.refl _ _ | assumption | refine Below.drew ?_ | refine below_drewN ?_ _ | refine Below.alloc' ?_ _ | (refine Below.setCell ?_ (by first | omega | (simp; done) | (simp; omega) | exact Below.size (by assumption) | exact Nat.le_trans (Below.size (by assumption)) (by simp)) _) | (refine Below.via' ?_ (by assumption)) | (refine Below.alloc ?_ (by first | omega | (simp; done) | (simp; omega) | exact Below.size (by assumption) | exact Nat.le_trans (Below.size (by assumption)) (by simp)) _) | (refine Below.via ?_ (by assumption) (by first | omega | (simp; done) | (simp; omega) | exact Below.size (by assumption) | exact Nat.le_trans (Below.size (by assumption)) (by simp)))))⟩
      · replace hEi := Lib.hid hEi
        replace hVi := Lib.hid hVi
        rw [hh] at hsv
        have hz : (bits .and .i64 (x' / 2 ^ k) 1 == 0) = false := by rw [hsv]; rfl
        replace hsv := Lib.hid hsv
        have hhh := Lib.hid hh
        clear hh
        go_wp2
        go_roundw
        case rel =>
          refine ⟨i + 1, by omega, by go_num, fun j hj => ?_, (by repeat (first | exact Below.refl _ _ | assumption | refine Below.drew ?_ | refine below_drewN ?_ _ | refine Below.alloc' ?_ _ | (refine Below.setCell ?_ (by first | omega | (simp; done) | (simp; omega) | exact Below.size (by assumption) | exact Nat.le_trans (Below.size (by assumption)) (by simp)) _) | (refine Below.via' ?_ (by assumption)) | (refine Below.alloc ?_ (by first | omega | (simp; done) | (simp; omega) | exact Below.size (by assumption) | exact Nat.le_trans (Below.size (by assumption)) (by simp)) _) | (refine Below.via ?_ (by assumption) (by first | omega | (simp; done) | (simp; omega) | exact Below.size (by assumption) | exact Nat.le_trans (Below.size (by assumption)) (by simp)))))⟩
          rcases Nat.lt_or_ge j i with hj2 | hj2
          · exact hall.out j hj2
          · obtain rfl : j = i := by omega
            exact ⟨_, _, hEi.out, hVi.out, hhh.out⟩
        case measure => simp [intOf]; omega
    · have hij : i = V.length := by omega
      subst hij
      have hv := Lib.hid (fs_all hall.out)
      clear hall
      go_wp2
      go_ret
      exact ⟨ret_bool hv.out.symm, (by repeat (first | exact Below.refl _ _ | assumption | refine Below.drew ?_ | refine below_drewN ?_ _ | refine Below.alloc' ?_ _ | (refine Below.setCell ?_ (by first | omega | (simp; done) | (simp; omega) | exact Below.size (by assumption) | exact Nat.le_trans (Below.size (by assumption)) (by simp)) _) | (refine Below.via' ?_ (by assumption)) | (refine Below.alloc ?_ (by first | omega | (simp; done) | (simp; omega) | exact Below.size (by assumption) | exact Nat.le_trans (Below.size (by assumption)) (by simp)) _) | (refine Below.via ?_ (by assumption) (by first | omega | (simp; done) | (simp; omega) | exact Below.size (by assumption) | exact Nat.le_trans (Below.size (by assumption)) (by simp)))))⟩

/-- A schema, an edit and values for it. -/
def sfB (S : List (ByteArray × Int)) (E V : List Int) : Bool := seB S E && fitB S V
def sfR (S : List (ByteArray × Int)) (E V : List Int) : Bool := sfB S E V && fsB E V
theorem sf_no1 {S : List (ByteArray × Int)} {E V : List Int} (h : seB S E = false) : sfB S E V = false ∧ sfR S E V = false := by unfold sfR sfB; rw [h]; exact ⟨rfl, rfl⟩
theorem sf_no2 {S : List (ByteArray × Int)} {E V : List Int} (h : fitB S V = false) : sfB S E V = false ∧ sfR S E V = false := by unfold sfR sfB; rw [h, Bool.and_false]; exact ⟨rfl, rfl⟩
theorem sf_yes {S : List (ByteArray × Int)} {E V : List Int} (h : seB S E = true) (k : fitB S V = true) : sfB S E V = true ∧ sfR S E V = fsB E V := by unfold sfR sfB; rw [h, k]; exact ⟨rfl, rfl⟩
theorem se_get {S : List (ByteArray × Int)} {E : List Int} (h : seB S E = true) : schB S = true ∧ edB S E = true := by unfold seB at h; rwa [Bool.and_eq_true] at h
end Go.Proofs.Ytgkaalonmkcclab
