/-
  The walks of chapter 2: values of a schema, their index and their distance; the program's and the model's.
-/
import Derived.Test.YtgkaalonmkcclabSchN
namespace Go.Proofs.Ytgkaalonmkcclab
open Go.RowKit
set_option maxRecDepth 100000

/-- What is asked of a list of integers that comes in. -/
def IIn (w : World) (x : Option Addr) (L : List Int) : Prop := L.length ≤ 1048576 ∧ (∀ n ∈ L, IsI64 n) ∧ Rd w x (iC L)
theorem IIn.below {w w' : World} {x : Option Addr} {L : List Int} (h : IIn w x L) (hb : Below w.heap.size w w') : IIn w' x L := ⟨h.1, h.2.1, h.2.2.below hb⟩

set_option maxHeartbeats 2000000 in
theorem areValues_any (x y : Option Addr) (c1 c2 : Nat) (S : List (ByteArray × Int)) (V : List Int) (w : World) (hs : schB S = true) (hm : S.length ≤ 1048576) (hS : Rd w x (vC S)) (hV : IIn w y V) :
    Calls Try.prog 57 #[.slice x S.length c1, .slice y V.length c2] w fun e w' => e = .returned (.bool (fitB S V)) ∧ Below w.heap.size w w' := by
  have hVl := hV.1
  have hVh := Lib.hid hV.2.2
  have hVI := Lib.hid hV.2.1
  clear hV
  have hsh := Lib.hid hs
  clear hs
  by_cases hl : V.length = S.length
  · have he1 : ((V.length : Int) == (S.length : Int)) = true := by rw [beq_iff_eq]; omega
    have he2 : ((V.length : Int) != (S.length : Int)) = false := by show (!((V.length : Int) == (S.length : Int))) = false; rw [he1]; rfl
    replace hl := Lib.hid hl
    go_enter Try.func57, Try.ntmps57
    go_wp2
    clear he1 he2
    go_loopw [14] (fun c wr => ∃ i : Nat, i ≤ S.length ∧ c = .int .i64 i ∧ Hid (∀ j, j < i → ∃ nm lv v, S[j]? = some (nm, lv) ∧ V[j]? = some v ∧ 0 ≤ v ∧ v < lv) ∧ Below w.heap.size w wr) (fun c _ => S.length - (intOf c).toNat)
    case atStart => exact ⟨0, by omega, rfl, (fun j hj => absurd hj (by omega)), Below.refl _ _⟩
    case round =>
      obtain ⟨i, hi, rfl, hall, hb⟩ := hrel
      by_cases hlt : i < S.length
      · obtain ⟨bl, off, nm, lv, rfl, hbl, hSi, hc0, hc1⟩ := (hS.below hb).var hlt
        obtain ⟨bl2, off2, v, rfl, hbl2, hVi, hc2⟩ := (hVh.out.below hb).int (i := i) (by have := hl.out; omega)
        obtain ⟨l1, l2⟩ := schB_lv hsh.out hSi
        clear hS
        have hlt' : (i : Int) < (S.length : Int) := by omega
        have hlt2 : (i : Int) < (V.length : Int) := by have := hl.out; omega
        have hi0 : (0 : Int) ≤ (i : Int) := by omega
        by_cases h1 : v < 0
        · have hv := Lib.hid (fit_bad hSi hVi (by omega))
          clear hSi hVi
          go_wp2
          go_quiet (fail)
          go_wp2
          go_ret
          exact ⟨ret_bool hv.out.symm, (by repeat (first | exact Below.refl _ _ | assumption | refine Below.drew ?_ | refine below_drewN ?_ _ | refine Below.alloc' ?_ _ | (refine Below.setCell ?_ (by first | omega | (simp; done) | (simp; omega) | exact Below.size (by assumption) | exact Nat.le_trans (Below.size (by assumption)) (by simp)) _) | (refine Below.via' ?_ (by assumption)) | (refine Below.alloc ?_ (by first | omega | (simp; done) | (simp; omega) | exact Below.size (by assumption) | exact Nat.le_trans (Below.size (by assumption)) (by simp)) _) | (refine Below.via ?_ (by assumption) (by first | omega | (simp; done) | (simp; omega) | exact Below.size (by assumption) | exact Nat.le_trans (Below.size (by assumption)) (by simp)))))⟩
        by_cases h2 : lv ≤ v
        · have hv := Lib.hid (fit_bad hSi hVi (by omega))
          clear hSi hVi
          go_wp2
          go_quiet (fail)
          go_wp2
          go_ret
          exact ⟨ret_bool hv.out.symm, (by repeat (first | exact Below.refl _ _ | assumption | refine Below.drew ?_ | refine below_drewN ?_ _ | refine Below.alloc' ?_ _ | (refine Below.setCell ?_ (by first | omega | (simp; done) | (simp; omega) | exact Below.size (by assumption) | exact Nat.le_trans (Below.size (by assumption)) (by simp)) _) | (refine Below.via' ?_ (by assumption)) | (refine Below.alloc ?_ (by first | omega | (simp; done) | (simp; omega) | exact Below.size (by assumption) | exact Nat.le_trans (Below.size (by assumption)) (by simp)) _) | (refine Below.via ?_ (by assumption) (by first | omega | (simp; done) | (simp; omega) | exact Below.size (by assumption) | exact Nat.le_trans (Below.size (by assumption)) (by simp)))))⟩
        have hSi := Lib.hid hSi
        have hVi := Lib.hid hVi
        go_wp2
        go_quiet (fail)
        go_wp2
        go_roundw
        case rel =>
          refine ⟨i + 1, by omega, by go_num, fun j hj => ?_, (by repeat (first | exact Below.refl _ _ | assumption | refine Below.drew ?_ | refine below_drewN ?_ _ | refine Below.alloc' ?_ _ | (refine Below.setCell ?_ (by first | omega | (simp; done) | (simp; omega) | exact Below.size (by assumption) | exact Nat.le_trans (Below.size (by assumption)) (by simp)) _) | (refine Below.via' ?_ (by assumption)) | (refine Below.alloc ?_ (by first | omega | (simp; done) | (simp; omega) | exact Below.size (by assumption) | exact Nat.le_trans (Below.size (by assumption)) (by simp)) _) | (refine Below.via ?_ (by assumption) (by first | omega | (simp; done) | (simp; omega) | exact Below.size (by assumption) | exact Nat.le_trans (Below.size (by assumption)) (by simp)))))⟩
          rcases Nat.lt_or_ge j i with hj2 | hj2
          · exact hall.out j hj2
          · obtain rfl : j = i := by omega
            exact ⟨nm, lv, v, hSi.out, hVi.out, by omega, by omega⟩
        case measure => simp [intOf]; omega
      · have hij : i = S.length := by omega
        subst hij
        have hv := Lib.hid (fit_all hl.out hall.out)
        clear hS hall
        go_wp2
        go_ret
        exact ⟨ret_bool hv.out.symm, hb⟩
  · have hv := Lib.hid (fit_no hl)
    have hne : ((V.length : Int) == (S.length : Int)) = false := by rw [beq_eq_false_iff_ne]; omega
    clear hS
    go_enter Try.func57, Try.ntmps57
    go_wp2
    go_ret
    exact ⟨ret_bool hv.out.symm, (by repeat (first | exact Below.refl _ _ | assumption | refine Below.drew ?_ | refine below_drewN ?_ _ | refine Below.alloc' ?_ _ | (refine Below.setCell ?_ (by first | omega | (simp; done) | (simp; omega) | exact Below.size (by assumption) | exact Nat.le_trans (Below.size (by assumption)) (by simp)) _) | (refine Below.via' ?_ (by assumption)) | (refine Below.alloc ?_ (by first | omega | (simp; done) | (simp; omega) | exact Below.size (by assumption) | exact Nat.le_trans (Below.size (by assumption)) (by simp)) _) | (refine Below.via ?_ (by assumption) (by first | omega | (simp; done) | (simp; omega) | exact Below.size (by assumption) | exact Nat.le_trans (Below.size (by assumption)) (by simp)))))⟩

set_option maxHeartbeats 2000000 in
theorem sFits_any (x y : Option Addr) (c1 c2 : Nat) (S : List (ByteArray × Int)) (V : List Int) (w : World) (hs : schB S = true) (hm : S.length ≤ 1048576) (hS : Rd w x (vC S)) (hV : IIn w y V) :
    Calls Try.prog 47 #[.slice x S.length c1, .slice y V.length c2] w fun e w' => e = .returned (.bool (fitB S V)) ∧ Below w.heap.size w w' := by
  have hVl := hV.1
  have hVh := Lib.hid hV.2.2
  have hVI := Lib.hid hV.2.1
  clear hV
  have hsh := Lib.hid hs
  clear hs
  by_cases hl : V.length = S.length
  · have he1 : ((V.length : Int) == (S.length : Int)) = true := by rw [beq_iff_eq]; omega
    have he2 : ((V.length : Int) != (S.length : Int)) = false := by show (!((V.length : Int) == (S.length : Int))) = false; rw [he1]; rfl
    replace hl := Lib.hid hl
    go_enter Try.func47, Try.ntmps47
    go_wp2
    clear he1 he2
    go_loopw [14] (fun c wr => ∃ i : Nat, i ≤ S.length ∧ c = .int .i64 i ∧ Hid (∀ j, j < i → ∃ nm lv v, S[j]? = some (nm, lv) ∧ V[j]? = some v ∧ 0 ≤ v ∧ v < lv) ∧ Below w.heap.size w wr) (fun c _ => S.length - (intOf c).toNat)
    case atStart => exact ⟨0, by omega, rfl, (fun j hj => absurd hj (by omega)), Below.refl _ _⟩
    case round =>
      obtain ⟨i, hi, rfl, hall, hb⟩ := hrel
      by_cases hlt : i < S.length
      · obtain ⟨bl, off, nm, lv, rfl, hbl, hSi, hc0, hc1⟩ := (hS.below hb).var hlt
        obtain ⟨bl2, off2, v, rfl, hbl2, hVi, hc2⟩ := (hVh.out.below hb).int (i := i) (by have := hl.out; omega)
        obtain ⟨l1, l2⟩ := schB_lv hsh.out hSi
        clear hS
        have hlt' : (i : Int) < (S.length : Int) := by omega
        have hlt2 : (i : Int) < (V.length : Int) := by have := hl.out; omega
        have hi0 : (0 : Int) ≤ (i : Int) := by omega
        have q1 : IntKind.i64.wrap (lv - 1) = lv - 1 := IntWalk.i64_in _ (by omega)
        cases hin : inB v 0 (lv - 1)
        · have hv := Lib.hid (fit_bad hSi hVi (by rw [inB_no] at hin; omega))
          clear hSi hVi
          go_wp2
          go_quiet (first | (go_at_call 83; exact Calls.quiet_of_same ((l1In_any _ _ _ _).mono fun _ _ h => ⟨h.1, h.2.symm⟩)))
          go_wp2
          go_ret
          exact ⟨ret_bool hv.out.symm, (by repeat (first | exact Below.refl _ _ | assumption | refine Below.drew ?_ | refine below_drewN ?_ _ | refine Below.alloc' ?_ _ | (refine Below.setCell ?_ (by first | omega | (simp; done) | (simp; omega) | exact Below.size (by assumption) | exact Nat.le_trans (Below.size (by assumption)) (by simp)) _) | (refine Below.via' ?_ (by assumption)) | (refine Below.alloc ?_ (by first | omega | (simp; done) | (simp; omega) | exact Below.size (by assumption) | exact Nat.le_trans (Below.size (by assumption)) (by simp)) _) | (refine Below.via ?_ (by assumption) (by first | omega | (simp; done) | (simp; omega) | exact Below.size (by assumption) | exact Nat.le_trans (Below.size (by assumption)) (by simp)))))⟩
        have hin2 := (inB_iff _ _ _).1 hin
        have hSi := Lib.hid hSi
        have hVi := Lib.hid hVi
        go_wp2
        go_quiet (first | (go_at_call 83; exact Calls.quiet_of_same ((l1In_any _ _ _ _).mono fun _ _ h => ⟨h.1, h.2.symm⟩)))
        clear q1
        go_wp2
        go_roundw
        case rel =>
          refine ⟨i + 1, by omega, by go_num, fun j hj => ?_, (by repeat (first | exact Below.refl _ _ | assumption | refine Below.drew ?_ | refine below_drewN ?_ _ | refine Below.alloc' ?_ _ | (refine Below.setCell ?_ (by first | omega | (simp; done) | (simp; omega) | exact Below.size (by assumption) | exact Nat.le_trans (Below.size (by assumption)) (by simp)) _) | (refine Below.via' ?_ (by assumption)) | (refine Below.alloc ?_ (by first | omega | (simp; done) | (simp; omega) | exact Below.size (by assumption) | exact Nat.le_trans (Below.size (by assumption)) (by simp)) _) | (refine Below.via ?_ (by assumption) (by first | omega | (simp; done) | (simp; omega) | exact Below.size (by assumption) | exact Nat.le_trans (Below.size (by assumption)) (by simp)))))⟩
          rcases Nat.lt_or_ge j i with hj2 | hj2
          · exact hall.out j hj2
          · obtain rfl : j = i := by omega
            exact ⟨nm, lv, v, hSi.out, hVi.out, by omega, by omega⟩
        case measure => simp [intOf]; omega
      · have hij : i = S.length := by omega
        subst hij
        have hv := Lib.hid (fit_all hl.out hall.out)
        clear hS hall
        go_wp2
        go_ret
        exact ⟨ret_bool hv.out.symm, hb⟩
  · have hv := Lib.hid (fit_no hl)
    have hne : ((V.length : Int) == (S.length : Int)) = false := by rw [beq_eq_false_iff_ne]; omega
    clear hS
    go_enter Try.func47, Try.ntmps47
    go_wp2
    go_ret
    exact ⟨ret_bool hv.out.symm, (by repeat (first | exact Below.refl _ _ | assumption | refine Below.drew ?_ | refine below_drewN ?_ _ | refine Below.alloc' ?_ _ | (refine Below.setCell ?_ (by first | omega | (simp; done) | (simp; omega) | exact Below.size (by assumption) | exact Nat.le_trans (Below.size (by assumption)) (by simp)) _) | (refine Below.via' ?_ (by assumption)) | (refine Below.alloc ?_ (by first | omega | (simp; done) | (simp; omega) | exact Below.size (by assumption) | exact Nat.le_trans (Below.size (by assumption)) (by simp)) _) | (refine Below.via ?_ (by assumption) (by first | omega | (simp; done) | (simp; omega) | exact Below.size (by assumption) | exact Nat.le_trans (Below.size (by assumption)) (by simp)))))⟩
end Go.Proofs.Ytgkaalonmkcclab
