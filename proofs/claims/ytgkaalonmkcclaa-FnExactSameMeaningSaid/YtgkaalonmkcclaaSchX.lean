/-
  The walks of chapter 2: the index of values and their distance; the program's and the model's.
-/
import Derived.Test.YtgkaalonmkcclaaSchV
namespace Go.Proofs.Ytgkaalonmkcclaa
open Go.RowKit
set_option maxRecDepth 100000

set_option maxHeartbeats 2000000 in
theorem sIndex_any (x y : Option Addr) (c1 c2 : Nat) (S : List (ByteArray × Int)) (V : List Int) (w : World) (hs : schB S = true) (hf : fitB S V = true) (hm : S.length ≤ 1048576) (hS : Rd w x (vC S)) (hV : IIn w y V) :
    Calls Try.prog 75 #[.slice x S.length c1, .slice y V.length c2] w fun e w' => e = .returned (.int .i64 (ixZ S V)) ∧ Below w.heap.size w w' := by
  have hVh := Lib.hid hV.2.2
  have hSh := Lib.hid hS
  have hVl := hV.1
  clear hV hS
  have hsh := Lib.hid hs
  have hfh := Lib.hid hf
  clear hs hf
  go_enter Try.func75, Try.ntmps75
  go_wp2
  go_loopw [5, 10] (fun q c wr => ∃ i : Nat, i ≤ S.length ∧ c = .int .i64 i ∧ q = .int .i64 (ixF ((S.zip V).take i)) ∧ Below w.heap.size w wr) (fun _ c _ => S.length - (intOf c).toNat)
  case atStart => exact ⟨0, by omega, rfl, rfl, (by repeat (first | exact Below.refl _ _ | assumption | refine Below.drew ?_ | refine below_drewN ?_ _ | refine Below.alloc' ?_ _ | (refine Below.setCell ?_ (by first | omega | (simp; done) | (simp; omega) | exact Below.size (by assumption) | exact Nat.le_trans (Below.size (by assumption)) (by simp)) _) | (refine Below.via' ?_ (by assumption)) | (refine Below.alloc ?_ (by first | omega | (simp; done) | (simp; omega) | exact Below.size (by assumption) | exact Nat.le_trans (Below.size (by assumption)) (by simp)) _) | (refine Below.via ?_ (by assumption) (by first | omega | (simp; done) | (simp; omega) | exact Below.size (by assumption) | exact Nat.le_trans (Below.size (by assumption)) (by simp)))))⟩
  case round =>
    try clear hcl1 hfr1 hcl2 hfr2
    obtain ⟨i, hi, rfl, rfl, hb⟩ := hrel
    by_cases hlt : i < S.length
    · obtain ⟨bl, off, nm, lv, hx, hbl, hSi, hc0, hc1⟩ := (hSh.out.below hb).var hlt
      obtain ⟨bl2, off2, v, hy, hbl2, hVi, hc2⟩ := (hVh.out.below hb).int (i := i) (by have := fit_len hfh.out; omega)
      subst hx hy
      obtain ⟨e, m1, m2, m3, m4⟩ := ix_step hsh.out hfh.out hSi hVi
      obtain ⟨b1, b2⟩ := ix_bd hsh.out hfh.out i hi
      have b3 := (cn_le hsh.out hi).2
      replace e := Lib.hid e
      clear hSi hVi
      have hlt' : (i : Int) < (S.length : Int) := by omega
      have hlt2 : (i : Int) < (V.length : Int) := by have := fit_len hfh.out; omega
      have hi0 : (0 : Int) ≤ (i : Int) := by omega
      have q1 : IntKind.i64.wrap (ixF ((S.zip V).take i) * lv) = ixF ((S.zip V).take i) * lv := IntWalk.i64_in _ (by omega)
      have q2 : IntKind.i64.wrap (ixF ((S.zip V).take i) * lv + v) = ixF ((S.zip V).take i) * lv + v := IntWalk.i64_in _ (by omega)
      go_wp2
      go_quiet (fail)
      clear q1 q2
      go_wp2
      go_roundw
      case rel => exact ⟨i + 1, by omega, by go_num, by rw [e.out], (by repeat (first | exact Below.refl _ _ | assumption | refine Below.drew ?_ | refine below_drewN ?_ _ | refine Below.alloc' ?_ _ | (refine Below.setCell ?_ (by first | omega | (simp; done) | (simp; omega) | exact Below.size (by assumption) | exact Nat.le_trans (Below.size (by assumption)) (by simp)) _) | (refine Below.via' ?_ (by assumption)) | (refine Below.alloc ?_ (by first | omega | (simp; done) | (simp; omega) | exact Below.size (by assumption) | exact Nat.le_trans (Below.size (by assumption)) (by simp)) _) | (refine Below.via ?_ (by assumption) (by first | omega | (simp; done) | (simp; omega) | exact Below.size (by assumption) | exact Nat.le_trans (Below.size (by assumption)) (by simp)))))⟩
      case measure => simp [intOf]; omega
    · have hij : i = S.length := by omega
      subst hij
      have hz : Hid (ixF ((S.zip V).take S.length) = ixZ S V) := by
        unfold Hid ixZ
        rw [List.take_of_length_le (by rw [List.length_zip]; omega)]
      go_wp2
      go_ret
      exact ⟨ret_int hz.out, hb⟩

/-- A schema and values that come in. -/
theorem ci_no1 {S : List (ByteArray × Int)} {V : List Int} (h : schB S = false) : ciB S V = false ∧ ciN S V = 0 := by
  have e : ciB S V = false := by unfold ciB; rw [h]; rfl
  exact ⟨e, if_f e⟩
theorem ci_no2 {S : List (ByteArray × Int)} {V : List Int} (h : fitB S V = false) : ciB S V = false ∧ ciN S V = 0 := by
  have e : ciB S V = false := by unfold ciB; rw [h, Bool.and_false]
  exact ⟨e, if_f e⟩
theorem ci_yes {S : List (ByteArray × Int)} {V : List Int} (h : schB S = true) (k : fitB S V = true) : ciB S V = true ∧ ciN S V = ixZ S V := by
  have e : ciB S V = true := by unfold ciB; rw [h, k]; rfl
  exact ⟨e, if_t e⟩

set_option maxHeartbeats 2000000 in
theorem cix_any (x y : Option Addr) (c1 c2 : Nat) (S : List (ByteArray × Int)) (V : List Int) (w : World) (hs : schB S = true) (hf : fitB S V = true) (hm : S.length ≤ 1048576) (hS : Rd w x (vC S)) (hV : IIn w y V) :
    Calls Try.prog 113 #[.slice x S.length c1, .slice y V.length c2] w fun e w' => e = .returned (.int .i64 (ixZ S V)) ∧ Below w.heap.size w w' := by
  have hVh := Lib.hid hV.2.2
  have hSh := Lib.hid hS
  have hVl := hV.1
  clear hV hS
  have hsh := Lib.hid hs
  have hfh := Lib.hid hf
  clear hs hf
  go_enter Try.func113, Try.ntmps113
  go_wp2
  go_loopw [5, 10] (fun q c wr => ∃ i : Nat, i ≤ S.length ∧ c = .int .i64 i ∧ q = .int .i64 (ixF ((S.zip V).take i)) ∧ Below w.heap.size w wr) (fun _ c _ => S.length - (intOf c).toNat)
  case atStart => exact ⟨0, by omega, rfl, rfl, (by repeat (first | exact Below.refl _ _ | assumption | refine Below.drew ?_ | refine below_drewN ?_ _ | refine Below.alloc' ?_ _ | (refine Below.setCell ?_ (by first | omega | (simp; done) | (simp; omega) | exact Below.size (by assumption) | exact Nat.le_trans (Below.size (by assumption)) (by simp)) _) | (refine Below.via' ?_ (by assumption)) | (refine Below.alloc ?_ (by first | omega | (simp; done) | (simp; omega) | exact Below.size (by assumption) | exact Nat.le_trans (Below.size (by assumption)) (by simp)) _) | (refine Below.via ?_ (by assumption) (by first | omega | (simp; done) | (simp; omega) | exact Below.size (by assumption) | exact Nat.le_trans (Below.size (by assumption)) (by simp)))))⟩
  case round =>
    try clear hcl1 hfr1 hcl2 hfr2
    obtain ⟨i, hi, rfl, rfl, hb⟩ := hrel
    by_cases hlt : i < S.length
    · obtain ⟨bl, off, nm, lv, hx, hbl, hSi, hc0, hc1⟩ := (hSh.out.below hb).var hlt
      obtain ⟨bl2, off2, v, hy, hbl2, hVi, hc2⟩ := (hVh.out.below hb).int (i := i) (by have := fit_len hfh.out; omega)
      subst hx hy
      obtain ⟨e, m1, m2, m3, m4⟩ := ix_step hsh.out hfh.out hSi hVi
      obtain ⟨b1, b2⟩ := ix_bd hsh.out hfh.out i hi
      have b3 := (cn_le hsh.out hi).2
      replace e := Lib.hid e
      clear hSi hVi
      have hlt' : (i : Int) < (S.length : Int) := by omega
      have hlt2 : (i : Int) < (V.length : Int) := by have := fit_len hfh.out; omega
      have hi0 : (0 : Int) ≤ (i : Int) := by omega
      have q1 : IntKind.i64.wrap (ixF ((S.zip V).take i) * lv) = ixF ((S.zip V).take i) * lv := IntWalk.i64_in _ (by omega)
      have q2 : IntKind.i64.wrap (ixF ((S.zip V).take i) * lv + v) = ixF ((S.zip V).take i) * lv + v := IntWalk.i64_in _ (by omega)
      go_wp2
      go_quiet (fail)
      clear q1 q2
      go_wp2
      go_roundw
      case rel => exact ⟨i + 1, by omega, by go_num, by rw [e.out], (by repeat (first | exact Below.refl _ _ | assumption | refine Below.drew ?_ | refine below_drewN ?_ _ | refine Below.alloc' ?_ _ | (refine Below.setCell ?_ (by first | omega | (simp; done) | (simp; omega) | exact Below.size (by assumption) | exact Nat.le_trans (Below.size (by assumption)) (by simp)) _) | (refine Below.via' ?_ (by assumption)) | (refine Below.alloc ?_ (by first | omega | (simp; done) | (simp; omega) | exact Below.size (by assumption) | exact Nat.le_trans (Below.size (by assumption)) (by simp)) _) | (refine Below.via ?_ (by assumption) (by first | omega | (simp; done) | (simp; omega) | exact Below.size (by assumption) | exact Nat.le_trans (Below.size (by assumption)) (by simp)))))⟩
      case measure => simp [intOf]; omega
    · have hij : i = S.length := by omega
      subst hij
      have hz : Hid (ixF ((S.zip V).take S.length) = ixZ S V) := by
        unfold Hid ixZ
        rw [List.take_of_length_le (by rw [List.length_zip]; omega)]
      go_wp2
      go_ret
      exact ⟨ret_int hz.out, hb⟩

end Go.Proofs.Ytgkaalonmkcclaa
