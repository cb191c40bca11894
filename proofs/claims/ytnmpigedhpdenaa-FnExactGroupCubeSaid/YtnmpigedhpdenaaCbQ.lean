/-
  The walks of chapter 10: a cell's number, its indices (the model's), right form; the program's and the model's.
-/
import Derived.Test.YtnmpigedhpdenaaCbP
import Derived.Test.YtnmpigedhpdenaaAtS
import Derived.Deep.DeepCutAuto
namespace Go.Proofs.Ytnmpigedhpdenaa
open Go.RowKit
set_option maxRecDepth 100000

theorem iC_atI {L : List Int} {i : Nat} {u : Value} {v : Int} (hv : L[i]? = some v) (hu : (iC L)[i]? = some u) : u = .int .i64 v := Option.some.inj (hu.symm.trans (iC_at hv))
theorem four_at {a b c d : Int} {i : Nat} (h : i < 4) : ∃ x, [a, b, c, d][i]? = some x ∧ (#[Value.int .i64 a, .int .i64 b, .int .i64 c, .int .i64 d] : Array Value)[i]? = some (.int .i64 x) := by
  have : i = 0 ∨ i = 1 ∨ i = 2 ∨ i = 3 := by omega
  rcases this with rfl | rfl | rfl | rfl
  · exact ⟨a, rfl, rfl⟩
  · exact ⟨b, rfl, rfl⟩
  · exact ⟨c, rfl, rfl⟩
  · exact ⟨d, rfl, rfl⟩
set_option maxHeartbeats 2000000 in
theorem cellAt_any (x : Option Addr) (c : Nat) (Z : List Int) (a0 a1 a2 a3 : Int) (w : World) (hz : okZ Z = true) (hf : FtC Z [a0, a1, a2, a3]) (hZ : IIn w x Z) :
    Calls Try.prog 75 #[.slice x Z.length c, .agg #[.int .i64 a0, .int .i64 a1, .int .i64 a2, .int .i64 a3]] w fun e w' => e = .returned (.int .i64 (ixC Z [a0, a1, a2, a3])) ∧ Below w.heap.size w w' := by
  have hZh := Lib.hid hZ
  have h4 := okZ_len hz
  have hzh := Lib.hid hz
  have hfh := Lib.hid hf
  have hq := Lib.hid (Wb.new w 81 #[.int .i64 a0, .int .i64 a1, .int .i64 a2, .int .i64 a3])
  clear hZ hz hf
  go_enter Try.func75, Try.ntmps75
  go_wp2
  go_loopw [5, 10] (fun q c wr => ∃ i : Nat, i ≤ Z.length ∧ c = .int .i64 i ∧ q = .int .i64 (ixG ((Z.zip [a0, a1, a2, a3]).take i)) ∧ Below w.heap.size w wr ∧ Hid (Wb wr w.heap.size 81 #[.int .i64 a0, .int .i64 a1, .int .i64 a2, .int .i64 a3])) (fun _ c _ => Z.length - (intOf c).toNat)
  case atStart => exact ⟨0, by omega, rfl, rfl, (by repeat (first | exact Below.refl _ _ | assumption | refine Below.drew ?_ | refine below_drewN ?_ _ | refine Below.alloc' ?_ _ | (refine Below.setCell ?_ (by first | omega | (simp; done) | (simp; omega) | exact Below.size (by assumption) | exact Nat.le_trans (Below.size (by assumption)) (by simp)) _) | (refine Below.via' ?_ (by assumption)) | (refine Below.alloc ?_ (by first | omega | (simp; done) | (simp; omega) | exact Below.size (by assumption) | exact Nat.le_trans (Below.size (by assumption)) (by simp)) _) | (refine Below.via ?_ (by assumption) (by first | omega | (simp; done) | (simp; omega) | exact Below.size (by assumption) | exact Nat.le_trans (Below.size (by assumption)) (by simp))))), hq.out⟩
  case round =>
    obtain ⟨i, hi, rfl, rfl, hb, hqr⟩ := hrel
    by_cases hlt : i < Z.length
    · obtain ⟨bl, off, v, rfl, hbl, hZi, hc0⟩ := (hZh.out.below hb).2.2.int hlt
      obtain ⟨y, hy, hy2⟩ := four_at (a := a0) (b := a1) (c := a2) (d := a3) (show i < 4 by omega)
      have k0 := (hqr.out.read i).trans hy2
      have k4 := hqr.out.inside
      obtain ⟨e, p1, p2, p3, p4, p5, p6⟩ := ixG_walk hzh.out hfh.out hZi hy
      have eh := Lib.hid e
      have hlt' : (i : Int) < (Z.length : Int) := by omega
      have hlt4 : (i : Int) < 4 := by omega
      replace hZi := Lib.hid hZi
      replace hy := Lib.hid hy
      clear e hy2
      go_wp2
      go_roundw
      case rel => exact ⟨i + 1, by omega, by go_num, by rw [eh.out], hb, hqr⟩
      case measure => simp [intOf]; omega
    · have hij : i = Z.length := by omega
      subst hij
      have e1 := Lib.hid (ixG_all hfh.out.1)
      go_wp2
      go_ret
      exact ⟨ret_int e1.out, hb⟩

set_option maxHeartbeats 2000000 in
theorem cbAt_any (x y : Option Addr) (c d : Nat) (Z I : List Int) (w : World) (hz : okZ Z = true) (hf : FtC Z I) (hZ : IIn w x Z) (hI : Rd w y (iC I)) :
    Calls Try.prog 74 #[.slice x Z.length c, .slice y I.length d] w fun e w' => e = .returned (.int .i64 (ixC Z I)) ∧ w = w' := by
  have hZh := Lib.hid hZ
  have hIh := Lib.hid hI
  have h4 := okZ_len hz
  have hl := hf.1
  have hzh := Lib.hid hz
  have hfh := Lib.hid hf
  clear hZ hz hf hI
  go_enter Try.func74, Try.ntmps74
  go_wp2
  go_loopw [5, 10] (fun q c wr => ∃ i : Nat, i ≤ Z.length ∧ c = .int .i64 i ∧ q = .int .i64 (ixG ((Z.zip I).take i)) ∧ w = wr) (fun _ c _ => Z.length - (intOf c).toNat)
  case atStart => exact ⟨0, by omega, rfl, rfl, rfl⟩
  case round =>
    obtain ⟨i, hi, rfl, rfl, rfl⟩ := hrel
    by_cases hlt : i < Z.length
    · obtain ⟨bl, off, v, rfl, hbl, hZi, hc0⟩ := hZh.out.2.2.int hlt
      obtain ⟨bl2, off2, u, rfl, hbl2, hy, hc1⟩ := hIh.out.int (i := i) (by omega)
      obtain ⟨e, p1, p2, p3, p4, p5, p6⟩ := ixG_walk hzh.out hfh.out hZi hy
      have eh := Lib.hid e
      have hlt' : (i : Int) < (Z.length : Int) := by omega
      have hlt4 : (i : Int) < (I.length : Int) := by omega
      replace hZi := Lib.hid hZi
      replace hy := Lib.hid hy
      clear e
      go_wp2
      go_roundw
      case rel => exact ⟨i + 1, by omega, by go_num, by rw [eh.out], by first | rfl | trivial⟩
      case measure => simp [intOf]; omega
    · have hij : i = Z.length := by omega
      subst hij
      have e1 := Lib.hid (ixG_all hfh.out.1)
      go_wp2
      go_ret
      exact ⟨ret_int e1.out, by first | rfl | trivial⟩

def DgPost (Z : List Int) (i : Int) (w : World) (e : Ending) (w' : World) : Prop :=
  e = .returned (.slice (some ⟨w.heap.size, 0, none⟩) Z.length Z.length) ∧ w'.ownsRow w.heap.size 3 1 (.slice (some ⟨w.heap.size, 0, none⟩) Z.length Z.length) Z.length (iC (dgL Z i)) ∧ Below w.heap.size w w'
set_option maxHeartbeats 2000000 in
theorem cbIndices_any (x : Option Addr) (c : Nat) (Z : List Int) (i : Int) (w : World) (hz : okZ Z = true) (h0 : 0 ≤ i) (h1 : i ≤ 1000000) (hZ : IIn w x Z) :
    Calls Try.prog 83 #[.slice x Z.length c, .int .i64 i] w (DgPost Z i w) := by
  obtain ⟨i0, hi, hz0, hz1, hz2⟩ := info_parts Try.infoInt
  have h4 := okZ_len hz
  have hbb : i0.bytes * Z.length ≤ 281474976710656 := by rw [hz2]; omega
  have hmm : Z.length ≤ maxLen := by unfold maxLen; omega
  have hzh := Lib.hid hz
  have hZh := Lib.hid hZ
  clear hZ hz
  go_enter Try.func83, Try.ntmps83
  go_wp2_with (at_make; go_loud (refine wpList_make_full _ rfl _ _ 22 rfl w.heap.size 3 i0 (.int .i64 0) 1 Try.underlying22 hi hz0 hz1 .i64 .i64 _ _ Z.length rfl rfl rfl rfl hbb hmm (Nat.le_refl _) (fun w1 hown hgrow => ?_)))
  have hb1 : Below w.heap.size w w1 := (Below.refl _ _).grown hgrow (Nat.le_refl _) (by intro k hk; cases hk)
  rw [made_zeros] at hown
  clear hgrow hi hz0 hz1 hz2
  go_loopw [1, 6] (fun q c wr => ∃ m : Nat, m ≤ Z.length ∧ q = .int .i64 (i / cnC (Z.drop m)) ∧ c = .int .i64 (pdZ m) ∧ wr.ownsRow w.heap.size 3 1 (.slice (some ⟨w.heap.size, 0, none⟩) Z.length Z.length) Z.length (iC (dgP Z i m)) ∧ Below w.heap.size w wr) (fun _ c _ => (intOf c + 1).toNat)
  case atStart => exact ⟨Z.length, Nat.le_refl _, by rw [qt_end], rfl, by rw [dgP_end]; exact hown, hb1⟩
  case round =>
    clear hown hb1
    obtain ⟨m, hm', rfl, rfl, hown, hb⟩ := hrel
    cases m with
    | zero =>
      have hz : pdZ 0 = -1 := rfl
      rw [hz]
      clear hz
      rw [dgP_zero] at hown
      have hown := Lib.hid hown
      go_wp2
      go_ret
      exact ⟨rfl, hown.out, hb⟩
    | succ j =>
      rw [pdZ_s]
      obtain ⟨bl, off, v, rfl, hbl0, hZi, hc00⟩ := hZh.out.2.2.int (i := j) (by omega)
      have hc0 := (hb.cell (p := ⟨bl, off + j, none⟩) hbl0).trans hc00
      have hbl : bl < wr.heap.size := Nat.lt_of_lt_of_le hbl0 hb.size
      have hne : bl ≠ w.heap.size := by omega
      have hc9 : (wr.setCell ⟨w.heap.size, j, none⟩ (.int .i64 (i / cnC (Z.drop (j + 1)) % (v + 1)))).cell? ⟨bl, off + j, none⟩ = some (.int .i64 v) := (World.cell?_of_block (a := ⟨bl, off + j, none⟩) (Below.heap_setCell _ _ _ _ hne)).trans hc0
      clear hc00
      obtain ⟨q0, q1, l1, l2, e1, e2⟩ := dg_walk hzh.out h0 h1 hZi
      have e1 := Lib.hid e1
      have e2 := Lib.hid e2
      obtain ⟨u, hu, k0⟩ := own_cell hown (j := j) (by omega)
      have k2 := hown.frozenAt j
      have k4 := (own_lt hown).2
      have l3 : v + 1 ≠ 0 := by omega
      have t1 : (i / cnC (Z.drop (j + 1))).tmod (v + 1) = i / cnC (Z.drop (j + 1)) % (v + 1) := Int.tmod_eq_emod_of_nonneg q0
      have t2 : (i / cnC (Z.drop (j + 1))).tdiv (v + 1) = i / cnC (Z.drop (j + 1)) / (v + 1) := Int.tdiv_eq_ediv_of_nonneg q0
      have t3 : wrap64 (i / cnC (Z.drop (j + 1)) / (v + 1)) = i / cnC (Z.drop (j + 1)) / (v + 1) := IntWalk.wrap64_in _ (by have := Int.ediv_le_self (v + 1) q0; have := Int.ediv_nonneg q0 (show 0 ≤ v + 1 by omega); omega)
      replace hu := Lib.hid hu
      replace hZi := Lib.hid hZi
      have hlt' : (j : Int) < (Z.length : Int) := by omega
      go_wp2
      go_roundw
      case rel =>
        refine ⟨j, by omega, by rw [e1.out, t3], rfl, ?_, (by repeat (first | exact Below.refl _ _ | assumption | refine Below.drew ?_ | refine below_drewN ?_ _ | refine Below.alloc' ?_ _ | (refine Below.setCell ?_ (by first | omega | (simp; done) | (simp; omega) | exact Below.size (by assumption) | exact Nat.le_trans (Below.size (by assumption)) (by simp)) _) | (refine Below.via' ?_ (by assumption)) | (refine Below.alloc ?_ (by first | omega | (simp; done) | (simp; omega) | exact Below.size (by assumption) | exact Nat.le_trans (Below.size (by assumption)) (by simp)) _) | (refine Below.via ?_ (by assumption) (by first | omega | (simp; done) | (simp; omega) | exact Below.size (by assumption) | exact Nat.le_trans (Below.size (by assumption)) (by simp)))))⟩
        rw [e2.out, iC_setA]
        exact (hown.stored j _).1
      case measure => first | (simp [intOf]; done) | (simp [intOf]; omega)

set_option maxHeartbeats 2000000 in
theorem hasForm_any (x y : Option Addr) (c d : Nat) (Z C : List Int) (w : World) (h : CIn w x y Z C) :
    Calls Try.prog 56 #[.agg #[.slice x Z.length c, .slice y C.length d]] w fun e w' => e = .returned (.bool (cfB Z C)) ∧ Below w.heap.size w w' := by
  have hh := Lib.hid h
  have hq := CQ.new w x Z.length c y C.length d 27
  obtain ⟨qa, qb, qc⟩ := hq
  clear h
  cases hs : csB Z
  · have hv := Lib.hid (cf_no1 (C := C) hs)
    have hsh := Lib.hid hs
    clear hs
    go_enter Try.func56, Try.ntmps56
    go_wp2
    go_quiet (first | (go_at_call 65; exact Calls.quiet_of_same ((areSizes_any _ _ Z _ (hh.out.1.below (by exact (by repeat (first | exact Below.refl _ _ | assumption | refine Below.drew ?_ | refine below_drewN ?_ _ | refine Below.alloc' ?_ _ | (refine Below.setCell ?_ (by first | omega | (simp; done) | (simp; omega) | exact Below.size (by assumption) | exact Nat.le_trans (Below.size (by assumption)) (by simp)) _) | (refine Below.via' ?_ (by assumption)) | (refine Below.alloc ?_ (by first | omega | (simp; done) | (simp; omega) | exact Below.size (by assumption) | exact Nat.le_trans (Below.size (by assumption)) (by simp)) _) | (refine Below.via ?_ (by assumption) (by first | omega | (simp; done) | (simp; omega) | exact Below.size (by assumption) | exact Nat.le_trans (Below.size (by assumption)) (by simp)))))))).mono fun _ _ h => ⟨by rw [hsh.out] at h; exact h.1, h.2.symm⟩)))
    go_wp2
    go_ret
    exact ⟨ret_bool hv.out.symm, (by repeat (first | exact Below.refl _ _ | assumption | refine Below.drew ?_ | refine below_drewN ?_ _ | refine Below.alloc' ?_ _ | (refine Below.setCell ?_ (by first | omega | (simp; done) | (simp; omega) | exact Below.size (by assumption) | exact Nat.le_trans (Below.size (by assumption)) (by simp)) _) | (refine Below.via' ?_ (by assumption)) | (refine Below.alloc ?_ (by first | omega | (simp; done) | (simp; omega) | exact Below.size (by assumption) | exact Nat.le_trans (Below.size (by assumption)) (by simp)) _) | (refine Below.via ?_ (by assumption) (by first | omega | (simp; done) | (simp; omega) | exact Below.size (by assumption) | exact Nat.le_trans (Below.size (by assumption)) (by simp)))))⟩
  have hsh := Lib.hid hs
  have hok := Lib.hid (cs_get hs).1
  clear hs
  by_cases hl : (C.length : Int) = cnC Z
  · have hlb : ((C.length : Int) == cnC Z) = true := by rw [beq_iff_eq]; exact hl
    have hlh := Lib.hid hl
    clear hl
    have hv : Hid (inR C (-1000000) 1000000 = cfB Z C) := by
      unfold Hid
      cases hr : inR C (-1000000) 1000000
      · exact (cf_no3 hr).symm
      · exact (cf_yes hsh.out hlh.out hr).symm
    go_enter Try.func56, Try.ntmps56
    go_wp2
    go_quiet (first | (go_at_call 65; exact Calls.quiet_of_same ((areSizes_any _ _ Z _ (hh.out.1.below (by exact (by repeat (first | exact Below.refl _ _ | assumption | refine Below.drew ?_ | refine below_drewN ?_ _ | refine Below.alloc' ?_ _ | (refine Below.setCell ?_ (by first | omega | (simp; done) | (simp; omega) | exact Below.size (by assumption) | exact Nat.le_trans (Below.size (by assumption)) (by simp)) _) | (refine Below.via' ?_ (by assumption)) | (refine Below.alloc ?_ (by first | omega | (simp; done) | (simp; omega) | exact Below.size (by assumption) | exact Nat.le_trans (Below.size (by assumption)) (by simp)) _) | (refine Below.via ?_ (by assumption) (by first | omega | (simp; done) | (simp; omega) | exact Below.size (by assumption) | exact Nat.le_trans (Below.size (by assumption)) (by simp)))))))).mono fun _ _ h => ⟨by rw [hsh.out] at h; exact h.1, h.2.symm⟩)) | (go_at_call 68; exact Calls.quiet_of_same ((ccount_any _ _ Z _ hok.out (hh.out.1.below (by exact (by repeat (first | exact Below.refl _ _ | assumption | refine Below.drew ?_ | refine below_drewN ?_ _ | refine Below.alloc' ?_ _ | (refine Below.setCell ?_ (by first | omega | (simp; done) | (simp; omega) | exact Below.size (by assumption) | exact Nat.le_trans (Below.size (by assumption)) (by simp)) _) | (refine Below.via' ?_ (by assumption)) | (refine Below.alloc ?_ (by first | omega | (simp; done) | (simp; omega) | exact Below.size (by assumption) | exact Nat.le_trans (Below.size (by assumption)) (by simp)) _) | (refine Below.via ?_ (by assumption) (by first | omega | (simp; done) | (simp; omega) | exact Below.size (by assumption) | exact Nat.le_trans (Below.size (by assumption)) (by simp)))))))).mono fun _ _ h => ⟨h.1, h.2.symm⟩)) | (go_at_call 96; exact Calls.quiet_of_same ((areWithin_any _ _ C 1000000 _ (by omega) (by omega) (hh.out.2.below (by exact (by repeat (first | exact Below.refl _ _ | assumption | refine Below.drew ?_ | refine below_drewN ?_ _ | refine Below.alloc' ?_ _ | (refine Below.setCell ?_ (by first | omega | (simp; done) | (simp; omega) | exact Below.size (by assumption) | exact Nat.le_trans (Below.size (by assumption)) (by simp)) _) | (refine Below.via' ?_ (by assumption)) | (refine Below.alloc ?_ (by first | omega | (simp; done) | (simp; omega) | exact Below.size (by assumption) | exact Nat.le_trans (Below.size (by assumption)) (by simp)) _) | (refine Below.via ?_ (by assumption) (by first | omega | (simp; done) | (simp; omega) | exact Below.size (by assumption) | exact Nat.le_trans (Below.size (by assumption)) (by simp)))))))).mono fun _ _ h => ⟨h.1, h.2.symm⟩)))
    go_wp2
    go_ret
    exact ⟨ret_bool hv.out, (by repeat (first | exact Below.refl _ _ | assumption | refine Below.drew ?_ | refine below_drewN ?_ _ | refine Below.alloc' ?_ _ | (refine Below.setCell ?_ (by first | omega | (simp; done) | (simp; omega) | exact Below.size (by assumption) | exact Nat.le_trans (Below.size (by assumption)) (by simp)) _) | (refine Below.via' ?_ (by assumption)) | (refine Below.alloc ?_ (by first | omega | (simp; done) | (simp; omega) | exact Below.size (by assumption) | exact Nat.le_trans (Below.size (by assumption)) (by simp)) _) | (refine Below.via ?_ (by assumption) (by first | omega | (simp; done) | (simp; omega) | exact Below.size (by assumption) | exact Nat.le_trans (Below.size (by assumption)) (by simp)))))⟩
  · have hlb : ((C.length : Int) == cnC Z) = false := by rw [beq_eq_false_iff_ne]; exact hl
    have hv := Lib.hid (cf_no2 hl)
    replace hl := Lib.hid hl
    go_enter Try.func56, Try.ntmps56
    go_wp2
    go_quiet (first | (go_at_call 65; exact Calls.quiet_of_same ((areSizes_any _ _ Z _ (hh.out.1.below (by exact (by repeat (first | exact Below.refl _ _ | assumption | refine Below.drew ?_ | refine below_drewN ?_ _ | refine Below.alloc' ?_ _ | (refine Below.setCell ?_ (by first | omega | (simp; done) | (simp; omega) | exact Below.size (by assumption) | exact Nat.le_trans (Below.size (by assumption)) (by simp)) _) | (refine Below.via' ?_ (by assumption)) | (refine Below.alloc ?_ (by first | omega | (simp; done) | (simp; omega) | exact Below.size (by assumption) | exact Nat.le_trans (Below.size (by assumption)) (by simp)) _) | (refine Below.via ?_ (by assumption) (by first | omega | (simp; done) | (simp; omega) | exact Below.size (by assumption) | exact Nat.le_trans (Below.size (by assumption)) (by simp)))))))).mono fun _ _ h => ⟨by rw [hsh.out] at h; exact h.1, h.2.symm⟩)) | (go_at_call 68; exact Calls.quiet_of_same ((ccount_any _ _ Z _ hok.out (hh.out.1.below (by exact (by repeat (first | exact Below.refl _ _ | assumption | refine Below.drew ?_ | refine below_drewN ?_ _ | refine Below.alloc' ?_ _ | (refine Below.setCell ?_ (by first | omega | (simp; done) | (simp; omega) | exact Below.size (by assumption) | exact Nat.le_trans (Below.size (by assumption)) (by simp)) _) | (refine Below.via' ?_ (by assumption)) | (refine Below.alloc ?_ (by first | omega | (simp; done) | (simp; omega) | exact Below.size (by assumption) | exact Nat.le_trans (Below.size (by assumption)) (by simp)) _) | (refine Below.via ?_ (by assumption) (by first | omega | (simp; done) | (simp; omega) | exact Below.size (by assumption) | exact Nat.le_trans (Below.size (by assumption)) (by simp)))))))).mono fun _ _ h => ⟨h.1, h.2.symm⟩)))
    go_wp2
    go_ret
    exact ⟨ret_bool hv.out.symm, (by repeat (first | exact Below.refl _ _ | assumption | refine Below.drew ?_ | refine below_drewN ?_ _ | refine Below.alloc' ?_ _ | (refine Below.setCell ?_ (by first | omega | (simp; done) | (simp; omega) | exact Below.size (by assumption) | exact Nat.le_trans (Below.size (by assumption)) (by simp)) _) | (refine Below.via' ?_ (by assumption)) | (refine Below.alloc ?_ (by first | omega | (simp; done) | (simp; omega) | exact Below.size (by assumption) | exact Nat.le_trans (Below.size (by assumption)) (by simp)) _) | (refine Below.via ?_ (by assumption) (by first | omega | (simp; done) | (simp; omega) | exact Below.size (by assumption) | exact Nat.le_trans (Below.size (by assumption)) (by simp)))))⟩

set_option maxHeartbeats 2000000 in
theorem cbForm_any (x y : Option Addr) (c d : Nat) (Z C : List Int) (w : World) (h : CIn w x y Z C) :
    Calls Try.prog 58 #[.agg #[.slice x Z.length c, .slice y C.length d]] w fun e w' => e = .returned (.bool (cfB Z C)) ∧ Below w.heap.size w w' := by
  have hh := Lib.hid h
  have hCl := h.2.1
  have hq := CQ.new w x Z.length c y C.length d 27
  obtain ⟨qa, qb, qc⟩ := hq
  clear h
  cases hs : csB Z
  · have hv := Lib.hid (cf_no1 (C := C) hs)
    have hcv := Lib.hid (cbV_no hs)
    clear hs
    go_enter Try.func58, Try.ntmps58
    go_wp2_with fail
    refine (cbCount_any _ _ Z _ (hh.out.1.below (by exact (by repeat (first | exact Below.refl _ _ | assumption | refine Below.drew ?_ | refine below_drewN ?_ _ | refine Below.alloc' ?_ _ | (refine Below.setCell ?_ (by first | omega | (simp; done) | (simp; omega) | exact Below.size (by assumption) | exact Nat.le_trans (Below.size (by assumption)) (by simp)) _) | (refine Below.via' ?_ (by assumption)) | (refine Below.alloc ?_ (by first | omega | (simp; done) | (simp; omega) | exact Below.size (by assumption) | exact Nat.le_trans (Below.size (by assumption)) (by simp)) _) | (refine Below.via ?_ (by assumption) (by first | omega | (simp; done) | (simp; omega) | exact Below.size (by assumption) | exact Nat.le_trans (Below.size (by assumption)) (by simp)))))))).mono ?_
    rintro e w1 ⟨rfl, rfl⟩
    rw [hcv.out]
    go_wp2
    go_ret
    exact ⟨ret_bool hv.out.symm, (by repeat (first | exact Below.refl _ _ | assumption | refine Below.drew ?_ | refine below_drewN ?_ _ | refine Below.alloc' ?_ _ | (refine Below.setCell ?_ (by first | omega | (simp; done) | (simp; omega) | exact Below.size (by assumption) | exact Nat.le_trans (Below.size (by assumption)) (by simp)) _) | (refine Below.via' ?_ (by assumption)) | (refine Below.alloc ?_ (by first | omega | (simp; done) | (simp; omega) | exact Below.size (by assumption) | exact Nat.le_trans (Below.size (by assumption)) (by simp)) _) | (refine Below.via ?_ (by assumption) (by first | omega | (simp; done) | (simp; omega) | exact Below.size (by assumption) | exact Nat.le_trans (Below.size (by assumption)) (by simp)))))⟩
  have hsh := Lib.hid hs
  have hcv := Lib.hid (cbV_yes hs)
  obtain ⟨n1, n2⟩ := cn_ok (cs_get hs).1
  have n3 : 0 < cnC Z := by omega
  clear hs
  by_cases hl : (C.length : Int) = cnC Z
  · have hlb : ((C.length : Int) == cnC Z) = true := by rw [beq_iff_eq]; exact hl
    have hlh := Lib.hid hl
    clear hl
    have hv : Hid (inR C (-1000000) 1000000 = cfB Z C) := by
      unfold Hid
      cases hr : inR C (-1000000) 1000000
      · exact (cf_no3 hr).symm
      · exact (cf_yes hsh.out hlh.out hr).symm
    go_enter Try.func58, Try.ntmps58
    go_wp2_with fail
    refine (cbCount_any _ _ Z _ (hh.out.1.below (by exact (by repeat (first | exact Below.refl _ _ | assumption | refine Below.drew ?_ | refine below_drewN ?_ _ | refine Below.alloc' ?_ _ | (refine Below.setCell ?_ (by first | omega | (simp; done) | (simp; omega) | exact Below.size (by assumption) | exact Nat.le_trans (Below.size (by assumption)) (by simp)) _) | (refine Below.via' ?_ (by assumption)) | (refine Below.alloc ?_ (by first | omega | (simp; done) | (simp; omega) | exact Below.size (by assumption) | exact Nat.le_trans (Below.size (by assumption)) (by simp)) _) | (refine Below.via ?_ (by assumption) (by first | omega | (simp; done) | (simp; omega) | exact Below.size (by assumption) | exact Nat.le_trans (Below.size (by assumption)) (by simp)))))))).mono ?_
    rintro e w1 ⟨rfl, rfl⟩
    rw [hcv.out]
    go_wp2_with fail
    refine (l1All_any _ _ C _ _ _ hCl (hh.out.2.2.2.below (by exact (by repeat (first | exact Below.refl _ _ | assumption | refine Below.drew ?_ | refine below_drewN ?_ _ | refine Below.alloc' ?_ _ | (refine Below.setCell ?_ (by first | omega | (simp; done) | (simp; omega) | exact Below.size (by assumption) | exact Nat.le_trans (Below.size (by assumption)) (by simp)) _) | (refine Below.via' ?_ (by assumption)) | (refine Below.alloc ?_ (by first | omega | (simp; done) | (simp; omega) | exact Below.size (by assumption) | exact Nat.le_trans (Below.size (by assumption)) (by simp)) _) | (refine Below.via ?_ (by assumption) (by first | omega | (simp; done) | (simp; omega) | exact Below.size (by assumption) | exact Nat.le_trans (Below.size (by assumption)) (by simp)))))))).mono ?_
    rintro e w2 ⟨rfl, rfl⟩
    go_wp2
    go_ret
    exact ⟨ret_bool hv.out, (by repeat (first | exact Below.refl _ _ | assumption | refine Below.drew ?_ | refine below_drewN ?_ _ | refine Below.alloc' ?_ _ | (refine Below.setCell ?_ (by first | omega | (simp; done) | (simp; omega) | exact Below.size (by assumption) | exact Nat.le_trans (Below.size (by assumption)) (by simp)) _) | (refine Below.via' ?_ (by assumption)) | (refine Below.alloc ?_ (by first | omega | (simp; done) | (simp; omega) | exact Below.size (by assumption) | exact Nat.le_trans (Below.size (by assumption)) (by simp)) _) | (refine Below.via ?_ (by assumption) (by first | omega | (simp; done) | (simp; omega) | exact Below.size (by assumption) | exact Nat.le_trans (Below.size (by assumption)) (by simp)))))⟩
  · have hlb : ((C.length : Int) == cnC Z) = false := by rw [beq_eq_false_iff_ne]; exact hl
    have hv := Lib.hid (cf_no2 hl)
    replace hl := Lib.hid hl
    go_enter Try.func58, Try.ntmps58
    go_wp2_with fail
    refine (cbCount_any _ _ Z _ (hh.out.1.below (by exact (by repeat (first | exact Below.refl _ _ | assumption | refine Below.drew ?_ | refine below_drewN ?_ _ | refine Below.alloc' ?_ _ | (refine Below.setCell ?_ (by first | omega | (simp; done) | (simp; omega) | exact Below.size (by assumption) | exact Nat.le_trans (Below.size (by assumption)) (by simp)) _) | (refine Below.via' ?_ (by assumption)) | (refine Below.alloc ?_ (by first | omega | (simp; done) | (simp; omega) | exact Below.size (by assumption) | exact Nat.le_trans (Below.size (by assumption)) (by simp)) _) | (refine Below.via ?_ (by assumption) (by first | omega | (simp; done) | (simp; omega) | exact Below.size (by assumption) | exact Nat.le_trans (Below.size (by assumption)) (by simp)))))))).mono ?_
    rintro e w1 ⟨rfl, rfl⟩
    rw [hcv.out]
    go_wp2
    go_ret
    exact ⟨ret_bool hv.out.symm, (by repeat (first | exact Below.refl _ _ | assumption | refine Below.drew ?_ | refine below_drewN ?_ _ | refine Below.alloc' ?_ _ | (refine Below.setCell ?_ (by first | omega | (simp; done) | (simp; omega) | exact Below.size (by assumption) | exact Nat.le_trans (Below.size (by assumption)) (by simp)) _) | (refine Below.via' ?_ (by assumption)) | (refine Below.alloc ?_ (by first | omega | (simp; done) | (simp; omega) | exact Below.size (by assumption) | exact Nat.le_trans (Below.size (by assumption)) (by simp)) _) | (refine Below.via ?_ (by assumption) (by first | omega | (simp; done) | (simp; omega) | exact Below.size (by assumption) | exact Nat.le_trans (Below.size (by assumption)) (by simp)))))⟩
end Go.Proofs.Ytnmpigedhpdenaa
