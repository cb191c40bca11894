/-
  Reading back a fraction: the walks, the model's and the program's.
-/
import Derived.Test.YtbglogaljjfnnabDoorFrP
import Derived.Deep.DeepCutAuto
import Derived.Deep.CutRange
namespace Go.Proofs.YtbglogaljjfnnabDoor
open Go.RowKit
set_option maxRecDepth 100000

theorem spl_size' (s : ByteArray) (b : UInt8) : ∀ p ∈ spL s b, p.size ≤ s.size := by
  have hS : ∀ i, ∀ p ∈ (spS s b i).1, p.size ≤ s.size := by
    intro i
    induction i with
    | zero => intro p hp; simp [spS] at hp
    | succ i ih =>
      intro p hp
      unfold spS at hp
      split at hp
      · rcases List.mem_append.1 hp with hp | hp
        · exact ih p hp
        · simp at hp
          rw [hp, ByteArray.size_extract]
          omega
      · exact ih p hp
  intro p hp
  unfold spL at hp
  rcases List.mem_append.1 hp with hp | hp
  · exact hS _ p hp
  · simp at hp
    rw [hp, ByteArray.size_extract]
    omega
/-- The result's block: two numbers, open to stores. -/
def ResB (w : World) (r : Nat) : Prop := w.cell? ⟨r, 0, none⟩ = some (.int .i64 0) ∧ w.cell? ⟨r, 1, none⟩ = some (.int .i64 0) ∧ w.frozen? ⟨r, 0, none⟩ = false ∧ w.frozen? ⟨r, 1, none⟩ = false
theorem ResB.below {w w' : World} {r : Nat} (h : ResB w r) (hr : r < w.heap.size) (hb : Below w.heap.size w w') : ResB w' r :=
  ⟨(hb.cell hr).trans h.1, (hb.cell hr).trans h.2.1, (hb.frozen hr).trans h.2.2.1, (hb.frozen hr).trans h.2.2.2⟩
theorem ResB.store {w : World} {r g o : Nat} {V : Value} (h : ResB w r) (hne : g ≠ r) : ResB (w.setCell ⟨g, o, none⟩ V) r := by
  obtain ⟨h1, h2, h3, h4⟩ := h
  refine ⟨?_, ?_, ?_, ?_⟩
  · rw [World.cell?_setCell_other _ _ _ _ (by intro e; injection e with e; exact hne e)]; exact h1
  · rw [World.cell?_setCell_other _ _ _ _ (by intro e; injection e with e; exact hne e)]; exact h2
  · simpa using h3
  · simpa using h4
theorem empty_of {a : ByteArray} (h : a.size = 0) : a.toList.isEmpty = true := by
  rw [ByteArray.toList_eq]
  cases a with | mk x =>
  simp [ByteArray.size] at h
  simp [h]
theorem empty_no {a : ByteArray} (h : 0 < a.size) : a.toList.isEmpty = false := by
  rw [ByteArray.toList_eq]
  cases a with | mk x =>
  simp [ByteArray.size] at h ⊢
  intro e
  subst e
  simp at h

theorem pf_no {s : ByteArray} (h : frB s = false) : Ending.returned (.tuple #[.agg #[.int .i64 0, .int .i64 0], .bool false]) = .returned (.tuple #[.agg #[.int .i64 (pfN s), .int .i64 (pfD s)], .bool (pfB s)]) := by unfold pfN pfD pfB; rw [h]; rfl
theorem pf_yes {s : ByteArray} {n d : Int} (h : frB s = true) (hn : frN s = n) (hd : frD s = d) : Ending.returned (.tuple #[.agg #[.int .i64 n, .int .i64 d], .bool true]) = .returned (.tuple #[.agg #[.int .i64 (pfN s), .int .i64 (pfD s)], .bool (pfB s)]) := by unfold pfN pfD pfB; rw [h, hn, hd]; rfl

set_option maxHeartbeats 4000000 in
theorem fRead_any (s : ByteArray) (w : World) (hm : s.size ≤ 1048576) :
    Calls Tryd.prog 53 #[.string s] w fun e w' => e = .returned (.tuple #[.agg #[.int .i64 (pfN s), .int .i64 (pfD s)], .bool (pfB s)]) ∧ Below w.heap.size w w' := by
  have hPl := spL_len s 47
  obtain ⟨a, ha⟩ : ∃ a, (spL s 47)[0]? = some a := ⟨_, List.getElem?_eq_getElem (by omega)⟩
  have hfa : frA s = a := by unfold frA; rw [List.getD_eq_getElem?_getD, ha]; rfl
  have hsa : a.size ≤ s.size := spl_size' s 47 a (List.mem_of_getElem? ha)
  go_enter Tryd.func53, Tryd.ntmps53
  go_wp2_with fail
  refine (l1Split_any s 47 _ hm).mono ?_
  rintro e w1 ⟨g, cap, rfl, hown1, hb1⟩
  have hs1 := hb1.size
  simp at hs1
  have hb1' : Below w.heap.size w w1 := (by repeat (first | exact Below.refl _ _ | assumption | refine Below.drew ?_ | refine below_drewN ?_ _ | refine Below.alloc' ?_ _ | (refine Below.setCell ?_ (by first | omega | (simp; done) | (simp; omega) | exact Below.size (by assumption) | exact Nat.le_trans (Below.size (by assumption)) (by simp)) _) | (refine Below.via' ?_ (by assumption)) | (refine Below.alloc ?_ (by first | omega | (simp; done) | (simp; omega) | exact Below.size (by assumption) | exact Nat.le_trans (Below.size (by assumption)) (by simp)) _) | (refine Below.via ?_ (by assumption) (by first | omega | (simp; done) | (simp; omega) | exact Below.size (by assumption) | exact Nat.le_trans (Below.size (by assumption)) (by simp)))))
  have hlow := (own_lt hown1).1
  simp at hlow
  have hglt := (own_lt hown1).2
  obtain ⟨u, hu, k0⟩ := own_cell hown1 (j := 0) (by omega)
  rw [tC_at ha] at hu
  injection hu with hu
  subst hu
  have k2 := hown1.frozenAt 0
  have hR : ResB w1 w.heap.size := ResB.below (w := w.alloc (.cells #[.int .i64 0, .int .i64 0] 24)) ⟨by go_simp, by go_simp, by go_simp, by go_simp⟩ (by simp) hb1
  have HQ := Lib.hid (Rd.of_own hown1)
  have hL0 : (0 : Int) < ((spL s 47).length : Int) := by omega
  replace ha := Lib.hid ha
  replace hR := Lib.hid hR
  clear hown1 hb1
  go_upto_region 3 with fail
  go_cut [19] from 9 to 18 (fun s19 wx => s19 = .bool (frS s) ∧ wx = w1)
  case first =>
    rcases Nat.eq_zero_or_pos a.size with h0 | h0
    · have he := empty_of h0
      have hS : Hid (frS s = false) := by
        unfold Hid frS
        rw [hfa, decide_eq_false]
        intro h
        have := nmL_len a
        have h2 := (List.getElem?_eq_some_iff.1 h).1
        omega
      replace hfa := Lib.hid hfa
      go_wp2_with fail
      go_meet
      exact ⟨by rw [hS.out], rfl⟩
    · have he := empty_no h0
      have hat := nmL_at a h0
      have h0' : (0 : Int) < (a.size : Int) := by omega
      cases hq : (((a[0]).toNat : Int) == 45)
      · have hS : Hid (frS s = false) := by
          unfold Hid frS
          rw [hfa, hat, decide_eq_false]
          intro h
          injection h with h
          rw [h] at hq
          exact absurd hq (by decide)
        replace hfa := Lib.hid hfa
        replace hat := Lib.hid hat
        go_wp2_with fail
        go_meet
        exact ⟨by rw [hS.out], rfl⟩
      · have hS : Hid (frS s = true) := by
          unfold Hid frS
          rw [hfa, hat, decide_eq_true]
          congr 1
          have h45 : (45 : UInt8).toNat = 45 := rfl
          exact UInt8.toNat_inj.1 (by have := beq_iff_eq.1 hq; omega)
        replace hfa := Lib.hid hfa
        replace hat := Lib.hid hat
        go_wp2_with fail
        go_meet
        exact ⟨by rw [hS.out], rfl⟩
  case rest =>
    obtain ⟨rfl, hw⟩ := hcut
    rw [hw]
    clear hw
    go_upto_if 19 with fail
    go_cut [5] from 19 to 25 (fun s5 wx => s5 = .int .i64 (frG s) ∧ wx.cell? ⟨g, 0, none⟩ = some (.string (frW s)) ∧ Hid (ResB wx w.heap.size) ∧ Hid (∀ j, j ≠ 0 → wx.cell? ⟨g, j, none⟩ = w1.cell? ⟨g, j, none⟩) ∧ w1.heap.size ≤ wx.heap.size ∧ Below w.heap.size w wx)
    case first =>
      cases hS : frS s
      · have hG : Hid (frG s = 1 ∧ frW s = a) := by unfold Hid frG frW; rw [hS, hfa]; exact ⟨rfl, rfl⟩
        replace hfa := Lib.hid hfa
        go_wp2_with fail
        go_meet
        exact ⟨by rw [hG.out.1], by rw [hG.out.2]; exact k0, hR, fun j hj => rfl, Nat.le_refl _, hb1'⟩
      · have hG : Hid (frG s = -1 ∧ frW s = a.extract 1 a.size) := by unfold Hid frG frW; rw [hS, hfa]; exact ⟨rfl, rfl⟩
        have h1' : (1 : Int) ≤ (a.size : Int) := by
          unfold frS at hS
          rw [hfa, decide_eq_true_eq] at hS
          have := nmL_len a
          have h2 := (List.getElem?_eq_some_iff.1 hS).1
          omega
        replace hfa := Lib.hid hfa
        go_wp2_with fail
        go_meet
        refine ⟨by rw [hG.out.1], ?_, hR.out.store (g := g) (by omega), fun j hj => ?_, ?_, ?_⟩
        · rw [hG.out.2]
          exact World.cell?_setCell_same _ _ _ k0
        · exact World.cell?_setCell_other _ _ _ _ (by intro e; injection e with _ e; omega)
        · simp
        · exact hb1'.setCell (p := ⟨g, 0, none⟩) (show w.heap.size ≤ g by omega) _
    case rest =>
      obtain ⟨rfl, m0, hR2, hkp, hsz2, hb2⟩ := hcut
      obtain ⟨wx, rfl⟩ : ∃ x : World, x = wc := ⟨_, rfl⟩
      have hGv : frG s = 1 ∨ frG s = -1 := by unfold frG; split <;> simp
      have hZ := dgZ_bd (frW s)
      have hsw : (frW s).size ≤ 1048576 := by
        unfold frW
        split
        · rw [ByteArray.size_extract, hfa]; omega
        · rw [hfa]; omega
      have hp1 : -10000000000 ≤ frG s * dgZ (frW s) := by rcases hGv with h | h <;> rw [h] <;> omega
      have hp2 : frG s * dgZ (frW s) ≤ 10000000000 := by rcases hGv with h | h <;> rw [h] <;> omega
      have hq0 : w.heap.size < wx.heap.size + 1 := by omega
      have hq1 : w.heap.size < wx.heap.size := by omega
      have hq2 : g < wx.heap.size + 1 := by omega
      have hq3 : g < wx.heap.size := by omega
      obtain ⟨r0, r1, r2, r3⟩ := hR2.out
      clear hGv
      replace hfa := Lib.hid hfa
      have hN : Hid (frN s = frG s * dgZ (frW s)) := rfl
      by_cases hl2 : (spL s 47).length = 2
      · obtain ⟨b, hb⟩ : ∃ b, (spL s 47)[1]? = some b := ⟨_, List.getElem?_eq_getElem (by omega)⟩
        have hsb : b.size ≤ s.size := spl_size' s 47 b (List.mem_of_getElem? hb)
        have hD : Hid (frD s = dgZ b) := by unfold Hid frD; rw [if_pos hl2, List.getD_eq_getElem?_getD, hb]; rfl
        have k1 : wx.cell? ⟨g, 1, none⟩ = some (.string b) := by
          rw [hkp.out 1 (by omega)]
          rcases HQ.out with h | ⟨bb, off, e, _, hc⟩
          · have := tC_len (spL s 47)
            rw [h] at this
            simp at this
            omega
          · injection e with e
            injection e with e1 e2
            subst e1 e2
            exact hc 1 _ (tC_at hb)
        have hl3 : (((spL s 47).length : Int) == 2) = true := by rw [beq_iff_eq]; omega
        have hl4 : ¬ 2 < (spL s 47).length := by omega
        have hZb := dgZ_bd b
        have hle : Hid (decide ((spL s 47).length ≤ 2) = true) := decide_eq_true (by omega)
        replace hb := Lib.hid hb
        replace hl2 := Lib.hid hl2
        have h1l : (1 : Int) < ((spL s 47).length : Int) := by have := hl2.out; omega
        by_cases hneg : dgZ (frW s) < 0
        · have hB : Hid (frB s = false) := by unfold Hid frB; rw [decide_eq_false (by omega : ¬ 0 ≤ dgZ (frW s))]; simp
          go_wp2_with (go_at_call 62; refine (fDigits_any _ _ (by omega)).mono ?_; rintro e w3 ⟨rfl, rfl⟩)
          refine bodyPost_ret (v := .tuple #[.agg #[.int .i64 0, .int .i64 0], .bool false]) (by simp [results, Tryd.results53, go_sem, *]) rfl ⟨pf_no hB.out, (by repeat (first | exact Below.refl _ _ | assumption | refine Below.drew ?_ | refine below_drewN ?_ _ | refine Below.alloc' ?_ _ | (refine Below.setCell ?_ (by first | omega | (simp; done) | (simp; omega) | exact Below.size (by assumption) | exact Nat.le_trans (Below.size (by assumption)) (by simp)) _) | (refine Below.via' ?_ (by assumption)) | (refine Below.alloc ?_ (by first | omega | (simp; done) | (simp; omega) | exact Below.size (by assumption) | exact Nat.le_trans (Below.size (by assumption)) (by simp)) _) | (refine Below.via ?_ (by assumption) (by first | omega | (simp; done) | (simp; omega) | exact Below.size (by assumption) | exact Nat.le_trans (Below.size (by assumption)) (by simp)))))⟩
        · cases hf : fOK (frG s * dgZ (frW s)) (dgZ b)
          · have hB : Hid (frB s = false) := by unfold Hid frB; rw [hN.out, hD.out, hf]; simp
            go_wp2_with (first | (go_at_call 62; refine (fDigits_any _ _ (by omega)).mono ?_; rintro e w3 ⟨rfl, rfl⟩) | (go_at_call 42; refine (fGood_any _ _ _).mono ?_; rintro e w4 ⟨rfl, hb4⟩; obtain ⟨hcl4, hfr4⟩ := bcell hb4; have hz4 := hb4.size; (try simp at hz4); (try (have hly4 := Nat.lt_of_succ_le hz4)); (try (have hlx4 := Nat.lt_of_succ_lt hly4)); (try (have hlw4 := Nat.lt_of_succ_lt hlx4)); (try (have hle4 := Nat.le_of_lt hly4)); (try (have hya4 : w.heap.size < w4.heap.size := by omega)); (try (have hyb4 : w.heap.size + 1 < w4.heap.size := by omega)); (try (have hyc4 : w.heap.size + 1 + 1 < w4.heap.size := by omega)); (try (have hyd4 : wa.heap.size < w4.heap.size := by omega))))
            refine bodyPost_ret (v := .tuple #[.agg #[.int .i64 0, .int .i64 0], .bool false]) (by simp [results, Tryd.results53, go_sem, *]) rfl ⟨pf_no hB.out, (by repeat (first | exact Below.refl _ _ | assumption | refine Below.drew ?_ | refine below_drewN ?_ _ | refine Below.alloc' ?_ _ | (refine Below.setCell ?_ (by first | omega | (simp; done) | (simp; omega) | exact Below.size (by assumption) | exact Nat.le_trans (Below.size (by assumption)) (by simp)) _) | (refine Below.via' ?_ (by assumption)) | (refine Below.alloc ?_ (by first | omega | (simp; done) | (simp; omega) | exact Below.size (by assumption) | exact Nat.le_trans (Below.size (by assumption)) (by simp)) _) | (refine Below.via ?_ (by assumption) (by first | omega | (simp; done) | (simp; omega) | exact Below.size (by assumption) | exact Nat.le_trans (Below.size (by assumption)) (by simp)))))⟩
          · cases he : ((frT (frG s * dgZ (frW s)) (dgZ b)).toList == s.toList)
            · have hB : Hid (frB s = false) := by
                unfold Hid frB
                rw [str_eq, decide_eq_false_iff_not] at he
                rw [hN.out, hD.out, decide_eq_false (show ¬ (nmL (frT (frG s * dgZ (frW s)) (dgZ b)) = nmL s) from he)]
                simp
              have he2 : ((frT (frG s * dgZ (frW s)) (dgZ b)).toList != s.toList) = true := by rw [bne, he]; rfl
              go_wp2_with (first | (go_at_call 62; refine (fDigits_any _ _ (by omega)).mono ?_; rintro e w3 ⟨rfl, rfl⟩) | (go_at_call 42; refine (fGood_any _ _ _).mono ?_; rintro e w4 ⟨rfl, hb4⟩; obtain ⟨hcl4, hfr4⟩ := bcell hb4; have hz4 := hb4.size; (try simp at hz4); (try (have hly4 := Nat.lt_of_succ_le hz4)); (try (have hlx4 := Nat.lt_of_succ_lt hly4)); (try (have hlw4 := Nat.lt_of_succ_lt hlx4)); (try (have hle4 := Nat.le_of_lt hly4)); (try (have hya4 : w.heap.size < w4.heap.size := by omega)); (try (have hyb4 : w.heap.size + 1 < w4.heap.size := by omega)); (try (have hyc4 : w.heap.size + 1 + 1 < w4.heap.size := by omega)); (try (have hyd4 : wa.heap.size < w4.heap.size := by omega))) | (go_at_call 63; refine (fText_any _ _ _ hf).mono ?_; rintro e w5 ⟨rfl, hb5⟩; obtain ⟨hcl5, hfr5⟩ := bcell hb5; have hz5 := hb5.size; (try simp at hz5); (try (have hly5 := Nat.lt_of_succ_le hz5)); (try (have hlx5 := Nat.lt_of_succ_lt hly5)); (try (have hlw5 := Nat.lt_of_succ_lt hlx5)); (try (have hle5 := Nat.le_of_lt hly5)); (try (have hya5 : w.heap.size < w5.heap.size := by omega)); (try (have hyb5 : w.heap.size + 1 < w5.heap.size := by omega)); (try (have hyc5 : w.heap.size + 1 + 1 < w5.heap.size := by omega)); (try (have hyd5 : wa.heap.size < w5.heap.size := by omega))))
              refine bodyPost_ret (v := .tuple #[.agg #[.int .i64 0, .int .i64 0], .bool false]) (by simp [results, Tryd.results53, go_sem, *]) rfl ⟨pf_no hB.out, (by repeat (first | exact Below.refl _ _ | assumption | refine Below.drew ?_ | refine below_drewN ?_ _ | refine Below.alloc' ?_ _ | (refine Below.setCell ?_ (by first | omega | (simp; done) | (simp; omega) | exact Below.size (by assumption) | exact Nat.le_trans (Below.size (by assumption)) (by simp)) _) | (refine Below.via' ?_ (by assumption)) | (refine Below.alloc ?_ (by first | omega | (simp; done) | (simp; omega) | exact Below.size (by assumption) | exact Nat.le_trans (Below.size (by assumption)) (by simp)) _) | (refine Below.via ?_ (by assumption) (by first | omega | (simp; done) | (simp; omega) | exact Below.size (by assumption) | exact Nat.le_trans (Below.size (by assumption)) (by simp)))))⟩
            · have hB : Hid (frB s = true) := by
                unfold Hid frB
                rw [str_eq, decide_eq_true_eq] at he
                rw [hN.out, hD.out, decide_eq_true (show nmL (frT (frG s * dgZ (frW s)) (dgZ b)) = nmL s from he), hf, hle.out, decide_eq_true (by omega : 0 ≤ dgZ (frW s))]
                rfl
              have he2 : ((frT (frG s * dgZ (frW s)) (dgZ b)).toList != s.toList) = false := by rw [bne, he]; rfl
              go_wp2_with (first | (go_at_call 62; refine (fDigits_any _ _ (by omega)).mono ?_; rintro e w3 ⟨rfl, rfl⟩) | (go_at_call 42; refine (fGood_any _ _ _).mono ?_; rintro e w4 ⟨rfl, hb4⟩; obtain ⟨hcl4, hfr4⟩ := bcell hb4; have hz4 := hb4.size; (try simp at hz4); (try (have hly4 := Nat.lt_of_succ_le hz4)); (try (have hlx4 := Nat.lt_of_succ_lt hly4)); (try (have hlw4 := Nat.lt_of_succ_lt hlx4)); (try (have hle4 := Nat.le_of_lt hly4)); (try (have hya4 : w.heap.size < w4.heap.size := by omega)); (try (have hyb4 : w.heap.size + 1 < w4.heap.size := by omega)); (try (have hyc4 : w.heap.size + 1 + 1 < w4.heap.size := by omega)); (try (have hyd4 : wa.heap.size < w4.heap.size := by omega))) | (go_at_call 63; refine (fText_any _ _ _ hf).mono ?_; rintro e w5 ⟨rfl, hb5⟩; obtain ⟨hcl5, hfr5⟩ := bcell hb5; have hz5 := hb5.size; (try simp at hz5); (try (have hly5 := Nat.lt_of_succ_le hz5)); (try (have hlx5 := Nat.lt_of_succ_lt hly5)); (try (have hlw5 := Nat.lt_of_succ_lt hlx5)); (try (have hle5 := Nat.le_of_lt hly5)); (try (have hya5 : w.heap.size < w5.heap.size := by omega)); (try (have hyb5 : w.heap.size + 1 < w5.heap.size := by omega)); (try (have hyc5 : w.heap.size + 1 + 1 < w5.heap.size := by omega)); (try (have hyd5 : wa.heap.size < w5.heap.size := by omega))))
              refine bodyPost_ret (v := .tuple #[.agg #[.int .i64 (frG s * dgZ (frW s)), .int .i64 (dgZ b)], .bool true]) (by simp [results, Tryd.results53, go_sem, *]) rfl ⟨pf_yes hB.out hN.out hD.out, (by repeat (first | exact Below.refl _ _ | assumption | refine Below.drew ?_ | refine below_drewN ?_ _ | refine Below.alloc' ?_ _ | (refine Below.setCell ?_ (by first | omega | (simp; done) | (simp; omega) | exact Below.size (by assumption) | exact Nat.le_trans (Below.size (by assumption)) (by simp)) _) | (refine Below.via' ?_ (by assumption)) | (refine Below.alloc ?_ (by first | omega | (simp; done) | (simp; omega) | exact Below.size (by assumption) | exact Nat.le_trans (Below.size (by assumption)) (by simp)) _) | (refine Below.via ?_ (by assumption) (by first | omega | (simp; done) | (simp; omega) | exact Below.size (by assumption) | exact Nat.le_trans (Below.size (by assumption)) (by simp)))))⟩
      · have hD : Hid (frD s = 1) := by unfold Hid frD; rw [if_neg hl2]
        have hl3 : (((spL s 47).length : Int) == 2) = false := by rw [beq_eq_false_iff_ne]; omega
        by_cases hl5 : 2 < (spL s 47).length
        · have hB : Hid (frB s = false) := by unfold Hid frB; rw [decide_eq_false (by omega : ¬ (spL s 47).length ≤ 2)]; simp
          have hl6 : (2 : Int) < ((spL s 47).length : Int) := by omega
          go_wp2_with (go_at_call 62; refine (fDigits_any _ _ (by omega)).mono ?_; rintro e w3 ⟨rfl, rfl⟩)
          refine bodyPost_ret (v := .tuple #[.agg #[.int .i64 0, .int .i64 0], .bool false]) (by simp [results, Tryd.results53, go_sem, *]) rfl ⟨pf_no hB.out, (by repeat (first | exact Below.refl _ _ | assumption | refine Below.drew ?_ | refine below_drewN ?_ _ | refine Below.alloc' ?_ _ | (refine Below.setCell ?_ (by first | omega | (simp; done) | (simp; omega) | exact Below.size (by assumption) | exact Nat.le_trans (Below.size (by assumption)) (by simp)) _) | (refine Below.via' ?_ (by assumption)) | (refine Below.alloc ?_ (by first | omega | (simp; done) | (simp; omega) | exact Below.size (by assumption) | exact Nat.le_trans (Below.size (by assumption)) (by simp)) _) | (refine Below.via ?_ (by assumption) (by first | omega | (simp; done) | (simp; omega) | exact Below.size (by assumption) | exact Nat.le_trans (Below.size (by assumption)) (by simp)))))⟩
        have hl6 : ((spL s 47).length : Int) ≤ 2 := by omega
        have hle : Hid (decide ((spL s 47).length ≤ 2) = true) := decide_eq_true (by omega)
        clear hl2
        by_cases hneg : dgZ (frW s) < 0
        · have hB : Hid (frB s = false) := by unfold Hid frB; rw [decide_eq_false (by omega : ¬ 0 ≤ dgZ (frW s))]; simp
          go_wp2_with (go_at_call 62; refine (fDigits_any _ _ (by omega)).mono ?_; rintro e w3 ⟨rfl, rfl⟩)
          refine bodyPost_ret (v := .tuple #[.agg #[.int .i64 0, .int .i64 0], .bool false]) (by simp [results, Tryd.results53, go_sem, *]) rfl ⟨pf_no hB.out, (by repeat (first | exact Below.refl _ _ | assumption | refine Below.drew ?_ | refine below_drewN ?_ _ | refine Below.alloc' ?_ _ | (refine Below.setCell ?_ (by first | omega | (simp; done) | (simp; omega) | exact Below.size (by assumption) | exact Nat.le_trans (Below.size (by assumption)) (by simp)) _) | (refine Below.via' ?_ (by assumption)) | (refine Below.alloc ?_ (by first | omega | (simp; done) | (simp; omega) | exact Below.size (by assumption) | exact Nat.le_trans (Below.size (by assumption)) (by simp)) _) | (refine Below.via ?_ (by assumption) (by first | omega | (simp; done) | (simp; omega) | exact Below.size (by assumption) | exact Nat.le_trans (Below.size (by assumption)) (by simp)))))⟩
        · cases hf : fOK (frG s * dgZ (frW s)) (1)
          · have hB : Hid (frB s = false) := by unfold Hid frB; rw [hN.out, hD.out, hf]; simp
            go_wp2_with (first | (go_at_call 62; refine (fDigits_any _ _ (by omega)).mono ?_; rintro e w3 ⟨rfl, rfl⟩) | (go_at_call 42; refine (fGood_any _ _ _).mono ?_; rintro e w4 ⟨rfl, hb4⟩; obtain ⟨hcl4, hfr4⟩ := bcell hb4; have hz4 := hb4.size; (try simp at hz4); (try (have hly4 := Nat.lt_of_succ_le hz4)); (try (have hlx4 := Nat.lt_of_succ_lt hly4)); (try (have hlw4 := Nat.lt_of_succ_lt hlx4)); (try (have hle4 := Nat.le_of_lt hly4)); (try (have hya4 : w.heap.size < w4.heap.size := by omega)); (try (have hyb4 : w.heap.size + 1 < w4.heap.size := by omega)); (try (have hyc4 : w.heap.size + 1 + 1 < w4.heap.size := by omega)); (try (have hyd4 : wa.heap.size < w4.heap.size := by omega))))
            refine bodyPost_ret (v := .tuple #[.agg #[.int .i64 0, .int .i64 0], .bool false]) (by simp [results, Tryd.results53, go_sem, *]) rfl ⟨pf_no hB.out, (by repeat (first | exact Below.refl _ _ | assumption | refine Below.drew ?_ | refine below_drewN ?_ _ | refine Below.alloc' ?_ _ | (refine Below.setCell ?_ (by first | omega | (simp; done) | (simp; omega) | exact Below.size (by assumption) | exact Nat.le_trans (Below.size (by assumption)) (by simp)) _) | (refine Below.via' ?_ (by assumption)) | (refine Below.alloc ?_ (by first | omega | (simp; done) | (simp; omega) | exact Below.size (by assumption) | exact Nat.le_trans (Below.size (by assumption)) (by simp)) _) | (refine Below.via ?_ (by assumption) (by first | omega | (simp; done) | (simp; omega) | exact Below.size (by assumption) | exact Nat.le_trans (Below.size (by assumption)) (by simp)))))⟩
          · cases he : ((frT (frG s * dgZ (frW s)) (1)).toList == s.toList)
            · have hB : Hid (frB s = false) := by
                unfold Hid frB
                rw [str_eq, decide_eq_false_iff_not] at he
                rw [hN.out, hD.out, decide_eq_false (show ¬ (nmL (frT (frG s * dgZ (frW s)) (1)) = nmL s) from he)]
                simp
              have he2 : ((frT (frG s * dgZ (frW s)) (1)).toList != s.toList) = true := by rw [bne, he]; rfl
              go_wp2_with (first | (go_at_call 62; refine (fDigits_any _ _ (by omega)).mono ?_; rintro e w3 ⟨rfl, rfl⟩) | (go_at_call 42; refine (fGood_any _ _ _).mono ?_; rintro e w4 ⟨rfl, hb4⟩; obtain ⟨hcl4, hfr4⟩ := bcell hb4; have hz4 := hb4.size; (try simp at hz4); (try (have hly4 := Nat.lt_of_succ_le hz4)); (try (have hlx4 := Nat.lt_of_succ_lt hly4)); (try (have hlw4 := Nat.lt_of_succ_lt hlx4)); (try (have hle4 := Nat.le_of_lt hly4)); (try (have hya4 : w.heap.size < w4.heap.size := by omega)); (try (have hyb4 : w.heap.size + 1 < w4.heap.size := by omega)); (try (have hyc4 : w.heap.size + 1 + 1 < w4.heap.size := by omega)); (try (have hyd4 : wa.heap.size < w4.heap.size := by omega))) | (go_at_call 63; refine (fText_any _ _ _ hf).mono ?_; rintro e w5 ⟨rfl, hb5⟩; obtain ⟨hcl5, hfr5⟩ := bcell hb5; have hz5 := hb5.size; (try simp at hz5); (try (have hly5 := Nat.lt_of_succ_le hz5)); (try (have hlx5 := Nat.lt_of_succ_lt hly5)); (try (have hlw5 := Nat.lt_of_succ_lt hlx5)); (try (have hle5 := Nat.le_of_lt hly5)); (try (have hya5 : w.heap.size < w5.heap.size := by omega)); (try (have hyb5 : w.heap.size + 1 < w5.heap.size := by omega)); (try (have hyc5 : w.heap.size + 1 + 1 < w5.heap.size := by omega)); (try (have hyd5 : wa.heap.size < w5.heap.size := by omega))))
              refine bodyPost_ret (v := .tuple #[.agg #[.int .i64 0, .int .i64 0], .bool false]) (by simp [results, Tryd.results53, go_sem, *]) rfl ⟨pf_no hB.out, (by repeat (first | exact Below.refl _ _ | assumption | refine Below.drew ?_ | refine below_drewN ?_ _ | refine Below.alloc' ?_ _ | (refine Below.setCell ?_ (by first | omega | (simp; done) | (simp; omega) | exact Below.size (by assumption) | exact Nat.le_trans (Below.size (by assumption)) (by simp)) _) | (refine Below.via' ?_ (by assumption)) | (refine Below.alloc ?_ (by first | omega | (simp; done) | (simp; omega) | exact Below.size (by assumption) | exact Nat.le_trans (Below.size (by assumption)) (by simp)) _) | (refine Below.via ?_ (by assumption) (by first | omega | (simp; done) | (simp; omega) | exact Below.size (by assumption) | exact Nat.le_trans (Below.size (by assumption)) (by simp)))))⟩
            · have hB : Hid (frB s = true) := by
                unfold Hid frB
                rw [str_eq, decide_eq_true_eq] at he
                rw [hN.out, hD.out, decide_eq_true (show nmL (frT (frG s * dgZ (frW s)) (1)) = nmL s from he), hf, hle.out, decide_eq_true (by omega : 0 ≤ dgZ (frW s))]
                rfl
              have he2 : ((frT (frG s * dgZ (frW s)) (1)).toList != s.toList) = false := by rw [bne, he]; rfl
              go_wp2_with (first | (go_at_call 62; refine (fDigits_any _ _ (by omega)).mono ?_; rintro e w3 ⟨rfl, rfl⟩) | (go_at_call 42; refine (fGood_any _ _ _).mono ?_; rintro e w4 ⟨rfl, hb4⟩; obtain ⟨hcl4, hfr4⟩ := bcell hb4; have hz4 := hb4.size; (try simp at hz4); (try (have hly4 := Nat.lt_of_succ_le hz4)); (try (have hlx4 := Nat.lt_of_succ_lt hly4)); (try (have hlw4 := Nat.lt_of_succ_lt hlx4)); (try (have hle4 := Nat.le_of_lt hly4)); (try (have hya4 : w.heap.size < w4.heap.size := by omega)); (try (have hyb4 : w.heap.size + 1 < w4.heap.size := by omega)); (try (have hyc4 : w.heap.size + 1 + 1 < w4.heap.size := by omega)); (try (have hyd4 : wa.heap.size < w4.heap.size := by omega))) | (go_at_call 63; refine (fText_any _ _ _ hf).mono ?_; rintro e w5 ⟨rfl, hb5⟩; obtain ⟨hcl5, hfr5⟩ := bcell hb5; have hz5 := hb5.size; (try simp at hz5); (try (have hly5 := Nat.lt_of_succ_le hz5)); (try (have hlx5 := Nat.lt_of_succ_lt hly5)); (try (have hlw5 := Nat.lt_of_succ_lt hlx5)); (try (have hle5 := Nat.le_of_lt hly5)); (try (have hya5 : w.heap.size < w5.heap.size := by omega)); (try (have hyb5 : w.heap.size + 1 < w5.heap.size := by omega)); (try (have hyc5 : w.heap.size + 1 + 1 < w5.heap.size := by omega)); (try (have hyd5 : wa.heap.size < w5.heap.size := by omega))))
              refine bodyPost_ret (v := .tuple #[.agg #[.int .i64 (frG s * dgZ (frW s)), .int .i64 (1)], .bool true]) (by simp [results, Tryd.results53, go_sem, *]) rfl ⟨pf_yes hB.out hN.out hD.out, (by repeat (first | exact Below.refl _ _ | assumption | refine Below.drew ?_ | refine below_drewN ?_ _ | refine Below.alloc' ?_ _ | (refine Below.setCell ?_ (by first | omega | (simp; done) | (simp; omega) | exact Below.size (by assumption) | exact Nat.le_trans (Below.size (by assumption)) (by simp)) _) | (refine Below.via' ?_ (by assumption)) | (refine Below.alloc ?_ (by first | omega | (simp; done) | (simp; omega) | exact Below.size (by assumption) | exact Nat.le_trans (Below.size (by assumption)) (by simp)) _) | (refine Below.via ?_ (by assumption) (by first | omega | (simp; done) | (simp; omega) | exact Below.size (by assumption) | exact Nat.le_trans (Below.size (by assumption)) (by simp)))))⟩

theorem sPF_x (s : ByteArray) (w : World) (hm : s.size ≤ 1048576) :
    Calls Tryd.prog 29 #[.string s] w fun e w' => e = .returned (.tuple #[.agg #[.int .i64 (pfN s), .int .i64 (pfD s)], .bool (pfB s)]) ∧ Below w.heap.size w w' := by
  go_enter Tryd.func29, Tryd.ntmps29
  go_wp2_with (go_at_call 53; refine (fRead_any _ _ (by assumption)).mono ?_; rintro e w1 ⟨rfl, hb1⟩; obtain ⟨hcl1, hfr1⟩ := bcell hb1; have hz1 := hb1.size; (try simp at hz1); (try (have hly1 := Nat.lt_of_succ_le hz1)); (try (have hlx1 := Nat.lt_of_succ_lt hly1)); (try (have hlw1 := Nat.lt_of_succ_lt hlx1)); (try (have hle1 := Nat.le_of_lt hly1)); (try (have hya1 : w.heap.size < w1.heap.size := by omega)); (try (have hyb1 : w.heap.size + 1 < w1.heap.size := by omega)); (try (have hyc1 : w.heap.size + 1 + 1 < w1.heap.size := by omega)); (try (have hyd1 : wa.heap.size < w1.heap.size := by omega)))
  refine bodyPost_ret (v := .tuple #[.agg #[.int .i64 (pfN s), .int .i64 (pfD s)], .bool (pfB s)]) (by simp [results, Tryd.results29, go_sem, *]) rfl ⟨rfl, (by repeat (first | exact Below.refl _ _ | assumption | refine Below.drew ?_ | refine below_drewN ?_ _ | refine Below.alloc' ?_ _ | (refine Below.setCell ?_ (by first | omega | (simp; done) | (simp; omega) | exact Below.size (by assumption) | exact Nat.le_trans (Below.size (by assumption)) (by simp)) _) | (refine Below.via' ?_ (by assumption)) | (refine Below.alloc ?_ (by first | omega | (simp; done) | (simp; omega) | exact Below.size (by assumption) | exact Nat.le_trans (Below.size (by assumption)) (by simp)) _) | (refine Below.via ?_ (by assumption) (by first | omega | (simp; done) | (simp; omega) | exact Below.size (by assumption) | exact Nat.le_trans (Below.size (by assumption)) (by simp)))))⟩
end Go.Proofs.YtbglogaljjfnnabDoor
