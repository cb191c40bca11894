import Derived.Test.YtpmbenedeakieabDoorPrQ
import Derived.Test.YtpmbenedeakieabDoorPrT
import Derived.Test.YtpmbenedeakieabDoorRecO
import Derived.Deep.Strs
import Derived.Test.YtpmbenedeakieabDoorPpS
import Derived.Test.YtpmbenedeakieabDoorPpR
namespace Go.Proofs.YtpmbenedeakieabDoor
open Go.RowKit
set_option maxRecDepth 100000

/-- The words up to the i-th variable's condition. -/
def owL (S : List (ByteArray × Int)) (l : Int) (F W : List Int) (m : Int) (i : Nat) : List ByteArray := (if (cwU S W i).length = 0 then tw2 S l F m else tw2 S l F m ++ [wWhere]) ++ cwU S W i
def oK (S : List (ByteArray × Int)) (l : Int) (F W : List Int) (m : Int) (i : Nat) : ByteArray := jnS 32 (owL S l F W m i)
section
variable {P : List Int} {S : List (ByteArray × Int)} {l : Int} {F W : List Int} {m : Int} {i : Nat}
theorem owL_no (h : (cwU S W i).length = 0) : owL S l F W m i = tw2 S l F m := by
  unfold owL
  rw [if_pos h, List.length_eq_zero_iff.1 h, List.append_nil]
theorem owL_yes (h : (cwU S W i).length ≠ 0) : owL S l F W m i = tw2 S l F m ++ [wWhere] ++ cwU S W i := by unfold owL; rw [if_neg h]
theorem oK_zero : oK S l F W m 0 = jnS 32 (tw2 S l F m) := by unfold oK; rw [owL_no (by simp [cwU])]
theorem oK_all : oK S l F W m S.length = ttT S l F W m := by
  unfold oK ttT tw3 owL
  rfl
theorem tw2_ne : tw2 S l F m ≠ [] := by
  intro e
  have := tw2_len (S := S) (l := l) (F := F) (m := m)
  rw [e] at this
  simp at this
theorem oK_same (h : cwU S W (i + 1) = cwU S W i) : oK S l F W m (i + 1) = oK S l F W m i := by unfold oK owL; rw [h]
theorem oK_first (h0 : (cwU S W i).length = 0) {t : ByteArray} (h : cwU S W (i + 1) = cwU S W i ++ [t]) : oK S l F W m (i + 1) = oK S l F W m i ++ ⟨#[32]⟩ ++ wWhere ++ ⟨#[32]⟩ ++ t := by
  unfold oK
  rw [owL_no h0, owL_yes (by rw [h]; simp), h, List.length_eq_zero_iff.1 h0, List.nil_append, jnS_snoc (by simp), jnS_snoc tw2_ne]
theorem oK_next (h0 : (cwU S W i).length ≠ 0) {t : ByteArray} (h : cwU S W (i + 1) = cwU S W i ++ [t]) : oK S l F W m (i + 1) = oK S l F W m i ++ ⟨#[32]⟩ ++ t := by
  unfold oK
  rw [owL_yes h0, owL_yes (by rw [h]; simp), h, ← List.append_assoc, jnS_snoc (by intro e; have := congrArg List.length e; simp at this)]
theorem tw2_all (h : TgP P S l F W m) : ∀ t ∈ tw2 S l F m, t.size + 1 ≤ 70 := by
  have hlv := tg_lv h
  have hns : (jnS 44 (nsL S F)).size ≤ 60 := by have := nsK_size h.s h.r F.length; rwa [nsK_all] at this
  have hnum : (numZ l).size ≤ 2 := numZ_2 hlv.1 (by omega)
  have hnm := naA_size h.s m.toNat
  have h0 : ∀ t ∈ tw0 S m, t.size + 1 ≤ 70 := by
    unfold tw0
    split
    · intro t ht; obtain rfl := List.mem_singleton.1 ht; decide
    · intro t ht
      rcases List.mem_cons.1 ht with rfl | ht
      · decide
      · obtain rfl := List.mem_singleton.1 ht; omega
  have h1 : ∀ t ∈ tw1 S l m, t.size + 1 ≤ 70 := by
    unfold tw1
    intro t ht
    rcases List.mem_append.1 ht with ht | ht
    · exact h0 t ht
    · rcases List.mem_cons.1 ht with rfl | ht
      · decide
      · obtain rfl := List.mem_singleton.1 ht; omega
  unfold tw2
  split
  · exact h1
  · intro t ht
    rcases List.mem_append.1 ht with ht | ht
    · exact h1 t ht
    · rcases List.mem_cons.1 ht with rfl | ht
      · decide
      · obtain rfl := List.mem_singleton.1 ht; omega
theorem oK_size (h : TgP P S l F W m) (hi : i ≤ S.length) : (oK S l F W m i).size ≤ 910 := by
  have h6 := (schB_len h.s).2
  have hn2 := tw2_len (S := S) (l := l) (F := F) (m := m)
  have hnc := cwU_len S W i
  have hall : ∀ t ∈ owL S l F W m i, t.size + 1 ≤ 70 := by
    have hc : ∀ t ∈ cwU S W i, t.size + 1 ≤ 70 := fun t ht => by have := cwU_size h.s i t ht; omega
    unfold owL
    intro t ht
    rcases List.mem_append.1 ht with ht | ht
    · revert ht
      split
      · exact tw2_all h t
      · intro ht
        rcases List.mem_append.1 ht with ht | ht
        · exact tw2_all h t ht
        · obtain rfl := List.mem_singleton.1 ht; decide
    · exact hc t ht
  have hlen : (owL S l F W m i).length ≤ 13 := by
    unfold owL
    rw [List.length_append]
    split
    · omega
    · simp; omega
  exact jnS_bound hall hlen
theorem o1_eq : jnS 32 (tw0 S m) ++ (⟨#[32, 108, 101, 118, 101, 108, 32]⟩ ++ numZ l) = jnS 32 (tw1 S l m) := by
  unfold tw1
  have hne : tw0 S m ≠ [] := by intro e; have := tw0_len (S := S) (m := m); rw [e] at this; simp at this
  rw [show tw0 S m ++ [wLevel, numZ l] = tw0 S m ++ [wLevel] ++ [numZ l] by simp, jnS_snoc (by simp), jnS_snoc hne]
  rw [show (⟨#[32, 108, 101, 118, 101, 108, 32]⟩ : ByteArray) = ⟨#[32]⟩ ++ wLevel ++ ⟨#[32]⟩ by decide]
  simp only [ByteArray.append_assoc]
theorem o2_eq (h : F.length ≠ 0) : jnS 32 (tw1 S l m) ++ (⟨#[32, 98, 121, 32]⟩ ++ jnS 44 (nsL S F)) = jnS 32 (tw2 S l F m) := by
  rw [tw2_yes h]
  have hne : tw1 S l m ≠ [] := by intro e; have := tw1_len (S := S) (l := l) (m := m); rw [e] at this; simp at this
  rw [show tw1 S l m ++ [wBy, jnS 44 (nsL S F)] = tw1 S l m ++ [wBy] ++ [jnS 44 (nsL S F)] by simp, jnS_snoc (by simp), jnS_snoc hne]
  rw [show (⟨#[32, 98, 121, 32]⟩ : ByteArray) = ⟨#[32]⟩ ++ wBy ++ ⟨#[32]⟩ by decide]
  simp only [ByteArray.append_assoc]
theorem o0_no (h : m = -1) : (⟨#[99, 111, 117, 110, 116]⟩ : ByteArray) = jnS 32 (tw0 S m) := by rw [tw0_no h, jnS_one]; rfl
theorem o0_yes {nm : ByteArray} (h : m ≠ -1) (k : naA S m.toNat = nm) : (⟨#[115, 117, 109, 32]⟩ : ByteArray) ++ nm = jnS 32 (tw0 S m) := by
  rw [tw0_yes h, k, show [wSum, nm] = [wSum] ++ [nm] from rfl, jnS_snoc (by simp), jnS_one, show (⟨#[115, 117, 109, 32]⟩ : ByteArray) = wSum ++ ⟨#[32]⟩ by decide]
end
set_option maxHeartbeats 8000000 in
theorem nt00 (y x z : Option Addr) (c1 c2 c3 : Nat) (P : List Int) (S : List (ByteArray × Int)) (l : Int) (F W : List Int) (m : Int) (w : World) (htg : TgP P S l F W m) (hS : SIn w y c1 S) (hT : TIn w x z F W) (hm : Hid (m = -1)) (hF0 : Hid (F.length = 0)) :
    Calls Tryd.prog 32 #[.slice y S.length c1, .agg #[.int .i64 l, .slice x F.length c2, .slice z W.length c3, .int .i64 m]] w fun e w' => e = .returned (.string (ttT S l F W m)) ∧ Below w.heap.size w w' := by
  have hSh := Lib.hid hS
  have hFh := Lib.hid hT.1
  have hWh := Lib.hid hT.2
  have hth := Lib.hid htg
  have hlv := tg_lv htg
  have h6 := (schB_len htg.s).2
  have hm1 := htg.m1
  have hm0 := htg.m0
  have hlW := Lib.hid (tw_len htg.w)
  have hz2 := oK_size htg (i := 0) (by omega)
  rw [oK_zero] at hz2
  have hnz := nsK_size htg.s htg.r F.length
  rw [nsK_all] at hnz
  have hnum := numZ_2 hlv.1 (by omega)
  clear hS hT htg
  have q0 := Lib.hid (TQ.new w l x F.length c2 z W.length c3 m 37)
  have hbA : Below w.heap.size w (w.alloc (.cells #[.int .i64 l, .slice x F.length c2, .slice z W.length c3, .int .i64 m] 37)) := (by repeat (first | exact Below.refl _ _ | assumption | refine Below.drew ?_ | refine below_drewN ?_ _ | refine Below.alloc' ?_ _ | (refine Below.setCell ?_ (by first | omega | (simp; done) | (simp; omega) | exact Below.size (by assumption) | exact Nat.le_trans (Below.size (by assumption)) (by simp)) _) | (refine Below.via' ?_ (by assumption)) | (refine Below.alloc ?_ (by first | omega | (simp; done) | (simp; omega) | exact Below.size (by assumption) | exact Nat.le_trans (Below.size (by assumption)) (by simp)) _) | (refine Below.via ?_ (by assumption) (by first | omega | (simp; done) | (simp; omega) | exact Below.size (by assumption) | exact Nat.le_trans (Below.size (by assumption)) (by simp)))))
  have hft : ¬ (0 : Int) < (F.length : Int) := by have := hF0.out; omega
  have hm2 : ¬ (0 : Int) ≤ m := by have := hm.out; omega
  have k7 : (⟨#[32, 108, 101, 118, 101, 108, 32]⟩ : ByteArray).size = 7 := rfl
  have k5 : (⟨#[99, 111, 117, 110, 116]⟩ : ByteArray).size = 5 := rfl
  have a1 : ¬ 9223372036854775807 < (⟨#[32, 108, 101, 118, 101, 108, 32]⟩ : ByteArray).size + (numZ l).size := by rw [k7]; omega
  have a1' : ¬ 9223372036854775807 < 7 + (numZ l).size := by omega
  have a2 : ¬ 9223372036854775807 < (⟨#[99, 111, 117, 110, 116]⟩ : ByteArray).size + (⟨#[32, 108, 101, 118, 101, 108, 32]⟩ ++ numZ l : ByteArray).size := by rw [ByteArray.size_append, k7, k5]; omega
  have a2' : ¬ 9223372036854775807 < 5 + (7 + (numZ l).size) := by omega
  have ho1 : (⟨#[99, 111, 117, 110, 116]⟩ : ByteArray) ++ (⟨#[32, 108, 101, 118, 101, 108, 32]⟩ ++ numZ l) = jnS 32 (tw1 S l m) := by rw [o0_no (S := S) hm.out]; exact o1_eq
  replace ho1 := Lib.hid ho1
  clear k7 k5
  obtain ⟨t0a, t0b, t0c, t0d, t0e⟩ := q0.out
  go_enter Tryd.func32, Tryd.ntmps32
  go_wp2_with fail
  refine (l1Num_any 30 l _ hlv.1 (by omega) (by omega)).mono ?_
  rintro e w1 ⟨rfl, hb1⟩
  have hB1 := Below.via' hbA hb1
  have tq1 := Lib.hid (q0.out.below hb1)
  clear q0 t0a t0b t0c t0d t0e
  obtain ⟨ta, tb, tc, td, te⟩ := tq1.out
  have ho2 := Lib.hid (show jnS 32 (tw1 S l m) = jnS 32 (tw2 S l F m) by rw [tw2_no hF0.out])
  go_upto_region 7 with fail
  rw [ho1.out, ho2.out]
  obtain ⟨w2, hw2⟩ : ∃ w2, w2 = w1 := ⟨_, rfl⟩
  rw [← hw2] at tq1 hB1 ⊢
  have tq2 := tq1
  have hB2 := hB1
  clear ta tb tc td te tq1 hw2 hb1
  obtain ⟨ta, tb, tc, td, te⟩ := tq2.out
  go_wp2
  go_loopw [5, 6, 41] (fun q f c wr => ∃ i : Nat, i ≤ W.length ∧ c = .int .i64 i ∧ q = .string (oK S l F W m i) ∧ f = .bool (decide ((cwU S W i).length = 0)) ∧ Below w2.heap.size w2 wr) (fun _ _ c _ => W.length - (intOf c).toNat)
  case atStart => exact ⟨0, by omega, by go_num, by rw [oK_zero], rfl, Below.refl _ _⟩
  case round =>
    obtain ⟨i, hi, rfl, rfl, rfl, hb⟩ := hrel
    have hBr := Below.via' hB2 hb
    by_cases hlt : i < W.length
    · obtain ⟨b1, o1, v', rfl, hb1, hWi, hc0⟩ := (hWh.out.below hBr).2.2.int hlt
      obtain ⟨nm', lv', hSi, l1, l2, x0, x1, x255⟩ := tw_get hth.out.s hth.out.w hWi
      have hiS : i < S.length := (List.getElem?_eq_some_iff.1 hSi).1
      obtain ⟨b2, o2, nm, lv, hy2, hb2, hSi2, hc1, hc2⟩ := (hSh.out.rd.below hBr).var hiS
      obtain ⟨rfl, rfl⟩ : nm = nm' ∧ lv = lv' := by
        have := Option.some.inj (hSi2.symm.trans hSi)
        injection this with a b
        exact ⟨a, b⟩
      first | subst hy2 | (injection hy2 with hy3; injection hy3 with hy4 hy5; subst hy4 hy5)
      have hcw := cwB_at hWi
      have hpa := Lib.hid (paS_at hSi hWi)
      have hns := name_size hth.out.s hSi
      have hos := oK_size hth.out (i := i) (by omega)
      have hi' : (i : Int) < (W.length : Int) := by omega
      have hi2 : (i : Int) < (S.length : Int) := by omega
      have hi0 : (0 : Int) ≤ (i : Int) := by omega
      replace hSi := Lib.hid hSi
      replace hSi2 := Lib.hid hSi2
      replace hWi := Lib.hid hWi
      by_cases hv0 : v' = 0
      · have hvb : (v' == 0) = true := by rw [hv0]; rfl
        have hsel := cwU_no (S := S) (hcw.trans (by rw [hv0]; rfl))
        have hok := Lib.hid (oK_same (l := l) (F := F) (m := m) hsel)
        replace hsel := Lib.hid hsel
        replace hv0 := Lib.hid hv0
        replace hcw := Lib.hid hcw
        go_wp2
        go_roundw
        case rel => exact ⟨i + 1, by omega, by go_num, by rw [hok.out], by rw [hsel.out], hb⟩
        case measure => simp [intOf]; omega
      · have hvb : (v' == 0) = false := by rw [beq_eq_false_iff_ne]; exact hv0
        have hsel := Lib.hid (cwU_yes (S := S) (hcw.trans (show (v' != 0) = true by simpa using hv0)))
        have x1' : 1 ≤ v' := by omega
        replace hv0 := Lib.hid hv0
        replace hcw := Lib.hid hcw
        have e1 : (⟨#[32]⟩ : ByteArray).size = 1 := rfl
        have e2 : (⟨#[61]⟩ : ByteArray).size = 1 := rfl
        have e3 : (⟨#[32, 119, 104, 101, 114, 101]⟩ : ByteArray).size = 6 := rfl
        have s1 : ¬ 9223372036854775807 < (⟨#[32]⟩ : ByteArray).size + nm.size := by rw [e1]; omega
        have s1' : ¬ 9223372036854775807 < 1 + nm.size := by omega
        have s2 : ¬ 9223372036854775807 < (⟨#[32]⟩ ++ nm : ByteArray).size + (⟨#[61]⟩ : ByteArray).size := by rw [ByteArray.size_append, e1, e2]; omega
        have s2' : ¬ 9223372036854775807 < 1 + nm.size + 1 := by omega
        by_cases hc : (cwU S W i).length = 0
        · have hd : decide ((cwU S W i).length = 0) = true := decide_eq_true hc
          rw [hd]
          have s3 : ¬ 9223372036854775807 < (oK S l F W m i).size + (⟨#[32, 119, 104, 101, 114, 101]⟩ : ByteArray).size := by rw [e3]; omega
          have s3' : ¬ 9223372036854775807 < (oK S l F W m i).size + 6 := by omega
          have s4 : ¬ 9223372036854775807 < (oK S l F W m i ++ ⟨#[32, 119, 104, 101, 114, 101]⟩).size + ((⟨#[32]⟩ ++ nm) ++ ⟨#[61]⟩ : ByteArray).size := by simp only [ByteArray.size_append, e1, e2, e3]; omega
          have s4' : ¬ 9223372036854775807 < (oK S l F W m i).size + 6 + (1 + nm.size + 1) := by omega
          have hok := Lib.hid (oK_first (l := l) (F := F) (m := m) hc hsel.out)
          replace hc := Lib.hid hc
          replace hd := Lib.hid hd
          clear e1 e2 e3
          skip
          go_wp2_with fail
          refine (eLevels_any _ _ (by omega) x255).mono ?_
          rintro e w4 ⟨u4, rfl, ho4, hb4⟩
          obtain ⟨x4, n4, rfl, -, -⟩ := (OwR.of ho4).form
          have A4 := Lib.hid (Rd.of_own ho4)
          have hB4 : Below w2.heap.size w2 w4 := Below.via' hb hb4
          clear ho4 hb4
          have hsz := Lib.hid (show ((oK S l F W m i ++ ⟨#[32, 119, 104, 101, 114, 101]⟩) ++ ((⟨#[32]⟩ ++ nm) ++ ⟨#[61]⟩)).size ≤ 1000 from by simp only [ByteArray.size_append]; have e1 : (⟨#[32]⟩ : ByteArray).size = 1 := rfl; have e2 : (⟨#[61]⟩ : ByteArray).size = 1 := rfl; have e3 : (⟨#[32, 119, 104, 101, 114, 101]⟩ : ByteArray).size = 6 := rfl; omega)
          obtain ⟨bs, hbs⟩ : ∃ bs : ByteArray, bs = (oK S l F W m i ++ ⟨#[32, 119, 104, 101, 114, 101]⟩) ++ ((⟨#[32]⟩ ++ nm) ++ ⟨#[61]⟩) := ⟨_, rfl⟩
          rw [← hbs] at hsz ⊢
          replace hbs := Lib.hid hbs
          go_wp2
          go_loopw [5, 63] (fun q c wx => ∃ (n : Nat) (t : ByteArray), n ≤ (lvsL v').length ∧ c = .int .i64 n ∧ q = .string t ∧ Hid (t = bs ++ stM v' n) ∧ t.size ≤ 1100 ∧ Below w4.heap.size w4 wx) (fun _ c _ => (lvsL v').length - (intOf c).toNat)
          case atStart => exact ⟨0, bs, by omega, by go_num, rfl, (by unfold Hid; rw [stM_zero]; exact ByteArray.append_empty.symm), (by have := hsz.out; omega), Below.refl _ _⟩
          case round =>
            obtain ⟨n, t, hn, rfl, rfl, ht, htz, hbx⟩ := hrel
            by_cases hln : n < (lvsL v').length
            · obtain ⟨bl5, off5, lz, hx5, hbl5, hA, hc5⟩ := (A4.out.below hbx).int hln
              have hl := lvs_i64 v' lz (List.mem_of_getElem? hA)
              have hl1 := lvs_one (List.mem_of_getElem? hA)
              have hln' : (n : Int) < ((lvsL v').length : Int) := by omega
              have hn0 : (0 : Int) ≤ (n : Int) := by omega
              have hlvn := lvsL_len v'
              have k1 : (⟨#[44]⟩ : ByteArray).size = 1 := rfl
              have g1 : ¬ 9223372036854775807 < t.size + (⟨#[44]⟩ : ByteArray).size := by rw [k1]; omega
              have g2 : ¬ 9223372036854775807 < (t ++ ⟨#[44]⟩).size + (numZ lz).size := by rw [ByteArray.size_append, k1]; omega
              have g3 : ¬ 9223372036854775807 < t.size + 1 := by omega
              have g4 : ¬ 9223372036854775807 < t.size + 1 + (numZ lz).size := by omega
              have g5 : ¬ 9223372036854775807 < t.size + (numZ lz).size := by omega
              have hst := Lib.hid (stM_size v' (n + 1))
              clear k1
              have hx5h := Lib.hid hx5
              replace hl1 := Lib.hid hl1
              clear hx5
              rw [hx5h.out]
              rcases Nat.eq_zero_or_pos n with h0 | h0
              · have hnx : Hid (t ++ numZ lz = bs ++ stM v' (n + 1)) := by
                  unfold Hid
                  rw [ht.out]
                  subst h0
                  rw [stM_zero, stM_first hA]
                  congr 1 <;> exact ByteArray.append_empty
                have hgt : ¬ ((0 : Int) < (n : Int)) := by omega
                replace hA := Lib.hid hA
                replace h0 := Lib.hid h0
                go_wp2_with fail
                refine (l1Num_any 8 lz _ (by omega) (by omega) (by omega)).mono ?_
                rintro e w6 ⟨rfl, hb6⟩
                go_wp2
                go_roundw
                case rel => exact ⟨n + 1, _, by omega, by go_num, rfl, hnx.out, (by rw [hnx.out, ByteArray.size_append]; have := hst.out; have := hsz.out; omega), (by repeat (first | exact Below.refl _ _ | assumption | refine Below.drew ?_ | refine below_drewN ?_ _ | refine Below.alloc' ?_ _ | (refine Below.setCell ?_ (by first | omega | (simp; done) | (simp; omega) | exact Below.size (by assumption) | exact Nat.le_trans (Below.size (by assumption)) (by simp)) _) | (refine Below.via' ?_ (by assumption)) | (refine Below.alloc ?_ (by first | omega | (simp; done) | (simp; omega) | exact Below.size (by assumption) | exact Nat.le_trans (Below.size (by assumption)) (by simp)) _) | (refine Below.via ?_ (by assumption) (by first | omega | (simp; done) | (simp; omega) | exact Below.size (by assumption) | exact Nat.le_trans (Below.size (by assumption)) (by simp)))))⟩
                case measure => simp [intOf]; omega
              · have hnx : Hid (t ++ ⟨#[44]⟩ ++ numZ lz = bs ++ stM v' (n + 1)) := by
                  unfold Hid
                  rw [ht.out, stM_next h0 hA]
                  simp only [ByteArray.append_assoc]
                have hgt : (0 : Int) < (n : Int) := by omega
                replace hA := Lib.hid hA
                go_wp2_with fail
                refine (l1Num_any 8 lz _ (by omega) (by omega) (by omega)).mono ?_
                rintro e w6 ⟨rfl, hb6⟩
                go_wp2
                go_roundw
                case rel => exact ⟨n + 1, _, by omega, by go_num, rfl, hnx.out, (by rw [hnx.out, ByteArray.size_append]; have := hst.out; have := hsz.out; omega), (by repeat (first | exact Below.refl _ _ | assumption | refine Below.drew ?_ | refine below_drewN ?_ _ | refine Below.alloc' ?_ _ | (refine Below.setCell ?_ (by first | omega | (simp; done) | (simp; omega) | exact Below.size (by assumption) | exact Nat.le_trans (Below.size (by assumption)) (by simp)) _) | (refine Below.via' ?_ (by assumption)) | (refine Below.alloc ?_ (by first | omega | (simp; done) | (simp; omega) | exact Below.size (by assumption) | exact Nat.le_trans (Below.size (by assumption)) (by simp)) _) | (refine Below.via ?_ (by assumption) (by first | omega | (simp; done) | (simp; omega) | exact Below.size (by assumption) | exact Nat.le_trans (Below.size (by assumption)) (by simp)))))⟩
                case measure => simp [intOf]; omega
            · have hmm : n = (lvsL v').length := by omega
              have hfin : Hid (t = oK S l F W m (i + 1)) := by
                unfold Hid
                rw [ht.out, hmm, stM_all, hbs.out]
                exact (by rw [hok.out, hpa.out]; unfold paT; rw [show (⟨#[32, 119, 104, 101, 114, 101]⟩ : ByteArray) = ⟨#[32]⟩ ++ wWhere by decide]; simp only [ByteArray.append_assoc])
              have hfl := Lib.hid (show decide ((cwU S W (i + 1)).length = 0) = false from decide_eq_false (by rw [hsel.out]; simp))
              replace hmm := Lib.hid hmm
              have hln' : ¬ (n : Int) < ((lvsL v').length : Int) := by omega
              go_wp2
              go_roundw
              case rel =>
                first
                  | exact ⟨i + 1, by omega, by go_num, by rw [hfin.out], by rw [hfl.out], Below.via' hB4 hbx⟩
                  | (refine ⟨_, _, _, _, _, _, _, ⟨i + 1, by omega, ?_, ?_, ?_, Below.via' hB4 hbx⟩, rfl, rfl, rfl, rfl, rfl, rfl, rfl⟩ <;> first | (rw [hfin.out]; done) | (go_num; done) | (simp [hsel.out]; done))
              case measure => simp [intOf]; omega
        · have hd : decide ((cwU S W i).length = 0) = false := decide_eq_false hc
          rw [hd]
          have s4 : ¬ 9223372036854775807 < (oK S l F W m i).size + ((⟨#[32]⟩ ++ nm) ++ ⟨#[61]⟩ : ByteArray).size := by simp only [ByteArray.size_append, e1, e2]; omega
          have s4' : ¬ 9223372036854775807 < (oK S l F W m i).size + (1 + nm.size + 1) := by omega
          have hok := Lib.hid (oK_next (l := l) (F := F) (m := m) hc hsel.out)
          replace hc := Lib.hid hc
          replace hd := Lib.hid hd
          clear e1 e2 e3
          go_wp2_with fail
          refine (eLevels_any _ _ (by omega) x255).mono ?_
          rintro e w4 ⟨u4, rfl, ho4, hb4⟩
          obtain ⟨x4, n4, rfl, -, -⟩ := (OwR.of ho4).form
          have A4 := Lib.hid (Rd.of_own ho4)
          have hB4 : Below w2.heap.size w2 w4 := Below.via' hb hb4
          clear ho4 hb4
          have hsz := Lib.hid (show (oK S l F W m i ++ ((⟨#[32]⟩ ++ nm) ++ ⟨#[61]⟩)).size ≤ 1000 from by simp only [ByteArray.size_append]; have e1 : (⟨#[32]⟩ : ByteArray).size = 1 := rfl; have e2 : (⟨#[61]⟩ : ByteArray).size = 1 := rfl; have e3 : (⟨#[32, 119, 104, 101, 114, 101]⟩ : ByteArray).size = 6 := rfl; omega)
          obtain ⟨bs, hbs⟩ : ∃ bs : ByteArray, bs = oK S l F W m i ++ ((⟨#[32]⟩ ++ nm) ++ ⟨#[61]⟩) := ⟨_, rfl⟩
          rw [← hbs] at hsz ⊢
          replace hbs := Lib.hid hbs
          go_wp2
          go_loopw [5, 63] (fun q c wx => ∃ (n : Nat) (t : ByteArray), n ≤ (lvsL v').length ∧ c = .int .i64 n ∧ q = .string t ∧ Hid (t = bs ++ stM v' n) ∧ t.size ≤ 1100 ∧ Below w4.heap.size w4 wx) (fun _ c _ => (lvsL v').length - (intOf c).toNat)
          case atStart => exact ⟨0, bs, by omega, by go_num, rfl, (by unfold Hid; rw [stM_zero]; exact ByteArray.append_empty.symm), (by have := hsz.out; omega), Below.refl _ _⟩
          case round =>
            obtain ⟨n, t, hn, rfl, rfl, ht, htz, hbx⟩ := hrel
            by_cases hln : n < (lvsL v').length
            · obtain ⟨bl5, off5, lz, hx5, hbl5, hA, hc5⟩ := (A4.out.below hbx).int hln
              have hl := lvs_i64 v' lz (List.mem_of_getElem? hA)
              have hl1 := lvs_one (List.mem_of_getElem? hA)
              have hln' : (n : Int) < ((lvsL v').length : Int) := by omega
              have hn0 : (0 : Int) ≤ (n : Int) := by omega
              have hlvn := lvsL_len v'
              have k1 : (⟨#[44]⟩ : ByteArray).size = 1 := rfl
              have g1 : ¬ 9223372036854775807 < t.size + (⟨#[44]⟩ : ByteArray).size := by rw [k1]; omega
              have g2 : ¬ 9223372036854775807 < (t ++ ⟨#[44]⟩).size + (numZ lz).size := by rw [ByteArray.size_append, k1]; omega
              have g3 : ¬ 9223372036854775807 < t.size + 1 := by omega
              have g4 : ¬ 9223372036854775807 < t.size + 1 + (numZ lz).size := by omega
              have g5 : ¬ 9223372036854775807 < t.size + (numZ lz).size := by omega
              have hst := Lib.hid (stM_size v' (n + 1))
              clear k1
              have hx5h := Lib.hid hx5
              replace hl1 := Lib.hid hl1
              clear hx5
              rw [hx5h.out]
              rcases Nat.eq_zero_or_pos n with h0 | h0
              · have hnx : Hid (t ++ numZ lz = bs ++ stM v' (n + 1)) := by
                  unfold Hid
                  rw [ht.out]
                  subst h0
                  rw [stM_zero, stM_first hA]
                  congr 1 <;> exact ByteArray.append_empty
                have hgt : ¬ ((0 : Int) < (n : Int)) := by omega
                replace hA := Lib.hid hA
                replace h0 := Lib.hid h0
                go_wp2_with fail
                refine (l1Num_any 8 lz _ (by omega) (by omega) (by omega)).mono ?_
                rintro e w6 ⟨rfl, hb6⟩
                go_wp2
                go_roundw
                case rel => exact ⟨n + 1, _, by omega, by go_num, rfl, hnx.out, (by rw [hnx.out, ByteArray.size_append]; have := hst.out; have := hsz.out; omega), (by repeat (first | exact Below.refl _ _ | assumption | refine Below.drew ?_ | refine below_drewN ?_ _ | refine Below.alloc' ?_ _ | (refine Below.setCell ?_ (by first | omega | (simp; done) | (simp; omega) | exact Below.size (by assumption) | exact Nat.le_trans (Below.size (by assumption)) (by simp)) _) | (refine Below.via' ?_ (by assumption)) | (refine Below.alloc ?_ (by first | omega | (simp; done) | (simp; omega) | exact Below.size (by assumption) | exact Nat.le_trans (Below.size (by assumption)) (by simp)) _) | (refine Below.via ?_ (by assumption) (by first | omega | (simp; done) | (simp; omega) | exact Below.size (by assumption) | exact Nat.le_trans (Below.size (by assumption)) (by simp)))))⟩
                case measure => simp [intOf]; omega
              · have hnx : Hid (t ++ ⟨#[44]⟩ ++ numZ lz = bs ++ stM v' (n + 1)) := by
                  unfold Hid
                  rw [ht.out, stM_next h0 hA]
                  simp only [ByteArray.append_assoc]
                have hgt : (0 : Int) < (n : Int) := by omega
                replace hA := Lib.hid hA
                go_wp2_with fail
                refine (l1Num_any 8 lz _ (by omega) (by omega) (by omega)).mono ?_
                rintro e w6 ⟨rfl, hb6⟩
                go_wp2
                go_roundw
                case rel => exact ⟨n + 1, _, by omega, by go_num, rfl, hnx.out, (by rw [hnx.out, ByteArray.size_append]; have := hst.out; have := hsz.out; omega), (by repeat (first | exact Below.refl _ _ | assumption | refine Below.drew ?_ | refine below_drewN ?_ _ | refine Below.alloc' ?_ _ | (refine Below.setCell ?_ (by first | omega | (simp; done) | (simp; omega) | exact Below.size (by assumption) | exact Nat.le_trans (Below.size (by assumption)) (by simp)) _) | (refine Below.via' ?_ (by assumption)) | (refine Below.alloc ?_ (by first | omega | (simp; done) | (simp; omega) | exact Below.size (by assumption) | exact Nat.le_trans (Below.size (by assumption)) (by simp)) _) | (refine Below.via ?_ (by assumption) (by first | omega | (simp; done) | (simp; omega) | exact Below.size (by assumption) | exact Nat.le_trans (Below.size (by assumption)) (by simp)))))⟩
                case measure => simp [intOf]; omega
            · have hmm : n = (lvsL v').length := by omega
              have hfin : Hid (t = oK S l F W m (i + 1)) := by
                unfold Hid
                rw [ht.out, hmm, stM_all, hbs.out]
                exact (by rw [hok.out, hpa.out]; unfold paT; simp only [ByteArray.append_assoc])
              have hfl := Lib.hid (show decide ((cwU S W (i + 1)).length = 0) = false from decide_eq_false (by rw [hsel.out]; simp))
              replace hmm := Lib.hid hmm
              have hln' : ¬ (n : Int) < ((lvsL v').length : Int) := by omega
              go_wp2
              go_roundw
              case rel =>
                first
                  | exact ⟨i + 1, by omega, by go_num, by rw [hfin.out], by rw [hfl.out], Below.via' hB4 hbx⟩
                  | (refine ⟨_, _, _, _, _, _, _, ⟨i + 1, by omega, ?_, ?_, ?_, Below.via' hB4 hbx⟩, rfl, rfl, rfl, rfl, rfl, rfl, rfl⟩ <;> first | (rw [hfin.out]; done) | (go_num; done) | (simp [hsel.out]; done))
              case measure => simp [intOf]; omega
    · have hij : i = S.length := by have := hlW.out; omega
      have hv := Lib.hid (show oK S l F W m i = ttT S l F W m by rw [hij]; exact oK_all)
      have hi' : ¬ (i : Int) < (W.length : Int) := by omega
      replace hij := Lib.hid hij
      go_wp2
      go_ret
      exact ⟨by first | rfl | (rw [hv.out]; rfl) | (rw [hv.out, hmq.out]; rfl) | (rw [hv.out]; first | rfl | (rw [← hmq.out]; rfl)), hBr⟩
set_option maxHeartbeats 8000000 in
theorem nt01 (y x z : Option Addr) (c1 c2 c3 : Nat) (P : List Int) (S : List (ByteArray × Int)) (l : Int) (F W : List Int) (m : Int) (w : World) (htg : TgP P S l F W m) (hS : SIn w y c1 S) (hT : TIn w x z F W) (hm : Hid (m = -1)) (hF0 : Hid (F.length ≠ 0)) :
    Calls Tryd.prog 32 #[.slice y S.length c1, .agg #[.int .i64 l, .slice x F.length c2, .slice z W.length c3, .int .i64 m]] w fun e w' => e = .returned (.string (ttT S l F W m)) ∧ Below w.heap.size w w' := by
  have hSh := Lib.hid hS
  have hFh := Lib.hid hT.1
  have hWh := Lib.hid hT.2
  have hth := Lib.hid htg
  have hlv := tg_lv htg
  have h6 := (schB_len htg.s).2
  have hm1 := htg.m1
  have hm0 := htg.m0
  have hlW := Lib.hid (tw_len htg.w)
  have hz2 := oK_size htg (i := 0) (by omega)
  rw [oK_zero] at hz2
  have hnz := nsK_size htg.s htg.r F.length
  rw [nsK_all] at hnz
  have hnum := numZ_2 hlv.1 (by omega)
  clear hS hT htg
  have q0 := Lib.hid (TQ.new w l x F.length c2 z W.length c3 m 37)
  have hbA : Below w.heap.size w (w.alloc (.cells #[.int .i64 l, .slice x F.length c2, .slice z W.length c3, .int .i64 m] 37)) := (by repeat (first | exact Below.refl _ _ | assumption | refine Below.drew ?_ | refine below_drewN ?_ _ | refine Below.alloc' ?_ _ | (refine Below.setCell ?_ (by first | omega | (simp; done) | (simp; omega) | exact Below.size (by assumption) | exact Nat.le_trans (Below.size (by assumption)) (by simp)) _) | (refine Below.via' ?_ (by assumption)) | (refine Below.alloc ?_ (by first | omega | (simp; done) | (simp; omega) | exact Below.size (by assumption) | exact Nat.le_trans (Below.size (by assumption)) (by simp)) _) | (refine Below.via ?_ (by assumption) (by first | omega | (simp; done) | (simp; omega) | exact Below.size (by assumption) | exact Nat.le_trans (Below.size (by assumption)) (by simp)))))
  have hft : (0 : Int) < (F.length : Int) := by have := hF0.out; omega
  have hm2 : ¬ (0 : Int) ≤ m := by have := hm.out; omega
  have k7 : (⟨#[32, 108, 101, 118, 101, 108, 32]⟩ : ByteArray).size = 7 := rfl
  have k5 : (⟨#[99, 111, 117, 110, 116]⟩ : ByteArray).size = 5 := rfl
  have a1 : ¬ 9223372036854775807 < (⟨#[32, 108, 101, 118, 101, 108, 32]⟩ : ByteArray).size + (numZ l).size := by rw [k7]; omega
  have a1' : ¬ 9223372036854775807 < 7 + (numZ l).size := by omega
  have a2 : ¬ 9223372036854775807 < (⟨#[99, 111, 117, 110, 116]⟩ : ByteArray).size + (⟨#[32, 108, 101, 118, 101, 108, 32]⟩ ++ numZ l : ByteArray).size := by rw [ByteArray.size_append, k7, k5]; omega
  have a2' : ¬ 9223372036854775807 < 5 + (7 + (numZ l).size) := by omega
  have ho1 : (⟨#[99, 111, 117, 110, 116]⟩ : ByteArray) ++ (⟨#[32, 108, 101, 118, 101, 108, 32]⟩ ++ numZ l) = jnS 32 (tw1 S l m) := by rw [o0_no (S := S) hm.out]; exact o1_eq
  replace ho1 := Lib.hid ho1
  clear k7 k5
  obtain ⟨t0a, t0b, t0c, t0d, t0e⟩ := q0.out
  go_enter Tryd.func32, Tryd.ntmps32
  go_wp2_with fail
  refine (l1Num_any 30 l _ hlv.1 (by omega) (by omega)).mono ?_
  rintro e w1 ⟨rfl, hb1⟩
  have hB1 := Below.via' hbA hb1
  have tq1 := Lib.hid (q0.out.below hb1)
  clear q0 t0a t0b t0c t0d t0e
  obtain ⟨ta, tb, tc, td, te⟩ := tq1.out
  have ho2 := o2_eq (S := S) (l := l) (m := m) hF0.out
  have hz1 := congrArg ByteArray.size ho2
  have k4 : (⟨#[32, 98, 121, 32]⟩ : ByteArray).size = 4 := rfl
  simp only [ByteArray.size_append, k4] at hz1
  have a3 : ¬ 9223372036854775807 < (⟨#[32, 98, 121, 32]⟩ : ByteArray).size + (jnS 44 (nsL S F)).size := by rw [k4]; omega
  have a3' : ¬ 9223372036854775807 < 4 + (jnS 44 (nsL S F)).size := by omega
  have a4 : ¬ 9223372036854775807 < (jnS 32 (tw1 S l m)).size + (⟨#[32, 98, 121, 32]⟩ ++ jnS 44 (nsL S F) : ByteArray).size := by simp only [ByteArray.size_append, k4]; omega
  have a4' : ¬ 9223372036854775807 < (jnS 32 (tw1 S l m)).size + (4 + (jnS 44 (nsL S F)).size) := by omega
  replace ho2 := Lib.hid ho2
  replace hz1 := Lib.hid hz1
  clear k4
  go_wp2_with fail
  rw [ho1.out]
  refine (nNames_any _ _ _ _ S F _ hth.out.s hth.out.r (hSh.out.below hB1) (hFh.out.below hB1)).mono ?_
  rintro e w2 ⟨rfl, hb2⟩
  have hB2 := Below.via' hB1 hb2
  have tq2 := Lib.hid (tq1.out.below hb2)
  clear ta tb tc td te tq1 hb2
  obtain ⟨ta, tb, tc, td, te⟩ := tq2.out
  go_upto_region 7 with fail
  rw [ho2.out]
  clear ta tb tc td te
  obtain ⟨ta, tb, tc, td, te⟩ := tq2.out
  go_wp2
  go_loopw [5, 6, 41] (fun q f c wr => ∃ i : Nat, i ≤ W.length ∧ c = .int .i64 i ∧ q = .string (oK S l F W m i) ∧ f = .bool (decide ((cwU S W i).length = 0)) ∧ Below w2.heap.size w2 wr) (fun _ _ c _ => W.length - (intOf c).toNat)
  case atStart => exact ⟨0, by omega, by go_num, by rw [oK_zero], rfl, Below.refl _ _⟩
  case round =>
    obtain ⟨i, hi, rfl, rfl, rfl, hb⟩ := hrel
    have hBr := Below.via' hB2 hb
    by_cases hlt : i < W.length
    · obtain ⟨b1, o1, v', rfl, hb1, hWi, hc0⟩ := (hWh.out.below hBr).2.2.int hlt
      obtain ⟨nm', lv', hSi, l1, l2, x0, x1, x255⟩ := tw_get hth.out.s hth.out.w hWi
      have hiS : i < S.length := (List.getElem?_eq_some_iff.1 hSi).1
      obtain ⟨b2, o2, nm, lv, hy2, hb2, hSi2, hc1, hc2⟩ := (hSh.out.rd.below hBr).var hiS
      obtain ⟨rfl, rfl⟩ : nm = nm' ∧ lv = lv' := by
        have := Option.some.inj (hSi2.symm.trans hSi)
        injection this with a b
        exact ⟨a, b⟩
      first | subst hy2 | (injection hy2 with hy3; injection hy3 with hy4 hy5; subst hy4 hy5)
      have hcw := cwB_at hWi
      have hpa := Lib.hid (paS_at hSi hWi)
      have hns := name_size hth.out.s hSi
      have hos := oK_size hth.out (i := i) (by omega)
      have hi' : (i : Int) < (W.length : Int) := by omega
      have hi2 : (i : Int) < (S.length : Int) := by omega
      have hi0 : (0 : Int) ≤ (i : Int) := by omega
      replace hSi := Lib.hid hSi
      replace hSi2 := Lib.hid hSi2
      replace hWi := Lib.hid hWi
      by_cases hv0 : v' = 0
      · have hvb : (v' == 0) = true := by rw [hv0]; rfl
        have hsel := cwU_no (S := S) (hcw.trans (by rw [hv0]; rfl))
        have hok := Lib.hid (oK_same (l := l) (F := F) (m := m) hsel)
        replace hsel := Lib.hid hsel
        replace hv0 := Lib.hid hv0
        replace hcw := Lib.hid hcw
        go_wp2
        go_roundw
        case rel => exact ⟨i + 1, by omega, by go_num, by rw [hok.out], by rw [hsel.out], hb⟩
        case measure => simp [intOf]; omega
      · have hvb : (v' == 0) = false := by rw [beq_eq_false_iff_ne]; exact hv0
        have hsel := Lib.hid (cwU_yes (S := S) (hcw.trans (show (v' != 0) = true by simpa using hv0)))
        have x1' : 1 ≤ v' := by omega
        replace hv0 := Lib.hid hv0
        replace hcw := Lib.hid hcw
        have e1 : (⟨#[32]⟩ : ByteArray).size = 1 := rfl
        have e2 : (⟨#[61]⟩ : ByteArray).size = 1 := rfl
        have e3 : (⟨#[32, 119, 104, 101, 114, 101]⟩ : ByteArray).size = 6 := rfl
        have s1 : ¬ 9223372036854775807 < (⟨#[32]⟩ : ByteArray).size + nm.size := by rw [e1]; omega
        have s1' : ¬ 9223372036854775807 < 1 + nm.size := by omega
        have s2 : ¬ 9223372036854775807 < (⟨#[32]⟩ ++ nm : ByteArray).size + (⟨#[61]⟩ : ByteArray).size := by rw [ByteArray.size_append, e1, e2]; omega
        have s2' : ¬ 9223372036854775807 < 1 + nm.size + 1 := by omega
        by_cases hc : (cwU S W i).length = 0
        · have hd : decide ((cwU S W i).length = 0) = true := decide_eq_true hc
          rw [hd]
          have s3 : ¬ 9223372036854775807 < (oK S l F W m i).size + (⟨#[32, 119, 104, 101, 114, 101]⟩ : ByteArray).size := by rw [e3]; omega
          have s3' : ¬ 9223372036854775807 < (oK S l F W m i).size + 6 := by omega
          have s4 : ¬ 9223372036854775807 < (oK S l F W m i ++ ⟨#[32, 119, 104, 101, 114, 101]⟩).size + ((⟨#[32]⟩ ++ nm) ++ ⟨#[61]⟩ : ByteArray).size := by simp only [ByteArray.size_append, e1, e2, e3]; omega
          have s4' : ¬ 9223372036854775807 < (oK S l F W m i).size + 6 + (1 + nm.size + 1) := by omega
          have hok := Lib.hid (oK_first (l := l) (F := F) (m := m) hc hsel.out)
          replace hc := Lib.hid hc
          replace hd := Lib.hid hd
          clear e1 e2 e3
          skip
          go_wp2_with fail
          refine (eLevels_any _ _ (by omega) x255).mono ?_
          rintro e w4 ⟨u4, rfl, ho4, hb4⟩
          obtain ⟨x4, n4, rfl, -, -⟩ := (OwR.of ho4).form
          have A4 := Lib.hid (Rd.of_own ho4)
          have hB4 : Below w2.heap.size w2 w4 := Below.via' hb hb4
          clear ho4 hb4
          have hsz := Lib.hid (show ((oK S l F W m i ++ ⟨#[32, 119, 104, 101, 114, 101]⟩) ++ ((⟨#[32]⟩ ++ nm) ++ ⟨#[61]⟩)).size ≤ 1000 from by simp only [ByteArray.size_append]; have e1 : (⟨#[32]⟩ : ByteArray).size = 1 := rfl; have e2 : (⟨#[61]⟩ : ByteArray).size = 1 := rfl; have e3 : (⟨#[32, 119, 104, 101, 114, 101]⟩ : ByteArray).size = 6 := rfl; omega)
          obtain ⟨bs, hbs⟩ : ∃ bs : ByteArray, bs = (oK S l F W m i ++ ⟨#[32, 119, 104, 101, 114, 101]⟩) ++ ((⟨#[32]⟩ ++ nm) ++ ⟨#[61]⟩) := ⟨_, rfl⟩
          rw [← hbs] at hsz ⊢
          replace hbs := Lib.hid hbs
          go_wp2
          go_loopw [5, 63] (fun q c wx => ∃ (n : Nat) (t : ByteArray), n ≤ (lvsL v').length ∧ c = .int .i64 n ∧ q = .string t ∧ Hid (t = bs ++ stM v' n) ∧ t.size ≤ 1100 ∧ Below w4.heap.size w4 wx) (fun _ c _ => (lvsL v').length - (intOf c).toNat)
          case atStart => exact ⟨0, bs, by omega, by go_num, rfl, (by unfold Hid; rw [stM_zero]; exact ByteArray.append_empty.symm), (by have := hsz.out; omega), Below.refl _ _⟩
          case round =>
            obtain ⟨n, t, hn, rfl, rfl, ht, htz, hbx⟩ := hrel
            by_cases hln : n < (lvsL v').length
            · obtain ⟨bl5, off5, lz, hx5, hbl5, hA, hc5⟩ := (A4.out.below hbx).int hln
              have hl := lvs_i64 v' lz (List.mem_of_getElem? hA)
              have hl1 := lvs_one (List.mem_of_getElem? hA)
              have hln' : (n : Int) < ((lvsL v').length : Int) := by omega
              have hn0 : (0 : Int) ≤ (n : Int) := by omega
              have hlvn := lvsL_len v'
              have k1 : (⟨#[44]⟩ : ByteArray).size = 1 := rfl
              have g1 : ¬ 9223372036854775807 < t.size + (⟨#[44]⟩ : ByteArray).size := by rw [k1]; omega
              have g2 : ¬ 9223372036854775807 < (t ++ ⟨#[44]⟩).size + (numZ lz).size := by rw [ByteArray.size_append, k1]; omega
              have g3 : ¬ 9223372036854775807 < t.size + 1 := by omega
              have g4 : ¬ 9223372036854775807 < t.size + 1 + (numZ lz).size := by omega
              have g5 : ¬ 9223372036854775807 < t.size + (numZ lz).size := by omega
              have hst := Lib.hid (stM_size v' (n + 1))
              clear k1
              have hx5h := Lib.hid hx5
              replace hl1 := Lib.hid hl1
              clear hx5
              rw [hx5h.out]
              rcases Nat.eq_zero_or_pos n with h0 | h0
              · have hnx : Hid (t ++ numZ lz = bs ++ stM v' (n + 1)) := by
                  unfold Hid
                  rw [ht.out]
                  subst h0
                  rw [stM_zero, stM_first hA]
                  congr 1 <;> exact ByteArray.append_empty
                have hgt : ¬ ((0 : Int) < (n : Int)) := by omega
                replace hA := Lib.hid hA
                replace h0 := Lib.hid h0
                go_wp2_with fail
                refine (l1Num_any 8 lz _ (by omega) (by omega) (by omega)).mono ?_
                rintro e w6 ⟨rfl, hb6⟩
                go_wp2
                go_roundw
                case rel => exact ⟨n + 1, _, by omega, by go_num, rfl, hnx.out, (by rw [hnx.out, ByteArray.size_append]; have := hst.out; have := hsz.out; omega), (by repeat (first | exact Below.refl _ _ | assumption | refine Below.drew ?_ | refine below_drewN ?_ _ | refine Below.alloc' ?_ _ | (refine Below.setCell ?_ (by first | omega | (simp; done) | (simp; omega) | exact Below.size (by assumption) | exact Nat.le_trans (Below.size (by assumption)) (by simp)) _) | (refine Below.via' ?_ (by assumption)) | (refine Below.alloc ?_ (by first | omega | (simp; done) | (simp; omega) | exact Below.size (by assumption) | exact Nat.le_trans (Below.size (by assumption)) (by simp)) _) | (refine Below.via ?_ (by assumption) (by first | omega | (simp; done) | (simp; omega) | exact Below.size (by assumption) | exact Nat.le_trans (Below.size (by assumption)) (by simp)))))⟩
                case measure => simp [intOf]; omega
              · have hnx : Hid (t ++ ⟨#[44]⟩ ++ numZ lz = bs ++ stM v' (n + 1)) := by
                  unfold Hid
                  rw [ht.out, stM_next h0 hA]
                  simp only [ByteArray.append_assoc]
                have hgt : (0 : Int) < (n : Int) := by omega
                replace hA := Lib.hid hA
                go_wp2_with fail
                refine (l1Num_any 8 lz _ (by omega) (by omega) (by omega)).mono ?_
                rintro e w6 ⟨rfl, hb6⟩
                go_wp2
                go_roundw
                case rel => exact ⟨n + 1, _, by omega, by go_num, rfl, hnx.out, (by rw [hnx.out, ByteArray.size_append]; have := hst.out; have := hsz.out; omega), (by repeat (first | exact Below.refl _ _ | assumption | refine Below.drew ?_ | refine below_drewN ?_ _ | refine Below.alloc' ?_ _ | (refine Below.setCell ?_ (by first | omega | (simp; done) | (simp; omega) | exact Below.size (by assumption) | exact Nat.le_trans (Below.size (by assumption)) (by simp)) _) | (refine Below.via' ?_ (by assumption)) | (refine Below.alloc ?_ (by first | omega | (simp; done) | (simp; omega) | exact Below.size (by assumption) | exact Nat.le_trans (Below.size (by assumption)) (by simp)) _) | (refine Below.via ?_ (by assumption) (by first | omega | (simp; done) | (simp; omega) | exact Below.size (by assumption) | exact Nat.le_trans (Below.size (by assumption)) (by simp)))))⟩
                case measure => simp [intOf]; omega
            · have hmm : n = (lvsL v').length := by omega
              have hfin : Hid (t = oK S l F W m (i + 1)) := by
                unfold Hid
                rw [ht.out, hmm, stM_all, hbs.out]
                exact (by rw [hok.out, hpa.out]; unfold paT; rw [show (⟨#[32, 119, 104, 101, 114, 101]⟩ : ByteArray) = ⟨#[32]⟩ ++ wWhere by decide]; simp only [ByteArray.append_assoc])
              have hfl := Lib.hid (show decide ((cwU S W (i + 1)).length = 0) = false from decide_eq_false (by rw [hsel.out]; simp))
              replace hmm := Lib.hid hmm
              have hln' : ¬ (n : Int) < ((lvsL v').length : Int) := by omega
              go_wp2
              go_roundw
              case rel =>
                first
                  | exact ⟨i + 1, by omega, by go_num, by rw [hfin.out], by rw [hfl.out], Below.via' hB4 hbx⟩
                  | (refine ⟨_, _, _, _, _, _, _, ⟨i + 1, by omega, ?_, ?_, ?_, Below.via' hB4 hbx⟩, rfl, rfl, rfl, rfl, rfl, rfl, rfl⟩ <;> first | (rw [hfin.out]; done) | (go_num; done) | (simp [hsel.out]; done))
              case measure => simp [intOf]; omega
        · have hd : decide ((cwU S W i).length = 0) = false := decide_eq_false hc
          rw [hd]
          have s4 : ¬ 9223372036854775807 < (oK S l F W m i).size + ((⟨#[32]⟩ ++ nm) ++ ⟨#[61]⟩ : ByteArray).size := by simp only [ByteArray.size_append, e1, e2]; omega
          have s4' : ¬ 9223372036854775807 < (oK S l F W m i).size + (1 + nm.size + 1) := by omega
          have hok := Lib.hid (oK_next (l := l) (F := F) (m := m) hc hsel.out)
          replace hc := Lib.hid hc
          replace hd := Lib.hid hd
          clear e1 e2 e3
          go_wp2_with fail
          refine (eLevels_any _ _ (by omega) x255).mono ?_
          rintro e w4 ⟨u4, rfl, ho4, hb4⟩
          obtain ⟨x4, n4, rfl, -, -⟩ := (OwR.of ho4).form
          have A4 := Lib.hid (Rd.of_own ho4)
          have hB4 : Below w2.heap.size w2 w4 := Below.via' hb hb4
          clear ho4 hb4
          have hsz := Lib.hid (show (oK S l F W m i ++ ((⟨#[32]⟩ ++ nm) ++ ⟨#[61]⟩)).size ≤ 1000 from by simp only [ByteArray.size_append]; have e1 : (⟨#[32]⟩ : ByteArray).size = 1 := rfl; have e2 : (⟨#[61]⟩ : ByteArray).size = 1 := rfl; have e3 : (⟨#[32, 119, 104, 101, 114, 101]⟩ : ByteArray).size = 6 := rfl; omega)
          obtain ⟨bs, hbs⟩ : ∃ bs : ByteArray, bs = oK S l F W m i ++ ((⟨#[32]⟩ ++ nm) ++ ⟨#[61]⟩) := ⟨_, rfl⟩
          rw [← hbs] at hsz ⊢
          replace hbs := Lib.hid hbs
          go_wp2
          go_loopw [5, 63] (fun q c wx => ∃ (n : Nat) (t : ByteArray), n ≤ (lvsL v').length ∧ c = .int .i64 n ∧ q = .string t ∧ Hid (t = bs ++ stM v' n) ∧ t.size ≤ 1100 ∧ Below w4.heap.size w4 wx) (fun _ c _ => (lvsL v').length - (intOf c).toNat)
          case atStart => exact ⟨0, bs, by omega, by go_num, rfl, (by unfold Hid; rw [stM_zero]; exact ByteArray.append_empty.symm), (by have := hsz.out; omega), Below.refl _ _⟩
          case round =>
            obtain ⟨n, t, hn, rfl, rfl, ht, htz, hbx⟩ := hrel
            by_cases hln : n < (lvsL v').length
            · obtain ⟨bl5, off5, lz, hx5, hbl5, hA, hc5⟩ := (A4.out.below hbx).int hln
              have hl := lvs_i64 v' lz (List.mem_of_getElem? hA)
              have hl1 := lvs_one (List.mem_of_getElem? hA)
              have hln' : (n : Int) < ((lvsL v').length : Int) := by omega
              have hn0 : (0 : Int) ≤ (n : Int) := by omega
              have hlvn := lvsL_len v'
              have k1 : (⟨#[44]⟩ : ByteArray).size = 1 := rfl
              have g1 : ¬ 9223372036854775807 < t.size + (⟨#[44]⟩ : ByteArray).size := by rw [k1]; omega
              have g2 : ¬ 9223372036854775807 < (t ++ ⟨#[44]⟩).size + (numZ lz).size := by rw [ByteArray.size_append, k1]; omega
              have g3 : ¬ 9223372036854775807 < t.size + 1 := by omega
              have g4 : ¬ 9223372036854775807 < t.size + 1 + (numZ lz).size := by omega
              have g5 : ¬ 9223372036854775807 < t.size + (numZ lz).size := by omega
              have hst := Lib.hid (stM_size v' (n + 1))
              clear k1
              have hx5h := Lib.hid hx5
              replace hl1 := Lib.hid hl1
              clear hx5
              rw [hx5h.out]
              rcases Nat.eq_zero_or_pos n with h0 | h0
              · have hnx : Hid (t ++ numZ lz = bs ++ stM v' (n + 1)) := by
                  unfold Hid
                  rw [ht.out]
                  subst h0
                  rw [stM_zero, stM_first hA]
                  congr 1 <;> exact ByteArray.append_empty
                have hgt : ¬ ((0 : Int) < (n : Int)) := by omega
                replace hA := Lib.hid hA
                replace h0 := Lib.hid h0
                go_wp2_with fail
                refine (l1Num_any 8 lz _ (by omega) (by omega) (by omega)).mono ?_
                rintro e w6 ⟨rfl, hb6⟩
                go_wp2
                go_roundw
                case rel => exact ⟨n + 1, _, by omega, by go_num, rfl, hnx.out, (by rw [hnx.out, ByteArray.size_append]; have := hst.out; have := hsz.out; omega), (by repeat (first | exact Below.refl _ _ | assumption | refine Below.drew ?_ | refine below_drewN ?_ _ | refine Below.alloc' ?_ _ | (refine Below.setCell ?_ (by first | omega | (simp; done) | (simp; omega) | exact Below.size (by assumption) | exact Nat.le_trans (Below.size (by assumption)) (by simp)) _) | (refine Below.via' ?_ (by assumption)) | (refine Below.alloc ?_ (by first | omega | (simp; done) | (simp; omega) | exact Below.size (by assumption) | exact Nat.le_trans (Below.size (by assumption)) (by simp)) _) | (refine Below.via ?_ (by assumption) (by first | omega | (simp; done) | (simp; omega) | exact Below.size (by assumption) | exact Nat.le_trans (Below.size (by assumption)) (by simp)))))⟩
                case measure => simp [intOf]; omega
              · have hnx : Hid (t ++ ⟨#[44]⟩ ++ numZ lz = bs ++ stM v' (n + 1)) := by
                  unfold Hid
                  rw [ht.out, stM_next h0 hA]
                  simp only [ByteArray.append_assoc]
                have hgt : (0 : Int) < (n : Int) := by omega
                replace hA := Lib.hid hA
                go_wp2_with fail
                refine (l1Num_any 8 lz _ (by omega) (by omega) (by omega)).mono ?_
                rintro e w6 ⟨rfl, hb6⟩
                go_wp2
                go_roundw
                case rel => exact ⟨n + 1, _, by omega, by go_num, rfl, hnx.out, (by rw [hnx.out, ByteArray.size_append]; have := hst.out; have := hsz.out; omega), (by repeat (first | exact Below.refl _ _ | assumption | refine Below.drew ?_ | refine below_drewN ?_ _ | refine Below.alloc' ?_ _ | (refine Below.setCell ?_ (by first | omega | (simp; done) | (simp; omega) | exact Below.size (by assumption) | exact Nat.le_trans (Below.size (by assumption)) (by simp)) _) | (refine Below.via' ?_ (by assumption)) | (refine Below.alloc ?_ (by first | omega | (simp; done) | (simp; omega) | exact Below.size (by assumption) | exact Nat.le_trans (Below.size (by assumption)) (by simp)) _) | (refine Below.via ?_ (by assumption) (by first | omega | (simp; done) | (simp; omega) | exact Below.size (by assumption) | exact Nat.le_trans (Below.size (by assumption)) (by simp)))))⟩
                case measure => simp [intOf]; omega
            · have hmm : n = (lvsL v').length := by omega
              have hfin : Hid (t = oK S l F W m (i + 1)) := by
                unfold Hid
                rw [ht.out, hmm, stM_all, hbs.out]
                exact (by rw [hok.out, hpa.out]; unfold paT; simp only [ByteArray.append_assoc])
              have hfl := Lib.hid (show decide ((cwU S W (i + 1)).length = 0) = false from decide_eq_false (by rw [hsel.out]; simp))
              replace hmm := Lib.hid hmm
              have hln' : ¬ (n : Int) < ((lvsL v').length : Int) := by omega
              go_wp2
              go_roundw
              case rel =>
                first
                  | exact ⟨i + 1, by omega, by go_num, by rw [hfin.out], by rw [hfl.out], Below.via' hB4 hbx⟩
                  | (refine ⟨_, _, _, _, _, _, _, ⟨i + 1, by omega, ?_, ?_, ?_, Below.via' hB4 hbx⟩, rfl, rfl, rfl, rfl, rfl, rfl, rfl⟩ <;> first | (rw [hfin.out]; done) | (go_num; done) | (simp [hsel.out]; done))
              case measure => simp [intOf]; omega
    · have hij : i = S.length := by have := hlW.out; omega
      have hv := Lib.hid (show oK S l F W m i = ttT S l F W m by rw [hij]; exact oK_all)
      have hi' : ¬ (i : Int) < (W.length : Int) := by omega
      replace hij := Lib.hid hij
      go_wp2
      go_ret
      exact ⟨by first | rfl | (rw [hv.out]; rfl) | (rw [hv.out, hmq.out]; rfl) | (rw [hv.out]; first | rfl | (rw [← hmq.out]; rfl)), hBr⟩
set_option maxHeartbeats 8000000 in
theorem nt10 (y x z : Option Addr) (c1 c2 c3 : Nat) (P : List Int) (S : List (ByteArray × Int)) (l : Int) (F W : List Int) (m : Int) (w : World) (htg : TgP P S l F W m) (hS : SIn w y c1 S) (hT : TIn w x z F W) (hm : Hid (m ≠ -1)) (hF0 : Hid (F.length = 0)) :
    Calls Tryd.prog 32 #[.slice y S.length c1, .agg #[.int .i64 l, .slice x F.length c2, .slice z W.length c3, .int .i64 m]] w fun e w' => e = .returned (.string (ttT S l F W m)) ∧ Below w.heap.size w w' := by
  have hSh := Lib.hid hS
  have hFh := Lib.hid hT.1
  have hWh := Lib.hid hT.2
  have hth := Lib.hid htg
  have hlv := tg_lv htg
  have h6 := (schB_len htg.s).2
  have hm1 := htg.m1
  have hm0 := htg.m0
  have hlW := Lib.hid (tw_len htg.w)
  have hz2 := oK_size htg (i := 0) (by omega)
  rw [oK_zero] at hz2
  have hnz := nsK_size htg.s htg.r F.length
  rw [nsK_all] at hnz
  have hnum := numZ_2 hlv.1 (by omega)
  clear hS hT htg
  have q0 := Lib.hid (TQ.new w l x F.length c2 z W.length c3 m 37)
  have hbA : Below w.heap.size w (w.alloc (.cells #[.int .i64 l, .slice x F.length c2, .slice z W.length c3, .int .i64 m] 37)) := (by repeat (first | exact Below.refl _ _ | assumption | refine Below.drew ?_ | refine below_drewN ?_ _ | refine Below.alloc' ?_ _ | (refine Below.setCell ?_ (by first | omega | (simp; done) | (simp; omega) | exact Below.size (by assumption) | exact Nat.le_trans (Below.size (by assumption)) (by simp)) _) | (refine Below.via' ?_ (by assumption)) | (refine Below.alloc ?_ (by first | omega | (simp; done) | (simp; omega) | exact Below.size (by assumption) | exact Nat.le_trans (Below.size (by assumption)) (by simp)) _) | (refine Below.via ?_ (by assumption) (by first | omega | (simp; done) | (simp; omega) | exact Below.size (by assumption) | exact Nat.le_trans (Below.size (by assumption)) (by simp)))))
  have hft : ¬ (0 : Int) < (F.length : Int) := by have := hF0.out; omega
  obtain ⟨q, rfl⟩ := Int.eq_ofNat_of_zero_le (show 0 ≤ m by have := hm.out; omega)
  obtain ⟨b9, o9, nm, lv9, rfl, hb9, hSq, hk0, hk1⟩ := hSh.out.rd.var (i := q) (by omega)
  have hnq := naA_at hSq
  have hqt : ((q : Nat) : Int).toNat = q := Int.toNat_natCast q
  have hq0 : (0 : Int) ≤ (q : Int) := by omega
  have hq1 : (q : Int) < (S.length : Int) := by omega
  have hns9 := name_size hth.out.s hSq
  have k7 : (⟨#[32, 108, 101, 118, 101, 108, 32]⟩ : ByteArray).size = 7 := rfl
  have k4 : (⟨#[115, 117, 109, 32]⟩ : ByteArray).size = 4 := rfl
  have a0 : ¬ 9223372036854775807 < (⟨#[115, 117, 109, 32]⟩ : ByteArray).size + nm.size := by rw [k4]; omega
  have a0' : ¬ 9223372036854775807 < 4 + nm.size := by omega
  have a1 : ¬ 9223372036854775807 < (⟨#[32, 108, 101, 118, 101, 108, 32]⟩ : ByteArray).size + (numZ l).size := by rw [k7]; omega
  have a1' : ¬ 9223372036854775807 < 7 + (numZ l).size := by omega
  have a2 : ¬ 9223372036854775807 < (⟨#[115, 117, 109, 32]⟩ ++ nm : ByteArray).size + (⟨#[32, 108, 101, 118, 101, 108, 32]⟩ ++ numZ l : ByteArray).size := by simp only [ByteArray.size_append, k7, k4]; omega
  have a2' : ¬ 9223372036854775807 < 4 + nm.size + (7 + (numZ l).size) := by omega
  have ho1 : ((⟨#[115, 117, 109, 32]⟩ : ByteArray) ++ nm) ++ (⟨#[32, 108, 101, 118, 101, 108, 32]⟩ ++ numZ l) = jnS 32 (tw1 S l (q : Int)) := by rw [o0_yes (S := S) hm.out (by rw [hqt]; exact hnq)]; exact o1_eq
  replace ho1 := Lib.hid ho1
  replace hSq := Lib.hid hSq
  replace hnq := Lib.hid hnq
  replace hqt := Lib.hid hqt
  clear k7 k4
  obtain ⟨t0a, t0b, t0c, t0d, t0e⟩ := q0.out
  go_enter Tryd.func32, Tryd.ntmps32
  go_wp2_with fail
  refine (l1Num_any 30 l _ hlv.1 (by omega) (by omega)).mono ?_
  rintro e w1 ⟨rfl, hb1⟩
  have hB1 := Below.via' hbA hb1
  have tq1 := Lib.hid (q0.out.below hb1)
  clear q0 t0a t0b t0c t0d t0e
  obtain ⟨m, hmq⟩ : ∃ m : Int, m = (q : Int) := ⟨_, rfl⟩
  rw [← hmq] at tq1 hth ho1 hz2 ⊢
  replace hmq := Lib.hid hmq
  obtain ⟨ta, tb, tc, td, te⟩ := tq1.out
  have ho2 := Lib.hid (show jnS 32 (tw1 S l m) = jnS 32 (tw2 S l F m) by rw [tw2_no hF0.out])
  go_upto_region 7 with fail
  rw [ho1.out, ho2.out]
  obtain ⟨w2, hw2⟩ : ∃ w2, w2 = w1 := ⟨_, rfl⟩
  rw [← hw2] at tq1 hB1 ⊢
  have tq2 := tq1
  have hB2 := hB1
  clear ta tb tc td te tq1 hw2 hb1
  obtain ⟨ta, tb, tc, td, te⟩ := tq2.out
  go_wp2
  go_loopw [5, 6, 41] (fun q f c wr => ∃ i : Nat, i ≤ W.length ∧ c = .int .i64 i ∧ q = .string (oK S l F W m i) ∧ f = .bool (decide ((cwU S W i).length = 0)) ∧ Below w2.heap.size w2 wr) (fun _ _ c _ => W.length - (intOf c).toNat)
  case atStart => exact ⟨0, by omega, by go_num, by rw [oK_zero], rfl, Below.refl _ _⟩
  case round =>
    obtain ⟨i, hi, rfl, rfl, rfl, hb⟩ := hrel
    have hBr := Below.via' hB2 hb
    by_cases hlt : i < W.length
    · obtain ⟨b1, o1, v', rfl, hb1, hWi, hc0⟩ := (hWh.out.below hBr).2.2.int hlt
      obtain ⟨nm', lv', hSi, l1, l2, x0, x1, x255⟩ := tw_get hth.out.s hth.out.w hWi
      have hiS : i < S.length := (List.getElem?_eq_some_iff.1 hSi).1
      obtain ⟨b2, o2, nm, lv, hy2, hb2, hSi2, hc1, hc2⟩ := (hSh.out.rd.below hBr).var hiS
      obtain ⟨rfl, rfl⟩ : nm = nm' ∧ lv = lv' := by
        have := Option.some.inj (hSi2.symm.trans hSi)
        injection this with a b
        exact ⟨a, b⟩
      first | subst hy2 | (injection hy2 with hy3; injection hy3 with hy4 hy5; subst hy4 hy5)
      have hcw := cwB_at hWi
      have hpa := Lib.hid (paS_at hSi hWi)
      have hns := name_size hth.out.s hSi
      have hos := oK_size hth.out (i := i) (by omega)
      have hi' : (i : Int) < (W.length : Int) := by omega
      have hi2 : (i : Int) < (S.length : Int) := by omega
      have hi0 : (0 : Int) ≤ (i : Int) := by omega
      replace hSi := Lib.hid hSi
      replace hSi2 := Lib.hid hSi2
      replace hWi := Lib.hid hWi
      by_cases hv0 : v' = 0
      · have hvb : (v' == 0) = true := by rw [hv0]; rfl
        have hsel := cwU_no (S := S) (hcw.trans (by rw [hv0]; rfl))
        have hok := Lib.hid (oK_same (l := l) (F := F) (m := m) hsel)
        replace hsel := Lib.hid hsel
        replace hv0 := Lib.hid hv0
        replace hcw := Lib.hid hcw
        go_wp2
        go_roundw
        case rel => exact ⟨i + 1, by omega, by go_num, by rw [hok.out], by rw [hsel.out], hb⟩
        case measure => simp [intOf]; omega
      · have hvb : (v' == 0) = false := by rw [beq_eq_false_iff_ne]; exact hv0
        have hsel := Lib.hid (cwU_yes (S := S) (hcw.trans (show (v' != 0) = true by simpa using hv0)))
        have x1' : 1 ≤ v' := by omega
        replace hv0 := Lib.hid hv0
        replace hcw := Lib.hid hcw
        have e1 : (⟨#[32]⟩ : ByteArray).size = 1 := rfl
        have e2 : (⟨#[61]⟩ : ByteArray).size = 1 := rfl
        have e3 : (⟨#[32, 119, 104, 101, 114, 101]⟩ : ByteArray).size = 6 := rfl
        have s1 : ¬ 9223372036854775807 < (⟨#[32]⟩ : ByteArray).size + nm.size := by rw [e1]; omega
        have s1' : ¬ 9223372036854775807 < 1 + nm.size := by omega
        have s2 : ¬ 9223372036854775807 < (⟨#[32]⟩ ++ nm : ByteArray).size + (⟨#[61]⟩ : ByteArray).size := by rw [ByteArray.size_append, e1, e2]; omega
        have s2' : ¬ 9223372036854775807 < 1 + nm.size + 1 := by omega
        by_cases hc : (cwU S W i).length = 0
        · have hd : decide ((cwU S W i).length = 0) = true := decide_eq_true hc
          rw [hd]
          have s3 : ¬ 9223372036854775807 < (oK S l F W m i).size + (⟨#[32, 119, 104, 101, 114, 101]⟩ : ByteArray).size := by rw [e3]; omega
          have s3' : ¬ 9223372036854775807 < (oK S l F W m i).size + 6 := by omega
          have s4 : ¬ 9223372036854775807 < (oK S l F W m i ++ ⟨#[32, 119, 104, 101, 114, 101]⟩).size + ((⟨#[32]⟩ ++ nm) ++ ⟨#[61]⟩ : ByteArray).size := by simp only [ByteArray.size_append, e1, e2, e3]; omega
          have s4' : ¬ 9223372036854775807 < (oK S l F W m i).size + 6 + (1 + nm.size + 1) := by omega
          have hok := Lib.hid (oK_first (l := l) (F := F) (m := m) hc hsel.out)
          replace hc := Lib.hid hc
          replace hd := Lib.hid hd
          clear e1 e2 e3
          skip
          go_wp2_with fail
          refine (eLevels_any _ _ (by omega) x255).mono ?_
          rintro e w4 ⟨u4, rfl, ho4, hb4⟩
          obtain ⟨x4, n4, rfl, -, -⟩ := (OwR.of ho4).form
          have A4 := Lib.hid (Rd.of_own ho4)
          have hB4 : Below w2.heap.size w2 w4 := Below.via' hb hb4
          clear ho4 hb4
          have hsz := Lib.hid (show ((oK S l F W m i ++ ⟨#[32, 119, 104, 101, 114, 101]⟩) ++ ((⟨#[32]⟩ ++ nm) ++ ⟨#[61]⟩)).size ≤ 1000 from by simp only [ByteArray.size_append]; have e1 : (⟨#[32]⟩ : ByteArray).size = 1 := rfl; have e2 : (⟨#[61]⟩ : ByteArray).size = 1 := rfl; have e3 : (⟨#[32, 119, 104, 101, 114, 101]⟩ : ByteArray).size = 6 := rfl; omega)
          obtain ⟨bs, hbs⟩ : ∃ bs : ByteArray, bs = (oK S l F W m i ++ ⟨#[32, 119, 104, 101, 114, 101]⟩) ++ ((⟨#[32]⟩ ++ nm) ++ ⟨#[61]⟩) := ⟨_, rfl⟩
          rw [← hbs] at hsz ⊢
          replace hbs := Lib.hid hbs
          go_wp2
          go_loopw [5, 63] (fun q c wx => ∃ (n : Nat) (t : ByteArray), n ≤ (lvsL v').length ∧ c = .int .i64 n ∧ q = .string t ∧ Hid (t = bs ++ stM v' n) ∧ t.size ≤ 1100 ∧ Below w4.heap.size w4 wx) (fun _ c _ => (lvsL v').length - (intOf c).toNat)
          case atStart => exact ⟨0, bs, by omega, by go_num, rfl, (by unfold Hid; rw [stM_zero]; exact ByteArray.append_empty.symm), (by have := hsz.out; omega), Below.refl _ _⟩
          case round =>
            obtain ⟨n, t, hn, rfl, rfl, ht, htz, hbx⟩ := hrel
            by_cases hln : n < (lvsL v').length
            · obtain ⟨bl5, off5, lz, hx5, hbl5, hA, hc5⟩ := (A4.out.below hbx).int hln
              have hl := lvs_i64 v' lz (List.mem_of_getElem? hA)
              have hl1 := lvs_one (List.mem_of_getElem? hA)
              have hln' : (n : Int) < ((lvsL v').length : Int) := by omega
              have hn0 : (0 : Int) ≤ (n : Int) := by omega
              have hlvn := lvsL_len v'
              have k1 : (⟨#[44]⟩ : ByteArray).size = 1 := rfl
              have g1 : ¬ 9223372036854775807 < t.size + (⟨#[44]⟩ : ByteArray).size := by rw [k1]; omega
              have g2 : ¬ 9223372036854775807 < (t ++ ⟨#[44]⟩).size + (numZ lz).size := by rw [ByteArray.size_append, k1]; omega
              have g3 : ¬ 9223372036854775807 < t.size + 1 := by omega
              have g4 : ¬ 9223372036854775807 < t.size + 1 + (numZ lz).size := by omega
              have g5 : ¬ 9223372036854775807 < t.size + (numZ lz).size := by omega
              have hst := Lib.hid (stM_size v' (n + 1))
              clear k1
              have hx5h := Lib.hid hx5
              replace hl1 := Lib.hid hl1
              clear hx5
              rw [hx5h.out]
              rcases Nat.eq_zero_or_pos n with h0 | h0
              · have hnx : Hid (t ++ numZ lz = bs ++ stM v' (n + 1)) := by
                  unfold Hid
                  rw [ht.out]
                  subst h0
                  rw [stM_zero, stM_first hA]
                  congr 1 <;> exact ByteArray.append_empty
                have hgt : ¬ ((0 : Int) < (n : Int)) := by omega
                replace hA := Lib.hid hA
                replace h0 := Lib.hid h0
                go_wp2_with fail
                refine (l1Num_any 8 lz _ (by omega) (by omega) (by omega)).mono ?_
                rintro e w6 ⟨rfl, hb6⟩
                go_wp2
                go_roundw
                case rel => exact ⟨n + 1, _, by omega, by go_num, rfl, hnx.out, (by rw [hnx.out, ByteArray.size_append]; have := hst.out; have := hsz.out; omega), (by repeat (first | exact Below.refl _ _ | assumption | refine Below.drew ?_ | refine below_drewN ?_ _ | refine Below.alloc' ?_ _ | (refine Below.setCell ?_ (by first | omega | (simp; done) | (simp; omega) | exact Below.size (by assumption) | exact Nat.le_trans (Below.size (by assumption)) (by simp)) _) | (refine Below.via' ?_ (by assumption)) | (refine Below.alloc ?_ (by first | omega | (simp; done) | (simp; omega) | exact Below.size (by assumption) | exact Nat.le_trans (Below.size (by assumption)) (by simp)) _) | (refine Below.via ?_ (by assumption) (by first | omega | (simp; done) | (simp; omega) | exact Below.size (by assumption) | exact Nat.le_trans (Below.size (by assumption)) (by simp)))))⟩
                case measure => simp [intOf]; omega
              · have hnx : Hid (t ++ ⟨#[44]⟩ ++ numZ lz = bs ++ stM v' (n + 1)) := by
                  unfold Hid
                  rw [ht.out, stM_next h0 hA]
                  simp only [ByteArray.append_assoc]
                have hgt : (0 : Int) < (n : Int) := by omega
                replace hA := Lib.hid hA
                go_wp2_with fail
                refine (l1Num_any 8 lz _ (by omega) (by omega) (by omega)).mono ?_
                rintro e w6 ⟨rfl, hb6⟩
                go_wp2
                go_roundw
                case rel => exact ⟨n + 1, _, by omega, by go_num, rfl, hnx.out, (by rw [hnx.out, ByteArray.size_append]; have := hst.out; have := hsz.out; omega), (by repeat (first | exact Below.refl _ _ | assumption | refine Below.drew ?_ | refine below_drewN ?_ _ | refine Below.alloc' ?_ _ | (refine Below.setCell ?_ (by first | omega | (simp; done) | (simp; omega) | exact Below.size (by assumption) | exact Nat.le_trans (Below.size (by assumption)) (by simp)) _) | (refine Below.via' ?_ (by assumption)) | (refine Below.alloc ?_ (by first | omega | (simp; done) | (simp; omega) | exact Below.size (by assumption) | exact Nat.le_trans (Below.size (by assumption)) (by simp)) _) | (refine Below.via ?_ (by assumption) (by first | omega | (simp; done) | (simp; omega) | exact Below.size (by assumption) | exact Nat.le_trans (Below.size (by assumption)) (by simp)))))⟩
                case measure => simp [intOf]; omega
            · have hmm : n = (lvsL v').length := by omega
              have hfin : Hid (t = oK S l F W m (i + 1)) := by
                unfold Hid
                rw [ht.out, hmm, stM_all, hbs.out]
                exact (by rw [hok.out, hpa.out]; unfold paT; rw [show (⟨#[32, 119, 104, 101, 114, 101]⟩ : ByteArray) = ⟨#[32]⟩ ++ wWhere by decide]; simp only [ByteArray.append_assoc])
              have hfl := Lib.hid (show decide ((cwU S W (i + 1)).length = 0) = false from decide_eq_false (by rw [hsel.out]; simp))
              replace hmm := Lib.hid hmm
              have hln' : ¬ (n : Int) < ((lvsL v').length : Int) := by omega
              go_wp2
              go_roundw
              case rel =>
                first
                  | exact ⟨i + 1, by omega, by go_num, by rw [hfin.out], by rw [hfl.out], Below.via' hB4 hbx⟩
                  | (refine ⟨_, _, _, _, _, _, _, ⟨i + 1, by omega, ?_, ?_, ?_, Below.via' hB4 hbx⟩, rfl, rfl, rfl, rfl, rfl, rfl, rfl⟩ <;> first | (rw [hfin.out]; done) | (go_num; done) | (simp [hsel.out]; done))
              case measure => simp [intOf]; omega
        · have hd : decide ((cwU S W i).length = 0) = false := decide_eq_false hc
          rw [hd]
          have s4 : ¬ 9223372036854775807 < (oK S l F W m i).size + ((⟨#[32]⟩ ++ nm) ++ ⟨#[61]⟩ : ByteArray).size := by simp only [ByteArray.size_append, e1, e2]; omega
          have s4' : ¬ 9223372036854775807 < (oK S l F W m i).size + (1 + nm.size + 1) := by omega
          have hok := Lib.hid (oK_next (l := l) (F := F) (m := m) hc hsel.out)
          replace hc := Lib.hid hc
          replace hd := Lib.hid hd
          clear e1 e2 e3
          go_wp2_with fail
          refine (eLevels_any _ _ (by omega) x255).mono ?_
          rintro e w4 ⟨u4, rfl, ho4, hb4⟩
          obtain ⟨x4, n4, rfl, -, -⟩ := (OwR.of ho4).form
          have A4 := Lib.hid (Rd.of_own ho4)
          have hB4 : Below w2.heap.size w2 w4 := Below.via' hb hb4
          clear ho4 hb4
          have hsz := Lib.hid (show (oK S l F W m i ++ ((⟨#[32]⟩ ++ nm) ++ ⟨#[61]⟩)).size ≤ 1000 from by simp only [ByteArray.size_append]; have e1 : (⟨#[32]⟩ : ByteArray).size = 1 := rfl; have e2 : (⟨#[61]⟩ : ByteArray).size = 1 := rfl; have e3 : (⟨#[32, 119, 104, 101, 114, 101]⟩ : ByteArray).size = 6 := rfl; omega)
          obtain ⟨bs, hbs⟩ : ∃ bs : ByteArray, bs = oK S l F W m i ++ ((⟨#[32]⟩ ++ nm) ++ ⟨#[61]⟩) := ⟨_, rfl⟩
          rw [← hbs] at hsz ⊢
          replace hbs := Lib.hid hbs
          go_wp2
          go_loopw [5, 63] (fun q c wx => ∃ (n : Nat) (t : ByteArray), n ≤ (lvsL v').length ∧ c = .int .i64 n ∧ q = .string t ∧ Hid (t = bs ++ stM v' n) ∧ t.size ≤ 1100 ∧ Below w4.heap.size w4 wx) (fun _ c _ => (lvsL v').length - (intOf c).toNat)
          case atStart => exact ⟨0, bs, by omega, by go_num, rfl, (by unfold Hid; rw [stM_zero]; exact ByteArray.append_empty.symm), (by have := hsz.out; omega), Below.refl _ _⟩
          case round =>
            obtain ⟨n, t, hn, rfl, rfl, ht, htz, hbx⟩ := hrel
            by_cases hln : n < (lvsL v').length
            · obtain ⟨bl5, off5, lz, hx5, hbl5, hA, hc5⟩ := (A4.out.below hbx).int hln
              have hl := lvs_i64 v' lz (List.mem_of_getElem? hA)
              have hl1 := lvs_one (List.mem_of_getElem? hA)
              have hln' : (n : Int) < ((lvsL v').length : Int) := by omega
              have hn0 : (0 : Int) ≤ (n : Int) := by omega
              have hlvn := lvsL_len v'
              have k1 : (⟨#[44]⟩ : ByteArray).size = 1 := rfl
              have g1 : ¬ 9223372036854775807 < t.size + (⟨#[44]⟩ : ByteArray).size := by rw [k1]; omega
              have g2 : ¬ 9223372036854775807 < (t ++ ⟨#[44]⟩).size + (numZ lz).size := by rw [ByteArray.size_append, k1]; omega
              have g3 : ¬ 9223372036854775807 < t.size + 1 := by omega
              have g4 : ¬ 9223372036854775807 < t.size + 1 + (numZ lz).size := by omega
              have g5 : ¬ 9223372036854775807 < t.size + (numZ lz).size := by omega
              have hst := Lib.hid (stM_size v' (n + 1))
              clear k1
              have hx5h := Lib.hid hx5
              replace hl1 := Lib.hid hl1
              clear hx5
              rw [hx5h.out]
              rcases Nat.eq_zero_or_pos n with h0 | h0
              · have hnx : Hid (t ++ numZ lz = bs ++ stM v' (n + 1)) := by
                  unfold Hid
                  rw [ht.out]
                  subst h0
                  rw [stM_zero, stM_first hA]
                  congr 1 <;> exact ByteArray.append_empty
                have hgt : ¬ ((0 : Int) < (n : Int)) := by omega
                replace hA := Lib.hid hA
                replace h0 := Lib.hid h0
                go_wp2_with fail
                refine (l1Num_any 8 lz _ (by omega) (by omega) (by omega)).mono ?_
                rintro e w6 ⟨rfl, hb6⟩
                go_wp2
                go_roundw
                case rel => exact ⟨n + 1, _, by omega, by go_num, rfl, hnx.out, (by rw [hnx.out, ByteArray.size_append]; have := hst.out; have := hsz.out; omega), (by repeat (first | exact Below.refl _ _ | assumption | refine Below.drew ?_ | refine below_drewN ?_ _ | refine Below.alloc' ?_ _ | (refine Below.setCell ?_ (by first | omega | (simp; done) | (simp; omega) | exact Below.size (by assumption) | exact Nat.le_trans (Below.size (by assumption)) (by simp)) _) | (refine Below.via' ?_ (by assumption)) | (refine Below.alloc ?_ (by first | omega | (simp; done) | (simp; omega) | exact Below.size (by assumption) | exact Nat.le_trans (Below.size (by assumption)) (by simp)) _) | (refine Below.via ?_ (by assumption) (by first | omega | (simp; done) | (simp; omega) | exact Below.size (by assumption) | exact Nat.le_trans (Below.size (by assumption)) (by simp)))))⟩
                case measure => simp [intOf]; omega
              · have hnx : Hid (t ++ ⟨#[44]⟩ ++ numZ lz = bs ++ stM v' (n + 1)) := by
                  unfold Hid
                  rw [ht.out, stM_next h0 hA]
                  simp only [ByteArray.append_assoc]
                have hgt : (0 : Int) < (n : Int) := by omega
                replace hA := Lib.hid hA
                go_wp2_with fail
                refine (l1Num_any 8 lz _ (by omega) (by omega) (by omega)).mono ?_
                rintro e w6 ⟨rfl, hb6⟩
                go_wp2
                go_roundw
                case rel => exact ⟨n + 1, _, by omega, by go_num, rfl, hnx.out, (by rw [hnx.out, ByteArray.size_append]; have := hst.out; have := hsz.out; omega), (by repeat (first | exact Below.refl _ _ | assumption | refine Below.drew ?_ | refine below_drewN ?_ _ | refine Below.alloc' ?_ _ | (refine Below.setCell ?_ (by first | omega | (simp; done) | (simp; omega) | exact Below.size (by assumption) | exact Nat.le_trans (Below.size (by assumption)) (by simp)) _) | (refine Below.via' ?_ (by assumption)) | (refine Below.alloc ?_ (by first | omega | (simp; done) | (simp; omega) | exact Below.size (by assumption) | exact Nat.le_trans (Below.size (by assumption)) (by simp)) _) | (refine Below.via ?_ (by assumption) (by first | omega | (simp; done) | (simp; omega) | exact Below.size (by assumption) | exact Nat.le_trans (Below.size (by assumption)) (by simp)))))⟩
                case measure => simp [intOf]; omega
            · have hmm : n = (lvsL v').length := by omega
              have hfin : Hid (t = oK S l F W m (i + 1)) := by
                unfold Hid
                rw [ht.out, hmm, stM_all, hbs.out]
                exact (by rw [hok.out, hpa.out]; unfold paT; simp only [ByteArray.append_assoc])
              have hfl := Lib.hid (show decide ((cwU S W (i + 1)).length = 0) = false from decide_eq_false (by rw [hsel.out]; simp))
              replace hmm := Lib.hid hmm
              have hln' : ¬ (n : Int) < ((lvsL v').length : Int) := by omega
              go_wp2
              go_roundw
              case rel =>
                first
                  | exact ⟨i + 1, by omega, by go_num, by rw [hfin.out], by rw [hfl.out], Below.via' hB4 hbx⟩
                  | (refine ⟨_, _, _, _, _, _, _, ⟨i + 1, by omega, ?_, ?_, ?_, Below.via' hB4 hbx⟩, rfl, rfl, rfl, rfl, rfl, rfl, rfl⟩ <;> first | (rw [hfin.out]; done) | (go_num; done) | (simp [hsel.out]; done))
              case measure => simp [intOf]; omega
    · have hij : i = S.length := by have := hlW.out; omega
      have hv := Lib.hid (show oK S l F W m i = ttT S l F W m by rw [hij]; exact oK_all)
      have hi' : ¬ (i : Int) < (W.length : Int) := by omega
      replace hij := Lib.hid hij
      go_wp2
      go_ret
      exact ⟨by first | rfl | (rw [hv.out]; rfl) | (rw [hv.out, hmq.out]; rfl) | (rw [hv.out]; first | rfl | (rw [← hmq.out]; rfl)), hBr⟩
set_option maxHeartbeats 8000000 in
theorem nt11 (y x z : Option Addr) (c1 c2 c3 : Nat) (P : List Int) (S : List (ByteArray × Int)) (l : Int) (F W : List Int) (m : Int) (w : World) (htg : TgP P S l F W m) (hS : SIn w y c1 S) (hT : TIn w x z F W) (hm : Hid (m ≠ -1)) (hF0 : Hid (F.length ≠ 0)) :
    Calls Tryd.prog 32 #[.slice y S.length c1, .agg #[.int .i64 l, .slice x F.length c2, .slice z W.length c3, .int .i64 m]] w fun e w' => e = .returned (.string (ttT S l F W m)) ∧ Below w.heap.size w w' := by
  have hSh := Lib.hid hS
  have hFh := Lib.hid hT.1
  have hWh := Lib.hid hT.2
  have hth := Lib.hid htg
  have hlv := tg_lv htg
  have h6 := (schB_len htg.s).2
  have hm1 := htg.m1
  have hm0 := htg.m0
  have hlW := Lib.hid (tw_len htg.w)
  have hz2 := oK_size htg (i := 0) (by omega)
  rw [oK_zero] at hz2
  have hnz := nsK_size htg.s htg.r F.length
  rw [nsK_all] at hnz
  have hnum := numZ_2 hlv.1 (by omega)
  clear hS hT htg
  have q0 := Lib.hid (TQ.new w l x F.length c2 z W.length c3 m 37)
  have hbA : Below w.heap.size w (w.alloc (.cells #[.int .i64 l, .slice x F.length c2, .slice z W.length c3, .int .i64 m] 37)) := (by repeat (first | exact Below.refl _ _ | assumption | refine Below.drew ?_ | refine below_drewN ?_ _ | refine Below.alloc' ?_ _ | (refine Below.setCell ?_ (by first | omega | (simp; done) | (simp; omega) | exact Below.size (by assumption) | exact Nat.le_trans (Below.size (by assumption)) (by simp)) _) | (refine Below.via' ?_ (by assumption)) | (refine Below.alloc ?_ (by first | omega | (simp; done) | (simp; omega) | exact Below.size (by assumption) | exact Nat.le_trans (Below.size (by assumption)) (by simp)) _) | (refine Below.via ?_ (by assumption) (by first | omega | (simp; done) | (simp; omega) | exact Below.size (by assumption) | exact Nat.le_trans (Below.size (by assumption)) (by simp)))))
  have hft : (0 : Int) < (F.length : Int) := by have := hF0.out; omega
  obtain ⟨q, rfl⟩ := Int.eq_ofNat_of_zero_le (show 0 ≤ m by have := hm.out; omega)
  obtain ⟨b9, o9, nm, lv9, rfl, hb9, hSq, hk0, hk1⟩ := hSh.out.rd.var (i := q) (by omega)
  have hnq := naA_at hSq
  have hqt : ((q : Nat) : Int).toNat = q := Int.toNat_natCast q
  have hq0 : (0 : Int) ≤ (q : Int) := by omega
  have hq1 : (q : Int) < (S.length : Int) := by omega
  have hns9 := name_size hth.out.s hSq
  have k7 : (⟨#[32, 108, 101, 118, 101, 108, 32]⟩ : ByteArray).size = 7 := rfl
  have k4 : (⟨#[115, 117, 109, 32]⟩ : ByteArray).size = 4 := rfl
  have a0 : ¬ 9223372036854775807 < (⟨#[115, 117, 109, 32]⟩ : ByteArray).size + nm.size := by rw [k4]; omega
  have a0' : ¬ 9223372036854775807 < 4 + nm.size := by omega
  have a1 : ¬ 9223372036854775807 < (⟨#[32, 108, 101, 118, 101, 108, 32]⟩ : ByteArray).size + (numZ l).size := by rw [k7]; omega
  have a1' : ¬ 9223372036854775807 < 7 + (numZ l).size := by omega
  have a2 : ¬ 9223372036854775807 < (⟨#[115, 117, 109, 32]⟩ ++ nm : ByteArray).size + (⟨#[32, 108, 101, 118, 101, 108, 32]⟩ ++ numZ l : ByteArray).size := by simp only [ByteArray.size_append, k7, k4]; omega
  have a2' : ¬ 9223372036854775807 < 4 + nm.size + (7 + (numZ l).size) := by omega
  have ho1 : ((⟨#[115, 117, 109, 32]⟩ : ByteArray) ++ nm) ++ (⟨#[32, 108, 101, 118, 101, 108, 32]⟩ ++ numZ l) = jnS 32 (tw1 S l (q : Int)) := by rw [o0_yes (S := S) hm.out (by rw [hqt]; exact hnq)]; exact o1_eq
  replace ho1 := Lib.hid ho1
  replace hSq := Lib.hid hSq
  replace hnq := Lib.hid hnq
  replace hqt := Lib.hid hqt
  clear k7 k4
  obtain ⟨t0a, t0b, t0c, t0d, t0e⟩ := q0.out
  go_enter Tryd.func32, Tryd.ntmps32
  go_wp2_with fail
  refine (l1Num_any 30 l _ hlv.1 (by omega) (by omega)).mono ?_
  rintro e w1 ⟨rfl, hb1⟩
  have hB1 := Below.via' hbA hb1
  have tq1 := Lib.hid (q0.out.below hb1)
  clear q0 t0a t0b t0c t0d t0e
  obtain ⟨m, hmq⟩ : ∃ m : Int, m = (q : Int) := ⟨_, rfl⟩
  rw [← hmq] at tq1 hth ho1 hz2 ⊢
  replace hmq := Lib.hid hmq
  obtain ⟨ta, tb, tc, td, te⟩ := tq1.out
  have ho2 := o2_eq (S := S) (l := l) (m := m) hF0.out
  have hz1 := congrArg ByteArray.size ho2
  have k4 : (⟨#[32, 98, 121, 32]⟩ : ByteArray).size = 4 := rfl
  simp only [ByteArray.size_append, k4] at hz1
  have a3 : ¬ 9223372036854775807 < (⟨#[32, 98, 121, 32]⟩ : ByteArray).size + (jnS 44 (nsL S F)).size := by rw [k4]; omega
  have a3' : ¬ 9223372036854775807 < 4 + (jnS 44 (nsL S F)).size := by omega
  have a4 : ¬ 9223372036854775807 < (jnS 32 (tw1 S l m)).size + (⟨#[32, 98, 121, 32]⟩ ++ jnS 44 (nsL S F) : ByteArray).size := by simp only [ByteArray.size_append, k4]; omega
  have a4' : ¬ 9223372036854775807 < (jnS 32 (tw1 S l m)).size + (4 + (jnS 44 (nsL S F)).size) := by omega
  replace ho2 := Lib.hid ho2
  replace hz1 := Lib.hid hz1
  clear k4
  go_wp2_with fail
  rw [ho1.out]
  refine (nNames_any _ _ _ _ S F _ hth.out.s hth.out.r (hSh.out.below hB1) (hFh.out.below hB1)).mono ?_
  rintro e w2 ⟨rfl, hb2⟩
  have hB2 := Below.via' hB1 hb2
  have tq2 := Lib.hid (tq1.out.below hb2)
  clear ta tb tc td te tq1 hb2
  obtain ⟨ta, tb, tc, td, te⟩ := tq2.out
  go_upto_region 7 with fail
  rw [ho2.out]
  clear ta tb tc td te
  obtain ⟨ta, tb, tc, td, te⟩ := tq2.out
  go_wp2
  go_loopw [5, 6, 41] (fun q f c wr => ∃ i : Nat, i ≤ W.length ∧ c = .int .i64 i ∧ q = .string (oK S l F W m i) ∧ f = .bool (decide ((cwU S W i).length = 0)) ∧ Below w2.heap.size w2 wr) (fun _ _ c _ => W.length - (intOf c).toNat)
  case atStart => exact ⟨0, by omega, by go_num, by rw [oK_zero], rfl, Below.refl _ _⟩
  case round =>
    obtain ⟨i, hi, rfl, rfl, rfl, hb⟩ := hrel
    have hBr := Below.via' hB2 hb
    by_cases hlt : i < W.length
    · obtain ⟨b1, o1, v', rfl, hb1, hWi, hc0⟩ := (hWh.out.below hBr).2.2.int hlt
      obtain ⟨nm', lv', hSi, l1, l2, x0, x1, x255⟩ := tw_get hth.out.s hth.out.w hWi
      have hiS : i < S.length := (List.getElem?_eq_some_iff.1 hSi).1
      obtain ⟨b2, o2, nm, lv, hy2, hb2, hSi2, hc1, hc2⟩ := (hSh.out.rd.below hBr).var hiS
      obtain ⟨rfl, rfl⟩ : nm = nm' ∧ lv = lv' := by
        have := Option.some.inj (hSi2.symm.trans hSi)
        injection this with a b
        exact ⟨a, b⟩
      first | subst hy2 | (injection hy2 with hy3; injection hy3 with hy4 hy5; subst hy4 hy5)
      have hcw := cwB_at hWi
      have hpa := Lib.hid (paS_at hSi hWi)
      have hns := name_size hth.out.s hSi
      have hos := oK_size hth.out (i := i) (by omega)
      have hi' : (i : Int) < (W.length : Int) := by omega
      have hi2 : (i : Int) < (S.length : Int) := by omega
      have hi0 : (0 : Int) ≤ (i : Int) := by omega
      replace hSi := Lib.hid hSi
      replace hSi2 := Lib.hid hSi2
      replace hWi := Lib.hid hWi
      by_cases hv0 : v' = 0
      · have hvb : (v' == 0) = true := by rw [hv0]; rfl
        have hsel := cwU_no (S := S) (hcw.trans (by rw [hv0]; rfl))
        have hok := Lib.hid (oK_same (l := l) (F := F) (m := m) hsel)
        replace hsel := Lib.hid hsel
        replace hv0 := Lib.hid hv0
        replace hcw := Lib.hid hcw
        go_wp2
        go_roundw
        case rel => exact ⟨i + 1, by omega, by go_num, by rw [hok.out], by rw [hsel.out], hb⟩
        case measure => simp [intOf]; omega
      · have hvb : (v' == 0) = false := by rw [beq_eq_false_iff_ne]; exact hv0
        have hsel := Lib.hid (cwU_yes (S := S) (hcw.trans (show (v' != 0) = true by simpa using hv0)))
        have x1' : 1 ≤ v' := by omega
        replace hv0 := Lib.hid hv0
        replace hcw := Lib.hid hcw
        have e1 : (⟨#[32]⟩ : ByteArray).size = 1 := rfl
        have e2 : (⟨#[61]⟩ : ByteArray).size = 1 := rfl
        have e3 : (⟨#[32, 119, 104, 101, 114, 101]⟩ : ByteArray).size = 6 := rfl
        have s1 : ¬ 9223372036854775807 < (⟨#[32]⟩ : ByteArray).size + nm.size := by rw [e1]; omega
        have s1' : ¬ 9223372036854775807 < 1 + nm.size := by omega
        have s2 : ¬ 9223372036854775807 < (⟨#[32]⟩ ++ nm : ByteArray).size + (⟨#[61]⟩ : ByteArray).size := by rw [ByteArray.size_append, e1, e2]; omega
        have s2' : ¬ 9223372036854775807 < 1 + nm.size + 1 := by omega
        by_cases hc : (cwU S W i).length = 0
        · have hd : decide ((cwU S W i).length = 0) = true := decide_eq_true hc
          rw [hd]
          have s3 : ¬ 9223372036854775807 < (oK S l F W m i).size + (⟨#[32, 119, 104, 101, 114, 101]⟩ : ByteArray).size := by rw [e3]; omega
          have s3' : ¬ 9223372036854775807 < (oK S l F W m i).size + 6 := by omega
          have s4 : ¬ 9223372036854775807 < (oK S l F W m i ++ ⟨#[32, 119, 104, 101, 114, 101]⟩).size + ((⟨#[32]⟩ ++ nm) ++ ⟨#[61]⟩ : ByteArray).size := by simp only [ByteArray.size_append, e1, e2, e3]; omega
          have s4' : ¬ 9223372036854775807 < (oK S l F W m i).size + 6 + (1 + nm.size + 1) := by omega
          have hok := Lib.hid (oK_first (l := l) (F := F) (m := m) hc hsel.out)
          replace hc := Lib.hid hc
          replace hd := Lib.hid hd
          clear e1 e2 e3
          skip
          go_wp2_with fail
          refine (eLevels_any _ _ (by omega) x255).mono ?_
          rintro e w4 ⟨u4, rfl, ho4, hb4⟩
          obtain ⟨x4, n4, rfl, -, -⟩ := (OwR.of ho4).form
          have A4 := Lib.hid (Rd.of_own ho4)
          have hB4 : Below w2.heap.size w2 w4 := Below.via' hb hb4
          clear ho4 hb4
          have hsz := Lib.hid (show ((oK S l F W m i ++ ⟨#[32, 119, 104, 101, 114, 101]⟩) ++ ((⟨#[32]⟩ ++ nm) ++ ⟨#[61]⟩)).size ≤ 1000 from by simp only [ByteArray.size_append]; have e1 : (⟨#[32]⟩ : ByteArray).size = 1 := rfl; have e2 : (⟨#[61]⟩ : ByteArray).size = 1 := rfl; have e3 : (⟨#[32, 119, 104, 101, 114, 101]⟩ : ByteArray).size = 6 := rfl; omega)
          obtain ⟨bs, hbs⟩ : ∃ bs : ByteArray, bs = (oK S l F W m i ++ ⟨#[32, 119, 104, 101, 114, 101]⟩) ++ ((⟨#[32]⟩ ++ nm) ++ ⟨#[61]⟩) := ⟨_, rfl⟩
          rw [← hbs] at hsz ⊢
          replace hbs := Lib.hid hbs
          go_wp2
          go_loopw [5, 63] (fun q c wx => ∃ (n : Nat) (t : ByteArray), n ≤ (lvsL v').length ∧ c = .int .i64 n ∧ q = .string t ∧ Hid (t = bs ++ stM v' n) ∧ t.size ≤ 1100 ∧ Below w4.heap.size w4 wx) (fun _ c _ => (lvsL v').length - (intOf c).toNat)
          case atStart => exact ⟨0, bs, by omega, by go_num, rfl, (by unfold Hid; rw [stM_zero]; exact ByteArray.append_empty.symm), (by have := hsz.out; omega), Below.refl _ _⟩
          case round =>
            obtain ⟨n, t, hn, rfl, rfl, ht, htz, hbx⟩ := hrel
            by_cases hln : n < (lvsL v').length
            · obtain ⟨bl5, off5, lz, hx5, hbl5, hA, hc5⟩ := (A4.out.below hbx).int hln
              have hl := lvs_i64 v' lz (List.mem_of_getElem? hA)
              have hl1 := lvs_one (List.mem_of_getElem? hA)
              have hln' : (n : Int) < ((lvsL v').length : Int) := by omega
              have hn0 : (0 : Int) ≤ (n : Int) := by omega
              have hlvn := lvsL_len v'
              have k1 : (⟨#[44]⟩ : ByteArray).size = 1 := rfl
              have g1 : ¬ 9223372036854775807 < t.size + (⟨#[44]⟩ : ByteArray).size := by rw [k1]; omega
              have g2 : ¬ 9223372036854775807 < (t ++ ⟨#[44]⟩).size + (numZ lz).size := by rw [ByteArray.size_append, k1]; omega
              have g3 : ¬ 9223372036854775807 < t.size + 1 := by omega
              have g4 : ¬ 9223372036854775807 < t.size + 1 + (numZ lz).size := by omega
              have g5 : ¬ 9223372036854775807 < t.size + (numZ lz).size := by omega
              have hst := Lib.hid (stM_size v' (n + 1))
              clear k1
              have hx5h := Lib.hid hx5
              replace hl1 := Lib.hid hl1
              clear hx5
              rw [hx5h.out]
              rcases Nat.eq_zero_or_pos n with h0 | h0
              · have hnx : Hid (t ++ numZ lz = bs ++ stM v' (n + 1)) := by
                  unfold Hid
                  rw [ht.out]
                  subst h0
                  rw [stM_zero, stM_first hA]
                  congr 1 <;> exact ByteArray.append_empty
                have hgt : ¬ ((0 : Int) < (n : Int)) := by omega
                replace hA := Lib.hid hA
                replace h0 := Lib.hid h0
                go_wp2_with fail
                refine (l1Num_any 8 lz _ (by omega) (by omega) (by omega)).mono ?_
                rintro e w6 ⟨rfl, hb6⟩
                go_wp2
                go_roundw
                case rel => exact ⟨n + 1, _, by omega, by go_num, rfl, hnx.out, (by rw [hnx.out, ByteArray.size_append]; have := hst.out; have := hsz.out; omega), (by repeat (first | exact Below.refl _ _ | assumption | refine Below.drew ?_ | refine below_drewN ?_ _ | refine Below.alloc' ?_ _ | (refine Below.setCell ?_ (by first | omega | (simp; done) | (simp; omega) | exact Below.size (by assumption) | exact Nat.le_trans (Below.size (by assumption)) (by simp)) _) | (refine Below.via' ?_ (by assumption)) | (refine Below.alloc ?_ (by first | omega | (simp; done) | (simp; omega) | exact Below.size (by assumption) | exact Nat.le_trans (Below.size (by assumption)) (by simp)) _) | (refine Below.via ?_ (by assumption) (by first | omega | (simp; done) | (simp; omega) | exact Below.size (by assumption) | exact Nat.le_trans (Below.size (by assumption)) (by simp)))))⟩
                case measure => simp [intOf]; omega
              · have hnx : Hid (t ++ ⟨#[44]⟩ ++ numZ lz = bs ++ stM v' (n + 1)) := by
                  unfold Hid
                  rw [ht.out, stM_next h0 hA]
                  simp only [ByteArray.append_assoc]
                have hgt : (0 : Int) < (n : Int) := by omega
                replace hA := Lib.hid hA
                go_wp2_with fail
                refine (l1Num_any 8 lz _ (by omega) (by omega) (by omega)).mono ?_
                rintro e w6 ⟨rfl, hb6⟩
                go_wp2
                go_roundw
                case rel => exact ⟨n + 1, _, by omega, by go_num, rfl, hnx.out, (by rw [hnx.out, ByteArray.size_append]; have := hst.out; have := hsz.out; omega), (by repeat (first | exact Below.refl _ _ | assumption | refine Below.drew ?_ | refine below_drewN ?_ _ | refine Below.alloc' ?_ _ | (refine Below.setCell ?_ (by first | omega | (simp; done) | (simp; omega) | exact Below.size (by assumption) | exact Nat.le_trans (Below.size (by assumption)) (by simp)) _) | (refine Below.via' ?_ (by assumption)) | (refine Below.alloc ?_ (by first | omega | (simp; done) | (simp; omega) | exact Below.size (by assumption) | exact Nat.le_trans (Below.size (by assumption)) (by simp)) _) | (refine Below.via ?_ (by assumption) (by first | omega | (simp; done) | (simp; omega) | exact Below.size (by assumption) | exact Nat.le_trans (Below.size (by assumption)) (by simp)))))⟩
                case measure => simp [intOf]; omega
            · have hmm : n = (lvsL v').length := by omega
              have hfin : Hid (t = oK S l F W m (i + 1)) := by
                unfold Hid
                rw [ht.out, hmm, stM_all, hbs.out]
                exact (by rw [hok.out, hpa.out]; unfold paT; rw [show (⟨#[32, 119, 104, 101, 114, 101]⟩ : ByteArray) = ⟨#[32]⟩ ++ wWhere by decide]; simp only [ByteArray.append_assoc])
              have hfl := Lib.hid (show decide ((cwU S W (i + 1)).length = 0) = false from decide_eq_false (by rw [hsel.out]; simp))
              replace hmm := Lib.hid hmm
              have hln' : ¬ (n : Int) < ((lvsL v').length : Int) := by omega
              go_wp2
              go_roundw
              case rel =>
                first
                  | exact ⟨i + 1, by omega, by go_num, by rw [hfin.out], by rw [hfl.out], Below.via' hB4 hbx⟩
                  | (refine ⟨_, _, _, _, _, _, _, ⟨i + 1, by omega, ?_, ?_, ?_, Below.via' hB4 hbx⟩, rfl, rfl, rfl, rfl, rfl, rfl, rfl⟩ <;> first | (rw [hfin.out]; done) | (go_num; done) | (simp [hsel.out]; done))
              case measure => simp [intOf]; omega
        · have hd : decide ((cwU S W i).length = 0) = false := decide_eq_false hc
          rw [hd]
          have s4 : ¬ 9223372036854775807 < (oK S l F W m i).size + ((⟨#[32]⟩ ++ nm) ++ ⟨#[61]⟩ : ByteArray).size := by simp only [ByteArray.size_append, e1, e2]; omega
          have s4' : ¬ 9223372036854775807 < (oK S l F W m i).size + (1 + nm.size + 1) := by omega
          have hok := Lib.hid (oK_next (l := l) (F := F) (m := m) hc hsel.out)
          replace hc := Lib.hid hc
          replace hd := Lib.hid hd
          clear e1 e2 e3
          go_wp2_with fail
          refine (eLevels_any _ _ (by omega) x255).mono ?_
          rintro e w4 ⟨u4, rfl, ho4, hb4⟩
          obtain ⟨x4, n4, rfl, -, -⟩ := (OwR.of ho4).form
          have A4 := Lib.hid (Rd.of_own ho4)
          have hB4 : Below w2.heap.size w2 w4 := Below.via' hb hb4
          clear ho4 hb4
          have hsz := Lib.hid (show (oK S l F W m i ++ ((⟨#[32]⟩ ++ nm) ++ ⟨#[61]⟩)).size ≤ 1000 from by simp only [ByteArray.size_append]; have e1 : (⟨#[32]⟩ : ByteArray).size = 1 := rfl; have e2 : (⟨#[61]⟩ : ByteArray).size = 1 := rfl; have e3 : (⟨#[32, 119, 104, 101, 114, 101]⟩ : ByteArray).size = 6 := rfl; omega)
          obtain ⟨bs, hbs⟩ : ∃ bs : ByteArray, bs = oK S l F W m i ++ ((⟨#[32]⟩ ++ nm) ++ ⟨#[61]⟩) := ⟨_, rfl⟩
          rw [← hbs] at hsz ⊢
          replace hbs := Lib.hid hbs
          go_wp2
          go_loopw [5, 63] (fun q c wx => ∃ (n : Nat) (t : ByteArray), n ≤ (lvsL v').length ∧ c = .int .i64 n ∧ q = .string t ∧ Hid (t = bs ++ stM v' n) ∧ t.size ≤ 1100 ∧ Below w4.heap.size w4 wx) (fun _ c _ => (lvsL v').length - (intOf c).toNat)
          case atStart => exact ⟨0, bs, by omega, by go_num, rfl, (by unfold Hid; rw [stM_zero]; exact ByteArray.append_empty.symm), (by have := hsz.out; omega), Below.refl _ _⟩
          case round =>
            obtain ⟨n, t, hn, rfl, rfl, ht, htz, hbx⟩ := hrel
            by_cases hln : n < (lvsL v').length
            · obtain ⟨bl5, off5, lz, hx5, hbl5, hA, hc5⟩ := (A4.out.below hbx).int hln
              have hl := lvs_i64 v' lz (List.mem_of_getElem? hA)
              have hl1 := lvs_one (List.mem_of_getElem? hA)
              have hln' : (n : Int) < ((lvsL v').length : Int) := by omega
              have hn0 : (0 : Int) ≤ (n : Int) := by omega
              have hlvn := lvsL_len v'
              have k1 : (⟨#[44]⟩ : ByteArray).size = 1 := rfl
              have g1 : ¬ 9223372036854775807 < t.size + (⟨#[44]⟩ : ByteArray).size := by rw [k1]; omega
              have g2 : ¬ 9223372036854775807 < (t ++ ⟨#[44]⟩).size + (numZ lz).size := by rw [ByteArray.size_append, k1]; omega
              have g3 : ¬ 9223372036854775807 < t.size + 1 := by omega
              have g4 : ¬ 9223372036854775807 < t.size + 1 + (numZ lz).size := by omega
              have g5 : ¬ 9223372036854775807 < t.size + (numZ lz).size := by omega
              have hst := Lib.hid (stM_size v' (n + 1))
              clear k1
              have hx5h := Lib.hid hx5
              replace hl1 := Lib.hid hl1
              clear hx5
              rw [hx5h.out]
              rcases Nat.eq_zero_or_pos n with h0 | h0
              · have hnx : Hid (t ++ numZ lz = bs ++ stM v' (n + 1)) := by
                  unfold Hid
                  rw [ht.out]
                  subst h0
                  rw [stM_zero, stM_first hA]
                  congr 1 <;> exact ByteArray.append_empty
                have hgt : ¬ ((0 : Int) < (n : Int)) := by omega
                replace hA := Lib.hid hA
                replace h0 := Lib.hid h0
                go_wp2_with fail
                refine (l1Num_any 8 lz _ (by omega) (by omega) (by omega)).mono ?_
                rintro e w6 ⟨rfl, hb6⟩
                go_wp2
                go_roundw
                case rel => exact ⟨n + 1, _, by omega, by go_num, rfl, hnx.out, (by rw [hnx.out, ByteArray.size_append]; have := hst.out; have := hsz.out; omega), (by repeat (first | exact Below.refl _ _ | assumption | refine Below.drew ?_ | refine below_drewN ?_ _ | refine Below.alloc' ?_ _ | (refine Below.setCell ?_ (by first | omega | (simp; done) | (simp; omega) | exact Below.size (by assumption) | exact Nat.le_trans (Below.size (by assumption)) (by simp)) _) | (refine Below.via' ?_ (by assumption)) | (refine Below.alloc ?_ (by first | omega | (simp; done) | (simp; omega) | exact Below.size (by assumption) | exact Nat.le_trans (Below.size (by assumption)) (by simp)) _) | (refine Below.via ?_ (by assumption) (by first | omega | (simp; done) | (simp; omega) | exact Below.size (by assumption) | exact Nat.le_trans (Below.size (by assumption)) (by simp)))))⟩
                case measure => simp [intOf]; omega
              · have hnx : Hid (t ++ ⟨#[44]⟩ ++ numZ lz = bs ++ stM v' (n + 1)) := by
                  unfold Hid
                  rw [ht.out, stM_next h0 hA]
                  simp only [ByteArray.append_assoc]
                have hgt : (0 : Int) < (n : Int) := by omega
                replace hA := Lib.hid hA
                go_wp2_with fail
                refine (l1Num_any 8 lz _ (by omega) (by omega) (by omega)).mono ?_
                rintro e w6 ⟨rfl, hb6⟩
                go_wp2
                go_roundw
                case rel => exact ⟨n + 1, _, by omega, by go_num, rfl, hnx.out, (by rw [hnx.out, ByteArray.size_append]; have := hst.out; have := hsz.out; omega), (by repeat (first | exact Below.refl _ _ | assumption | refine Below.drew ?_ | refine below_drewN ?_ _ | refine Below.alloc' ?_ _ | (refine Below.setCell ?_ (by first | omega | (simp; done) | (simp; omega) | exact Below.size (by assumption) | exact Nat.le_trans (Below.size (by assumption)) (by simp)) _) | (refine Below.via' ?_ (by assumption)) | (refine Below.alloc ?_ (by first | omega | (simp; done) | (simp; omega) | exact Below.size (by assumption) | exact Nat.le_trans (Below.size (by assumption)) (by simp)) _) | (refine Below.via ?_ (by assumption) (by first | omega | (simp; done) | (simp; omega) | exact Below.size (by assumption) | exact Nat.le_trans (Below.size (by assumption)) (by simp)))))⟩
                case measure => simp [intOf]; omega
            · have hmm : n = (lvsL v').length := by omega
              have hfin : Hid (t = oK S l F W m (i + 1)) := by
                unfold Hid
                rw [ht.out, hmm, stM_all, hbs.out]
                exact (by rw [hok.out, hpa.out]; unfold paT; simp only [ByteArray.append_assoc])
              have hfl := Lib.hid (show decide ((cwU S W (i + 1)).length = 0) = false from decide_eq_false (by rw [hsel.out]; simp))
              replace hmm := Lib.hid hmm
              have hln' : ¬ (n : Int) < ((lvsL v').length : Int) := by omega
              go_wp2
              go_roundw
              case rel =>
                first
                  | exact ⟨i + 1, by omega, by go_num, by rw [hfin.out], by rw [hfl.out], Below.via' hB4 hbx⟩
                  | (refine ⟨_, _, _, _, _, _, _, ⟨i + 1, by omega, ?_, ?_, ?_, Below.via' hB4 hbx⟩, rfl, rfl, rfl, rfl, rfl, rfl, rfl⟩ <;> first | (rw [hfin.out]; done) | (go_num; done) | (simp [hsel.out]; done))
              case measure => simp [intOf]; omega
    · have hij : i = S.length := by have := hlW.out; omega
      have hv := Lib.hid (show oK S l F W m i = ttT S l F W m by rw [hij]; exact oK_all)
      have hi' : ¬ (i : Int) < (W.length : Int) := by omega
      replace hij := Lib.hid hij
      go_wp2
      go_ret
      exact ⟨by first | rfl | (rw [hv.out]; rfl) | (rw [hv.out, hmq.out]; rfl) | (rw [hv.out]; first | rfl | (rw [← hmq.out]; rfl)), hBr⟩
theorem nTable_any (y x z : Option Addr) (c1 c2 c3 : Nat) (P : List Int) (S : List (ByteArray × Int)) (l : Int) (F W : List Int) (m : Int) (w : World) (htg : TgP P S l F W m) (hS : SIn w y c1 S) (hT : TIn w x z F W) :
    Calls Tryd.prog 32 #[.slice y S.length c1, .agg #[.int .i64 l, .slice x F.length c2, .slice z W.length c3, .int .i64 m]] w fun e w' => e = .returned (.string (ttT S l F W m)) ∧ Below w.heap.size w w' := by
  by_cases hm : m = -1 <;> by_cases hF0 : F.length = 0
  exact nt00 y x z c1 c2 c3 P S l F W m w htg hS hT (Lib.hid hm) (Lib.hid hF0)
  exact nt01 y x z c1 c2 c3 P S l F W m w htg hS hT (Lib.hid hm) (Lib.hid hF0)
  exact nt10 y x z c1 c2 c3 P S l F W m w htg hS hT (Lib.hid hm) (Lib.hid hF0)
  exact nt11 y x z c1 c2 c3 P S l F W m w htg hS hT (Lib.hid hm) (Lib.hid hF0)
/-- What TableText answers. -/
def ttR (P : List Int) (S : List (ByteArray × Int)) (l : Int) (F W : List Int) (m : Int) : ByteArray := if tgB P S l F W m then ttT S l F W m else ⟨#[]⟩
theorem ttR_yes {P : List Int} {S : List (ByteArray × Int)} {l : Int} {F W : List Int} {m : Int} (h : tgB P S l F W m = true) : ttR P S l F W m = ttT S l F W m := by unfold ttR; rw [h]; rfl
theorem ttR_no {P : List Int} {S : List (ByteArray × Int)} {l : Int} {F W : List Int} {m : Int} (h : tgB P S l F W m = false) : ttR P S l F W m = ⟨#[]⟩ := by unfold ttR; rw [h]; rfl
theorem ret_sbT {a b : ByteArray} {p q : Bool} (h : a = b) (k : p = q) : Ending.returned (.tuple #[.string a, .bool p]) = .returned (.tuple #[.string b, .bool q]) := by rw [h, k]
set_option maxHeartbeats 4000000 in
theorem iTT_x (p y x z : Option Addr) (c c1 c2 c3 : Nat) (P : List Int) (S : List (ByteArray × Int)) (l : Int) (F W : List Int) (m : Int) (w : World) (hP : IIn w p P) (hS : SIn w y c1 S) (hT : TIn w x z F W) :
    Calls Tryd.prog 14 #[.agg #[.slice p P.length c], .slice y S.length c1, .agg #[.int .i64 l, .slice x F.length c2, .slice z W.length c3, .int .i64 m]] w fun e w' => e = .returned (.tuple #[.string (ttR P S l F W m), .bool (tgB P S l F W m)]) ∧ Below w.heap.size w w' := by
  have hPh := Lib.hid hP
  have hSh := Lib.hid hS
  have hFh := Lib.hid hT.1
  have hWh := Lib.hid hT.2
  clear hP hS hT
  have p1 := Lib.hid (QB.new w p P.length c 33)
  have p2 := Lib.hid (TQ.new (w.alloc (.cells #[.slice p P.length c] 33)) l x F.length c2 z W.length c3 m 37)
  obtain ⟨w0, hw0⟩ : ∃ w0, w0 = (w.alloc (.cells #[.slice p P.length c] 33)).alloc (.cells #[.int .i64 l, .slice x F.length c2, .slice z W.length c3, .int .i64 m] 37) := ⟨_, rfl⟩
  have B0 : Below w.heap.size w w0 := by rw [hw0]; exact (by repeat (first | exact Below.refl _ _ | assumption | refine Below.drew ?_ | refine below_drewN ?_ _ | refine Below.alloc' ?_ _ | (refine Below.setCell ?_ (by first | omega | (simp; done) | (simp; omega) | exact Below.size (by assumption) | exact Nat.le_trans (Below.size (by assumption)) (by simp)) _) | (refine Below.via' ?_ (by assumption)) | (refine Below.alloc ?_ (by first | omega | (simp; done) | (simp; omega) | exact Below.size (by assumption) | exact Nat.le_trans (Below.size (by assumption)) (by simp)) _) | (refine Below.via ?_ (by assumption) (by first | omega | (simp; done) | (simp; omega) | exact Below.size (by assumption) | exact Nat.le_trans (Below.size (by assumption)) (by simp)))))
  have g0 : Hid (QB w0 w.heap.size p P.length c) := by
    rw [hw0]
    exact p1.out.below (show Below (w.alloc (.cells #[.slice p P.length c] 33)).heap.size (w.alloc (.cells #[.slice p P.length c] 33)) _ from (by repeat (first | exact Below.refl _ _ | assumption | refine Below.drew ?_ | refine below_drewN ?_ _ | refine Below.alloc' ?_ _ | (refine Below.setCell ?_ (by first | omega | (simp; done) | (simp; omega) | exact Below.size (by assumption) | exact Nat.le_trans (Below.size (by assumption)) (by simp)) _) | (refine Below.via' ?_ (by assumption)) | (refine Below.alloc ?_ (by first | omega | (simp; done) | (simp; omega) | exact Below.size (by assumption) | exact Nat.le_trans (Below.size (by assumption)) (by simp)) _) | (refine Below.via ?_ (by assumption) (by first | omega | (simp; done) | (simp; omega) | exact Below.size (by assumption) | exact Nat.le_trans (Below.size (by assumption)) (by simp))))))
  have t0 : Hid (TQ w0 (w.heap.size + 1) l x F.length c2 z W.length c3 m) := by
    have h0 := p2.out
    rw [World.size_alloc, ← hw0] at h0
    exact h0
  have z0 : w0.heap.size = w.heap.size + 1 + 1 := by rw [hw0]; simp
  clear p1 p2
  go_enter Tryd.func14, Tryd.ntmps14
  go_wp2_with fail
  rw [← hw0]
  replace hw0 := Lib.hid hw0
  replace z0 := Lib.hid z0
  refine (isTb_any p y x z _ _ _ _ P S l F W m _ (hPh.out.below B0) (hSh.out.below B0) ⟨hFh.out.below B0, hWh.out.below B0⟩).mono ?_
  rintro e w1 ⟨rfl, hb1⟩
  have B1 : Below w.heap.size w w1 := Below.via' B0 hb1
  have g1 := Lib.hid (g0.out.below hb1)
  have t1 := Lib.hid (t0.out.below hb1)
  obtain ⟨ka1, kb1, kc1⟩ := g1.out
  obtain ⟨ta1, tb1, tc1, td1, te1⟩ := t1.out
  try clear ka0 kb0 kc0 ta0 tb0 tc0 td0 te0
  clear hb1
  cases htb : tgB P S l F W m
  · have hv := Lib.hid (ttR_no htb)
    replace htb := Lib.hid htb
    go_wp2
    go_ret2
    exact ⟨ret_sbT hv.out.symm htb.out.symm, B1⟩
  have hv := Lib.hid (ttR_yes htb)
  have htg := tg_iff.1 htb
  replace htb := Lib.hid htb
  go_wp2_with fail
  refine (tableText_any y x z _ _ _ P S l F W m _ htg (hSh.out.below B1) ⟨hFh.out.below B1, hWh.out.below B1⟩).mono ?_
  rintro e w2 ⟨rfl, hb2⟩
  clear htg
  go_wp2
  go_ret2
  exact ⟨ret_sbT hv.out.symm htb.out.symm, Below.via' B1 hb2⟩
set_option maxHeartbeats 4000000 in
theorem sTT_x (p y x z : Option Addr) (c c1 c2 c3 : Nat) (P : List Int) (S : List (ByteArray × Int)) (l : Int) (F W : List Int) (m : Int) (w : World) (hP : IIn w p P) (hS : SIn w y c1 S) (hT : TIn w x z F W) :
    Calls Tryd.prog 10 #[.agg #[.slice p P.length c], .slice y S.length c1, .agg #[.int .i64 l, .slice x F.length c2, .slice z W.length c3, .int .i64 m]] w fun e w' => e = .returned (.tuple #[.string (ttR P S l F W m), .bool (tgB P S l F W m)]) ∧ Below w.heap.size w w' := by
  have hPh := Lib.hid hP
  have hSh := Lib.hid hS
  have hFh := Lib.hid hT.1
  have hWh := Lib.hid hT.2
  clear hP hS hT
  have p1 := Lib.hid (QB.new w p P.length c 33)
  have p2 := Lib.hid (TQ.new (w.alloc (.cells #[.slice p P.length c] 33)) l x F.length c2 z W.length c3 m 37)
  obtain ⟨w0, hw0⟩ : ∃ w0, w0 = (w.alloc (.cells #[.slice p P.length c] 33)).alloc (.cells #[.int .i64 l, .slice x F.length c2, .slice z W.length c3, .int .i64 m] 37) := ⟨_, rfl⟩
  have B0 : Below w.heap.size w w0 := by rw [hw0]; exact (by repeat (first | exact Below.refl _ _ | assumption | refine Below.drew ?_ | refine below_drewN ?_ _ | refine Below.alloc' ?_ _ | (refine Below.setCell ?_ (by first | omega | (simp; done) | (simp; omega) | exact Below.size (by assumption) | exact Nat.le_trans (Below.size (by assumption)) (by simp)) _) | (refine Below.via' ?_ (by assumption)) | (refine Below.alloc ?_ (by first | omega | (simp; done) | (simp; omega) | exact Below.size (by assumption) | exact Nat.le_trans (Below.size (by assumption)) (by simp)) _) | (refine Below.via ?_ (by assumption) (by first | omega | (simp; done) | (simp; omega) | exact Below.size (by assumption) | exact Nat.le_trans (Below.size (by assumption)) (by simp)))))
  have g0 : Hid (QB w0 w.heap.size p P.length c) := by
    rw [hw0]
    exact p1.out.below (show Below (w.alloc (.cells #[.slice p P.length c] 33)).heap.size (w.alloc (.cells #[.slice p P.length c] 33)) _ from (by repeat (first | exact Below.refl _ _ | assumption | refine Below.drew ?_ | refine below_drewN ?_ _ | refine Below.alloc' ?_ _ | (refine Below.setCell ?_ (by first | omega | (simp; done) | (simp; omega) | exact Below.size (by assumption) | exact Nat.le_trans (Below.size (by assumption)) (by simp)) _) | (refine Below.via' ?_ (by assumption)) | (refine Below.alloc ?_ (by first | omega | (simp; done) | (simp; omega) | exact Below.size (by assumption) | exact Nat.le_trans (Below.size (by assumption)) (by simp)) _) | (refine Below.via ?_ (by assumption) (by first | omega | (simp; done) | (simp; omega) | exact Below.size (by assumption) | exact Nat.le_trans (Below.size (by assumption)) (by simp))))))
  have t0 : Hid (TQ w0 (w.heap.size + 1) l x F.length c2 z W.length c3 m) := by
    have h0 := p2.out
    rw [World.size_alloc, ← hw0] at h0
    exact h0
  have z0 : w0.heap.size = w.heap.size + 1 + 1 := by rw [hw0]; simp
  clear p1 p2
  go_enter Tryd.func10, Tryd.ntmps10
  go_wp2_with fail
  rw [← hw0]
  replace hw0 := Lib.hid hw0
  replace z0 := Lib.hid z0
  refine (uGood_any p y x z _ _ _ _ P S l m F W _ (hPh.out.below B0) (hSh.out.below B0) ⟨hFh.out.below B0, hWh.out.below B0⟩).mono ?_
  rintro e w1 ⟨rfl, hb1⟩
  have B1 : Below w.heap.size w w1 := Below.via' B0 hb1
  have g1 := Lib.hid (g0.out.below hb1)
  have t1 := Lib.hid (t0.out.below hb1)
  obtain ⟨ka1, kb1, kc1⟩ := g1.out
  obtain ⟨ta1, tb1, tc1, td1, te1⟩ := t1.out
  try clear ka0 kb0 kc0 ta0 tb0 tc0 td0 te0
  clear hb1
  cases htb : tgB P S l F W m
  · have hv := Lib.hid (ttR_no htb)
    replace htb := Lib.hid htb
    go_wp2
    go_ret2
    exact ⟨ret_sbT hv.out.symm htb.out.symm, B1⟩
  have hv := Lib.hid (ttR_yes htb)
  have htg := tg_iff.1 htb
  replace htb := Lib.hid htb
  go_wp2_with fail
  refine (nTable_any y x z _ _ _ P S l F W m _ htg (hSh.out.below B1) ⟨hFh.out.below B1, hWh.out.below B1⟩).mono ?_
  rintro e w2 ⟨rfl, hb2⟩
  clear htg
  go_wp2
  go_ret2
  exact ⟨ret_sbT hv.out.symm htb.out.symm, Below.via' B1 hb2⟩
end Go.Proofs.YtpmbenedeakieabDoor

namespace Go.Proofs.YtpmbenedeakieabDoor
open Go.ChangeShapes Go.WideShapes Go.ChangeAt Go.RowKit
open Go.Joins Go.Deep
set_option maxRecDepth 100000

/-- A table as it lies: its level, where its variables lie, the room there, they; the same for its conditions; its sum. -/
structure PT where
  l : Int
  x : Option Addr
  c : Nat
  F : List Int
  z : Option Addr
  d : Nat
  W : List Int
  m : Int
/-- A table without its places. -/
abbrev TV := Int × List Int × List Int × Int
def PT.t (q : PT) : TV := (q.l, q.F, q.W, q.m)
def PT.u (q : PT) : Value := .slice q.x q.F.length q.c
def PT.v (q : PT) : Value := .slice q.z q.W.length q.d
def PT.p (q : PT) : PR := ⟨0, 0, q.x, q.c, q.F⟩
def PT.r (q : PT) : PR := ⟨0, 0, q.z, q.d, q.W⟩
def PT.cs (q : PT) : List Value := [.int .i64 q.l, q.u, q.v, .int .i64 q.m]
def tM (Q : List PT) : List TV := Q.map PT.t
/-- The cells of a list of tables. -/
def tbC : List PT → List Value
  | [] => []
  | q :: r => .int .i64 q.l :: q.u :: q.v :: .int .i64 q.m :: tbC r
/-- The rows of the tables of a list. -/
def fl : List PT → List PR
  | [] => []
  | q :: r => q.p :: q.r :: fl r
theorem tM_len (Q : List PT) : (tM Q).length = Q.length := by unfold tM; simp
theorem tM_at {Q : List PT} {i : Nat} {q : PT} (h : Q[i]? = some q) : (tM Q)[i]? = some q.t := by unfold tM; rw [List.getElem?_map, h]; rfl
theorem tM_app (Q T : List PT) : tM (Q ++ T) = tM Q ++ tM T := by unfold tM; rw [List.map_append]
theorem tM_take (Q : List PT) (k : Nat) : tM (Q.take k) = (tM Q).take k := by unfold tM; rw [List.map_take]
theorem tbC_len : ∀ Q : List PT, (tbC Q).length = Q.length * 4
  | [] => rfl
  | q :: r => by
    have := tbC_len r
    simp only [tbC, List.length_cons]
    omega
theorem tbC_at : ∀ {Q : List PT} {i : Nat} {q : PT}, Q[i]? = some q → (tbC Q)[i * 4]? = some (.int .i64 q.l) ∧ (tbC Q)[i * 4 + 1]? = some q.u ∧ (tbC Q)[i * 4 + 2]? = some q.v ∧ (tbC Q)[i * 4 + 3]? = some (.int .i64 q.m)
  | [], i, p, h => by simp at h
  | q :: r, 0, p, h => by simp at h; subst h; simp [tbC]
  | q :: r, i + 1, p, h => by
    simp only [List.getElem?_cons_succ] at h
    have := tbC_at h
    rw [show (i + 1) * 4 = i * 4 + 1 + 1 + 1 + 1 by omega, show i * 4 + 1 + 1 + 1 + 1 + 1 = (i * 4 + 1) + 1 + 1 + 1 + 1 by omega, show i * 4 + 1 + 1 + 1 + 1 + 2 = (i * 4 + 2) + 1 + 1 + 1 + 1 by omega, show i * 4 + 1 + 1 + 1 + 1 + 3 = (i * 4 + 3) + 1 + 1 + 1 + 1 by omega]
    simp only [tbC, List.getElem?_cons_succ]
    exact this
theorem tbC_app : ∀ (Q T : List PT), tbC (Q ++ T) = tbC Q ++ tbC T
  | [], T => rfl
  | q :: r, T => by simp [tbC, tbC_app r T]
theorem fl_app : ∀ (Q T : List PT), fl (Q ++ T) = fl Q ++ fl T
  | [], T => rfl
  | q :: r, T => by simp [fl, fl_app r T]
theorem fl_mem : ∀ {Q : List PT} {q : PT}, q ∈ Q → q.p ∈ fl Q ∧ q.r ∈ fl Q
  | p :: r, q, h => by
    rcases List.mem_cons.1 h with rfl | h
    · simp [fl]
    · have := fl_mem h
      simp [fl, this.1, this.2]
theorem tbC_one : ∀ Q : List PT, ∀ u ∈ tbC Q, u.oneCell' = true
  | [], u, hu => by cases hu
  | q :: r, u, hu => by
    simp only [tbC, List.mem_cons] at hu
    rcases hu with rfl | rfl | rfl | rfl | hu
    · rfl
    · rfl
    · rfl
    · rfl
    · exact tbC_one r u hu
theorem tbC_ext {n : Nat} {xs : List Value} {Q : List PT} (hl : xs.length = n * 4) (hq : Q.length = n) (h : ∀ j, j < n * 4 → xs[j]? = (tbC Q)[j]?) : xs = tbC Q := by
  apply List.ext_getElem?
  intro j
  rcases Nat.lt_or_ge j (n * 4) with hj | hj
  · exact h j hj
  · rw [List.getElem?_eq_none (by omega), List.getElem?_eq_none (by rw [tbC_len]; omega)]
theorem tbC_snoc_at {T : List PT} {q : PT} {xs : List Value} {i n : Nat} (hT : T.length = i) (hi : i < n) (hl : xs.length = n * 4) (hd : ∀ j, j < i * 4 → xs[j]? = (tbC T)[j]?) :
    ∀ j, j < (i + 1) * 4 → ((((xs.set (i * 4) (.int .i64 q.l)).set (i * 4 + 1) q.u).set (i * 4 + 2) q.v).set (i * 4 + 3) (.int .i64 q.m))[j]? = (tbC (T ++ [q]))[j]? := by
  intro j hj
  have hq : (T ++ [q])[i]? = some q := by subst hT; simp
  obtain ⟨q0, q1, q2, q3⟩ := tbC_at hq
  rw [List.getElem?_set, List.getElem?_set, List.getElem?_set, List.getElem?_set]
  simp only [List.length_set]
  by_cases e3 : i * 4 + 3 = j
  · subst e3; rw [if_pos rfl, if_pos (by omega), q3]
  by_cases e2 : i * 4 + 2 = j
  · subst e2; rw [if_neg e3, if_pos rfl, if_pos (by omega), q2]
  by_cases e1 : i * 4 + 1 = j
  · subst e1; rw [if_neg e3, if_neg e2, if_pos rfl, if_pos (by omega), q1]
  by_cases e0 : i * 4 = j
  · subst e0; rw [if_neg e3, if_neg e2, if_neg e1, if_pos rfl, if_pos (by omega), q0]
  · rw [if_neg e3, if_neg e2, if_neg e1, if_neg e0, hd j (by omega), tbC_app, List.getElem?_append_left (by rw [tbC_len]; omega)]
theorem tM_get {Q T : List PT} (h : tM T = tM Q) {i : Nat} {q t : PT} (hq : Q[i]? = some q) (ht : T[i]? = some t) : t.l = q.l ∧ t.F = q.F ∧ t.W = q.W ∧ t.m = q.m := by
  have e := Option.some.inj ((tM_at ht).symm.trans (h ▸ tM_at hq))
  unfold PT.t at e
  injection e with e1 e2
  injection e2 with e2 e3
  injection e3 with e3 e4
  exact ⟨e1, e2, e3, e4⟩
theorem tM_length {Q T : List PT} (h : tM T = tM Q) : T.length = Q.length := by rw [← tM_len, h, tM_len]

/-- A list of tables that is read; one that comes in. -/
def LIn (w : World) (x : Option Addr) (Q : List PT) : Prop := Q.length ≤ 1048576 ∧ (∀ q ∈ Q, TIn w q.x q.z q.F q.W) ∧ Rd w x (tbC Q)
def TOk0 (w : World) (q : PT) : Prop := (q.F.length ≤ 9223372036854775807 ∧ (∀ n ∈ q.F, IsI64 n) ∧ Rd w q.x (iC q.F)) ∧ (q.W.length ≤ 9223372036854775807 ∧ (∀ n ∈ q.W, IsI64 n) ∧ Rd w q.z (iC q.W))
def LIn0 (w : World) (x : Option Addr) (Q : List PT) : Prop := Q.length ≤ 9223372036854775807 ∧ (∀ q ∈ Q, TOk0 w q) ∧ Rd w x (tbC Q)
theorem TOk0.below {w w' : World} {q : PT} (h : TOk0 w q) (hb : Below w.heap.size w w') : TOk0 w' q := ⟨⟨h.1.1, h.1.2.1, h.1.2.2.below hb⟩, ⟨h.2.1, h.2.2.1, h.2.2.2.below hb⟩⟩
theorem LIn.below {w w' : World} {x : Option Addr} {Q : List PT} (h : LIn w x Q) (hb : Below w.heap.size w w') : LIn w' x Q := ⟨h.1, fun q hq => (h.2.1 q hq).below hb, h.2.2.below hb⟩
theorem LIn0.below {w w' : World} {x : Option Addr} {Q : List PT} (h : LIn0 w x Q) (hb : Below w.heap.size w w') : LIn0 w' x Q := ⟨h.1, fun q hq => (h.2.1 q hq).below hb, h.2.2.below hb⟩
/-- The cells of table i. -/
theorem Rd.tab {w : World} {x : Option Addr} {Q : List PT} {i : Nat} (h : Rd w x (tbC Q)) (hi : i < Q.length) :
    ∃ b off q, x = some ⟨b, off, none⟩ ∧ b < w.heap.size ∧ Q[i]? = some q ∧ w.cell? ⟨b, off + i * 4, none⟩ = some (.int .i64 q.l) ∧ w.cell? ⟨b, off + i * 4 + 1, none⟩ = some (.slice q.x q.F.length q.c) ∧ w.cell? ⟨b, off + i * 4 + 2, none⟩ = some (.slice q.z q.W.length q.d) ∧ w.cell? ⟨b, off + i * 4 + 3, none⟩ = some (.int .i64 q.m) := by
  rcases h with h | ⟨b, off, e, hl, hc⟩
  · have := tbC_len Q
    rw [h] at this
    simp at this
    omega
  · obtain ⟨q0, q1, q2, q3⟩ := tbC_at (List.getElem?_eq_getElem hi)
    exact ⟨b, off, Q[i], e, hl, List.getElem?_eq_getElem hi, hc _ _ q0, hc _ _ q1, hc _ _ q2, hc _ _ q3⟩
/-- A list of tables that a call owns: its row, the rows of its tables; no block twice. -/
def OwP (w : World) (lo hi : Nat) (te ti : TypeId) (v : Value) (Q : List PT) : Prop :=
  OwR w lo hi te 4 v Q.length (tbC Q) ∧ OwV w lo hi ti (fl Q) ∧ ∀ q ∈ fl Q, ∀ k, v.ownBlock = some k → q.v.ownBlock ≠ some k
section
variable {lo hi : Nat} {w w1 : World} {te ti : TypeId} {v : Value} {Q : List PT}
theorem OwP.below (h : OwP w lo hi te ti v Q) (hb : Below w.heap.size w w1) : OwP w1 lo hi te ti v Q := ⟨h.1.below hb, h.2.1.below hb, h.2.2⟩
theorem OwP.off {lo2 hi2 : Nat} (h : OwP w lo hi te ti v Q) (hg : Off lo2 hi2 w w1) (hne : hi ≤ lo2 ∨ hi2 ≤ lo) : OwP w1 lo hi te ti v Q := ⟨h.1.off hg hne, h.2.1.off hg hne, h.2.2⟩
theorem OwP.more {lo' hi' : Nat} (h : OwP w lo hi te ti v Q) (h1 : lo' ≤ lo) (h2 : hi ≤ hi') : OwP w lo' hi' te ti v Q := ⟨h.1.more h1 h2, h.2.1.more h1 h2, h.2.2⟩
theorem OwP.form (h : OwP w lo hi te ti v Q) : ∃ x c, v = .slice x Q.length c ∧ Q.length ≤ c ∧ (x = none → c = 0) := h.1.form
end
theorem fl_tot {Q : List PT} {q : PT} (h : q ∈ Q) : q.F.length ≤ tot (fl Q) ∧ q.W.length ≤ tot (fl Q) := ⟨tot_mem (fl_mem h).1, tot_mem (fl_mem h).2⟩
theorem LIn.of_owP {w W : World} {lo hi : Nat} {te ti : TypeId} {x y : Option Addr} {c : Nat} {T Q : List PT} (h : OwP w lo hi te ti (.slice x T.length c) T) (hT : tM T = tM Q) (hQ : LIn0 W y Q) (hl : Q.length ≤ 1048576) (ht : tot (fl Q) ≤ 1048576) : LIn w x T := by
  refine ⟨by rw [tM_length hT]; exact hl, fun t hm => ?_, h.1.rd⟩
  obtain ⟨i, hi, e⟩ := List.getElem_of_mem hm
  have hTi : T[i]? = some t := by rw [List.getElem?_eq_getElem hi, e]
  have hQl : i < Q.length := by rw [← tM_length hT]; exact hi
  have hQi : Q[i]? = some Q[i] := List.getElem?_eq_getElem hQl
  obtain ⟨_, e2, e3, _⟩ := tM_get hT hQi hTi
  have g := hQ.2.1 Q[i] (List.getElem_mem hQl)
  have k := fl_tot (List.getElem_mem hQl)
  have m := fl_mem hm
  exact ⟨⟨by rw [e2]; omega, by rw [e2]; exact g.1.2.1, (h.2.1.1 _ m.1).rd⟩, ⟨by rw [e3]; omega, by rw [e3]; exact g.2.2.1, (h.2.1.1 _ m.2).rd⟩⟩
theorem LIn.len {w : World} {x : Option Addr} {Q : List PT} (h : LIn w x Q) : Q.length ≤ 9223372036854775807 ∧ ∀ q ∈ Q, q.F.length ≤ 9223372036854775807 ∧ q.W.length ≤ 9223372036854775807 := ⟨by have := h.1; omega, fun q hq => by have h2 := h.2.1 q hq; have := h2.1.1; have := h2.2.1; omega⟩
theorem OwV.snoc2 {w : World} {lo mid hi : Nat} {T : List PT} {q : PT} (h : OwV w lo mid 3 (fl T)) (hq : OwT w mid hi q.u q.v q.F q.W) (h1 : lo ≤ mid) : OwV w lo hi 3 (fl (T ++ [q])) := by
  obtain ⟨k, k1, k2, a, b⟩ := hq
  rw [fl_app, show fl [q] = [q.p] ++ [q.r] from rfl, ← List.append_assoc]
  exact (h.snoc (q := q.p) a h1 k1).snoc (q := q.r) b (by omega) k2
theorem tot_fl_take {Q : List PT} {i : Nat} {q : PT} (h : Q[i]? = some q) : tot (fl (Q.take (i + 1))) = tot (fl (Q.take i)) + (q.F.length + q.W.length) := by
  rw [take_snoc h, fl_app]
  unfold tot
  simp [fl, PT.p, PT.r]

/-- What a size of tables says. -/
def SzPostT (left : Int) (Q : List PT) (w : World) (e : Ending) (w' : World) : Prop :=
  ∃ r : Int, e = .returned (.int .i64 r) ∧ r ≤ left ∧ -1 ≤ r ∧ (0 ≤ r → r + Q.length + tot (fl Q) = left) ∧ Below w.heap.size w w'
set_option maxHeartbeats 1000000 in
theorem szTableS_any (x : Option Addr) (cap : Nat) (Q : List PT) (left : Int) (w : World) (hl : 0 ≤ left) (h : left ≤ 1048576) (hm : Q.length ≤ 9223372036854775807) (hn : ∀ q ∈ Q, q.F.length ≤ 9223372036854775807 ∧ q.W.length ≤ 9223372036854775807) (hS : Rd w x (tbC Q)) :
    Calls Tryd.prog 20 #[.slice x Q.length cap, .int .i64 left] w (SzPostT left Q w) := by
  have hnh := Lib.hid hn
  clear hn
  by_cases k : left < Q.length
  · clear hS
    go_enter Tryd.func20, Tryd.ntmps20
    go_wp2
    go_ret
    exact ⟨-1, rfl, by omega, by omega, fun h => by omega, (by repeat (first | exact Below.refl _ _ | assumption | refine Below.drew ?_ | refine below_drewN ?_ _ | refine Below.alloc' ?_ _ | (refine Below.setCell ?_ (by first | omega | (simp; done) | (simp; omega) | exact Below.size (by assumption) | exact Nat.le_trans (Below.size (by assumption)) (by simp)) _) | (refine Below.via' ?_ (by assumption)) | (refine Below.alloc ?_ (by first | omega | (simp; done) | (simp; omega) | exact Below.size (by assumption) | exact Nat.le_trans (Below.size (by assumption)) (by simp)) _) | (refine Below.via ?_ (by assumption) (by first | omega | (simp; done) | (simp; omega) | exact Below.size (by assumption) | exact Nat.le_trans (Below.size (by assumption)) (by simp)))))⟩
  go_enter Tryd.func20, Tryd.ntmps20
  go_wp2
  go_loopw [1, 5] (fun q c wr => ∃ (i : Nat) (r : Int), i ≤ Q.length ∧ c = .int .i64 i ∧ q = .int .i64 r ∧ 0 ≤ r ∧ r ≤ left ∧ Hid (r + Q.length + tot (fl (Q.take i)) = left) ∧ Below w.heap.size w wr) (fun _ c _ => Q.length - (intOf c).toNat)
  case atStart => exact ⟨0, _, by omega, rfl, rfl, by omega, by omega, (by unfold Hid; simp [fl, tot]), Below.refl _ _⟩
  case round =>
    obtain ⟨i, r, hi, rfl, rfl, h0, h1, hall, hb⟩ := hrel
    by_cases hlt : i < Q.length
    · obtain ⟨bl, off, q, rfl, hbl, hSi, hc0, hc1, hc2, hc3⟩ := (hS.below hb).tab hlt
      have hnm := hnh.out _ (List.mem_of_getElem? hSi)
      have hSi := Lib.hid hSi
      clear hS
      have hlt' : (i : Int) < (Q.length : Int) := by omega
      go_wp2_with fail
      refine (szTable_x _ _ _ _ _ _ _ _ _ _ (by omega) (by omega) hnm.1 hnm.2).mono ?_
      rintro e w2 ⟨r2, rfl, ha, hbb, hcc, hb2⟩
      by_cases hneg : r2 < 0
      · clear hcc
        go_wp2
        go_ret
        exact ⟨-1, rfl, by omega, by omega, fun h => by omega, (by repeat (first | exact Below.refl _ _ | assumption | refine Below.drew ?_ | refine below_drewN ?_ _ | refine Below.alloc' ?_ _ | (refine Below.setCell ?_ (by first | omega | (simp; done) | (simp; omega) | exact Below.size (by assumption) | exact Nat.le_trans (Below.size (by assumption)) (by simp)) _) | (refine Below.via' ?_ (by assumption)) | (refine Below.alloc ?_ (by first | omega | (simp; done) | (simp; omega) | exact Below.size (by assumption) | exact Nat.le_trans (Below.size (by assumption)) (by simp)) _) | (refine Below.via ?_ (by assumption) (by first | omega | (simp; done) | (simp; omega) | exact Below.size (by assumption) | exact Nat.le_trans (Below.size (by assumption)) (by simp)))))⟩
      · have hlh := Lib.hid (hcc (by omega))
        clear hcc
        go_wp2
        go_roundw
        case rel =>
          refine ⟨i + 1, _, by omega, by go_num, rfl, by omega, by omega, ?_, (by repeat (first | exact Below.refl _ _ | assumption | refine Below.drew ?_ | refine below_drewN ?_ _ | refine Below.alloc' ?_ _ | (refine Below.setCell ?_ (by first | omega | (simp; done) | (simp; omega) | exact Below.size (by assumption) | exact Nat.le_trans (Below.size (by assumption)) (by simp)) _) | (refine Below.via' ?_ (by assumption)) | (refine Below.alloc ?_ (by first | omega | (simp; done) | (simp; omega) | exact Below.size (by assumption) | exact Nat.le_trans (Below.size (by assumption)) (by simp)) _) | (refine Below.via ?_ (by assumption) (by first | omega | (simp; done) | (simp; omega) | exact Below.size (by assumption) | exact Nat.le_trans (Below.size (by assumption)) (by simp)))))⟩
          have := hall.out
          have := hlh.out
          unfold Hid
          rw [tot_fl_take hSi.out]
          omega
        case measure => simp [intOf]; omega
    · have hij : i = Q.length := by omega
      subst hij
      clear hS
      go_wp2
      go_ret
      refine ⟨r, rfl, by omega, by omega, fun _ => ?_, hb⟩
      have := hall.out
      rwa [List.take_length] at this

theorem Tryd.infoTb : (Tryd.prog.info? 37).map (fun i => (i.zero, i.size, i.bytes)) = some (some (.agg #[.int .i64 0, .slice none 0 0, .slice none 0 0, .int .i64 0]), 4, 64) := by kernel_rfl
/-- A list of tables that the law has copied. -/
def LcPost (Q : List PT) (w : World) (e : Ending) (w' : World) : Prop :=
  ∃ T : List PT, e = .returned (.slice (some ⟨w.heap.size, 0, none⟩) T.length T.length) ∧ tM T = tM Q ∧ OwP w' w.heap.size w'.heap.size 37 3 (.slice (some ⟨w.heap.size, 0, none⟩) T.length T.length) T ∧ Below w.heap.size w w'
set_option maxHeartbeats 4000000 in
theorem toTableS_any (x : Option Addr) (cap : Nat) (Q : List PT) (w : World) (hm : Q.length ≤ 1048576) (hQ : ∀ q ∈ Q, (q.F.length ≤ 1048576 ∧ Rd w q.x (iC q.F)) ∧ (q.W.length ≤ 1048576 ∧ Rd w q.z (iC q.W))) (hS : Rd w x (tbC Q)) :
    Calls Tryd.prog 22 #[.slice x Q.length cap] w (LcPost Q w) := by
  obtain ⟨i0, hi, hz0, hz1, hz2⟩ := info_parts Tryd.infoTb
  have hbb : i0.bytes * Q.length ≤ 281474976710656 := by rw [hz2]; omega
  have hmm : Q.length ≤ maxLen := by unfold maxLen; omega
  have hQh := Lib.hid hQ
  clear hQ
  go_enter Tryd.func22, Tryd.ntmps22
  go_wp2_with (at_make; go_loud (refine wpList_make_full _ rfl _ _ 48 rfl w.heap.size 37 i0 (.agg #[.int .i64 0, .slice none 0 0, .slice none 0 0, .int .i64 0]) 4 Tryd.underlying48 hi hz0 hz1 .i64 .i64 _ _ Q.length rfl rfl rfl rfl hbb hmm (Nat.le_refl _) (fun w1 hown hgrow => ?_)))
  have hb1 : Below w.heap.size w w1 := (Below.refl _ _).grown hgrow (Nat.le_refl _) (by intro k hk; cases hk)
  have hs1 : w.heap.size + 1 ≤ w1.heap.size := (own_lt hown).2
  clear hgrow hi hz0 hz1 hz2
  go_loopw [4] (fun c wr => ∃ (i : Nat) (xs : List Value) (T : List PT), i ≤ Q.length ∧ c = .int .i64 i ∧ wr.ownsRow w.heap.size 37 4 (.slice (some ⟨w.heap.size, 0, none⟩) Q.length Q.length) Q.length xs ∧ Hid (∀ j, j < i * 4 → xs[j]? = (tbC T)[j]?) ∧ Hid (tM T = (tM Q).take i ∧ T.length = i) ∧ Hid (OwV wr (w.heap.size + 1) wr.heap.size 3 (fl T)) ∧ w.heap.size + 1 ≤ wr.heap.size ∧ Below w.heap.size w wr) (fun c _ => Q.length - (intOf c).toNat)
  case atStart => exact ⟨0, _, [], by omega, rfl, hown, (fun j hj => absurd hj (by omega)), ⟨by simp [tM], rfl⟩, ⟨fun q hq => by simp [fl] at hq, by simp [fl]⟩, hs1, hb1⟩
  case round =>
    clear hown hb1 hs1
    obtain ⟨i, xs, T, hi, rfl, hown, hdone, hT, hV, hsz, hb⟩ := hrel
    by_cases hlt : i < Q.length
    · obtain ⟨bl, off, q, rfl, hbl, hSi, hc0, hc1, hc2, hc3⟩ := (hS.below hb).tab hlt
      obtain ⟨⟨hq1, hq2⟩, ⟨hq3, hq4⟩⟩ := hQh.out q (List.mem_of_getElem? hSi)
      have hq2 := Lib.hid (hq2.below hb)
      have hq4 := Lib.hid (hq4.below hb)
      obtain ⟨u0, hu0, k0⟩ := own_cell hown (j := i * 4) (by omega)
      obtain ⟨u1, hu1, k1⟩ := own_cell hown (j := i * 4 + 1) (by omega)
      obtain ⟨u2, hu2, k2⟩ := own_cell hown (j := i * 4 + 2) (by omega)
      obtain ⟨u3, hu3, k3⟩ := own_cell hown (j := i * 4 + 3) (by omega)
      have f0 := hown.frozenAt (i * 4)
      have f1 := hown.frozenAt (i * 4 + 1)
      have f2 := hown.frozenAt (i * 4 + 2)
      have f3 := hown.frozenAt (i * 4 + 3)
      have k4 := (own_lt hown).2
      replace hu0 := Lib.hid hu0
      replace hu1 := Lib.hid hu1
      replace hu2 := Lib.hid hu2
      replace hu3 := Lib.hid hu3
      replace hSi := Lib.hid hSi
      have hoh := Lib.hid hown
      have hlt' : (i : Int) < (Q.length : Int) := by omega
      clear hS hown
      go_wp2_with fail
      refine (toTable_any _ _ _ _ _ _ _ _ _ hq1 hq3 (hq2.out.below (by exact (by repeat (first | exact Below.refl _ _ | assumption | refine Below.drew ?_ | refine below_drewN ?_ _ | refine Below.alloc' ?_ _ | (refine Below.setCell ?_ (by first | omega | (simp; done) | (simp; omega) | exact Below.size (by assumption) | exact Nat.le_trans (Below.size (by assumption)) (by simp)) _) | (refine Below.via' ?_ (by assumption)) | (refine Below.alloc ?_ (by first | omega | (simp; done) | (simp; omega) | exact Below.size (by assumption) | exact Nat.le_trans (Below.size (by assumption)) (by simp)) _) | (refine Below.via ?_ (by assumption) (by first | omega | (simp; done) | (simp; omega) | exact Below.size (by assumption) | exact Nat.le_trans (Below.size (by assumption)) (by simp))))))) (hq4.out.below (by exact (by repeat (first | exact Below.refl _ _ | assumption | refine Below.drew ?_ | refine below_drewN ?_ _ | refine Below.alloc' ?_ _ | (refine Below.setCell ?_ (by first | omega | (simp; done) | (simp; omega) | exact Below.size (by assumption) | exact Nat.le_trans (Below.size (by assumption)) (by simp)) _) | (refine Below.via' ?_ (by assumption)) | (refine Below.alloc ?_ (by first | omega | (simp; done) | (simp; omega) | exact Below.size (by assumption) | exact Nat.le_trans (Below.size (by assumption)) (by simp)) _) | (refine Below.via ?_ (by assumption) (by first | omega | (simp; done) | (simp; omega) | exact Below.size (by assumption) | exact Nat.le_trans (Below.size (by assumption)) (by simp)))))))).mono ?_
      rintro e w2 ⟨g, f, rfl, ho2, hb2⟩
      obtain ⟨hcl2, hfr2⟩ := bcell hb2
      have hz2 := hb2.size; (try simp at hz2); (try (have hly2 := Nat.lt_of_succ_le hz2)); (try (have hlx2 := Nat.lt_of_succ_lt hly2)); (try (have hlw2 := Nat.lt_of_succ_lt hlx2)); (try (have hle2 := Nat.le_of_lt hly2))
      have ho2h := Lib.hid ho2
      clear ho2
      go_wp2
      go_roundw
      case rel =>
        have st0 := (own_below hoh.out hb2).stored (i * 4) (.int .i64 q.l)
        have st1 := st0.1.stored (i * 4 + 1) (PT.u ⟨q.l, some ⟨g, 0, none⟩, q.F.length, q.F, some ⟨f, 0, none⟩, q.W.length, q.W, q.m⟩)
        have st2 := st1.1.stored (i * 4 + 2) (PT.v ⟨q.l, some ⟨g, 0, none⟩, q.F.length, q.F, some ⟨f, 0, none⟩, q.W.length, q.W, q.m⟩)
        have st3 := st2.1.stored (i * 4 + 3) (.int .i64 q.m)
        have hoff := (((Off.of_grown (lo := w.heap.size) (hi := w.heap.size + 1) st0.2 (by intro k hk; injection hk with hk; omega)).trans (Off.of_grown st1.2 (by intro k hk; injection hk with hk; omega))).trans (Off.of_grown st2.2 (by intro k hk; injection hk with hk; omega))).trans (Off.of_grown st3.2 (by intro k hk; injection hk with hk; omega))
        refine ⟨i + 1, _, T ++ [⟨q.l, some ⟨g, 0, none⟩, q.F.length, q.F, some ⟨f, 0, none⟩, q.W.length, q.W, q.m⟩], by omega, by go_num, st3.1, (by exact tbC_snoc_at (q := ⟨q.l, some ⟨g, 0, none⟩, q.F.length, q.F, some ⟨f, 0, none⟩, q.W.length, q.W, q.m⟩) hT.out.2 hlt hoh.out.1 hdone.out), ?_, ?_, ?_, (by repeat (first | exact Below.refl _ _ | assumption | refine Below.drew ?_ | refine below_drewN ?_ _ | refine Below.alloc' ?_ _ | (refine Below.setCell ?_ (by first | omega | (simp; done) | (simp; omega) | exact Below.size (by assumption) | exact Nat.le_trans (Below.size (by assumption)) (by simp)) _) | (refine Below.via' ?_ (by assumption)) | (refine Below.alloc ?_ (by first | omega | (simp; done) | (simp; omega) | exact Below.size (by assumption) | exact Nat.le_trans (Below.size (by assumption)) (by simp)) _) | (refine Below.via ?_ (by assumption) (by first | omega | (simp; done) | (simp; omega) | exact Below.size (by assumption) | exact Nat.le_trans (Below.size (by assumption)) (by simp)))))⟩
        · refine ⟨?_, by simp [hT.out.2]⟩
          rw [tM_app, hT.out.1, take_snoc (tM_at hSi.out)]
          rfl
        · refine OwV.off (lo2 := w.heap.size) (hi2 := w.heap.size + 1) ?_ hoff (Or.inr (by omega))
          exact ((OwV.snoc2 (q := ⟨q.l, some ⟨g, 0, none⟩, q.F.length, q.F, some ⟨f, 0, none⟩, q.W.length, q.W, q.m⟩) (hV.out.below hb2) ho2h.out (by omega))).more (Nat.le_refl _) (by simp)
        · simp; omega
      case measure => simp [intOf]; omega
    · have hij : i = Q.length := by omega
      subst hij
      have hxs : xs = tbC T := tbC_ext hown.1 hT.out.2 hdone.out
      subst hxs
      have hTl := hT.out.2
      have hTm : Hid (tM T = tM Q) := by have := hT.out.1; unfold Hid; rwa [← tM_len Q, List.take_length] at this
      have hres : Hid (OwP wr w.heap.size wr.heap.size 37 3 (.slice (some ⟨w.heap.size, 0, none⟩) T.length T.length) T) := by
        rw [hTl]
        refine ⟨?_, hV.out.more (by omega) (Nat.le_refl _), fun q hq k hk e => ?_⟩
        · rw [hTl]; exact OwR.of hown
        · have := (hV.out.1 q hq).2 k e
          injection hk with hk
          simp at hk
          omega
      clear hS hdone hown hV hT
      rw [← hTl]
      go_wp2
      go_ret
      exact ⟨T, rfl, hTm.out, hres.out, hb⟩

set_option maxHeartbeats 2000000 in
theorem eqTableS_any (x y : Option Addr) (c1 c2 : Nat) (Q T : List PT) (w : World) (hT : tM T = tM Q) (hX : LIn w x Q) (hY : LIn w y T) :
    Calls Tryd.prog 24 #[.slice x Q.length c1, .slice y T.length c2] w fun e w' => e = .returned (.bool true) ∧ Below w.heap.size w w' := by
  have hTl := tM_length hT
  have hTh := Lib.hid hT
  have hxh := Lib.hid hX
  have hyh := Lib.hid hY
  have hl1 := hX.1
  clear hT hX hY
  rw [hTl]
  replace hTl := Lib.hid hTl
  go_enter Tryd.func24, Tryd.ntmps24
  go_wp2
  go_loopw [5] (fun c wr => ∃ i : Nat, i ≤ Q.length ∧ c = .int .i64 i ∧ Below w.heap.size w wr) (fun c _ => Q.length - (intOf c).toNat)
  case atStart => exact ⟨0, by omega, rfl, Below.refl _ _⟩
  case round =>
    obtain ⟨i, hi, rfl, hb⟩ := hrel
    by_cases hlt : i < Q.length
    · obtain ⟨bl, off, q, rfl, hbl, hSi, hc0, hc1, hc2, hc3⟩ := (hxh.out.2.2.below hb).tab hlt
      obtain ⟨bl2, off2, ⟨tl, tx, tc, tF, tz, td, tW, tm⟩, rfl, hbl2, hSi2, hd0, hd1, hd2, hd3⟩ := (hyh.out.2.2.below hb).tab (i := i) (by have := hTl.out; omega)
      obtain ⟨e1, e2, e3, e4⟩ := tM_get hTh.out hSi hSi2
      simp only at e1 e2 e3 e4 hd0 hd1 hd2 hd3
      subst e1 e2 e3 e4
      have hl := hxh.out.len.2 q (List.mem_of_getElem? hSi)
      have r1 := Lib.hid ((hxh.out.2.1 q (List.mem_of_getElem? hSi)).below hb)
      have r2 := Lib.hid ((hyh.out.2.1 _ (List.mem_of_getElem? hSi2)).below hb)
      clear hSi hSi2
      have hlt' : (i : Int) < (Q.length : Int) := by omega
      have hi0 : (0 : Int) ≤ (i : Int) := by omega
      go_wp2
      go_region_held3 (fun w' => Below (wr).heap.size (wr) w' ∧ (∀ b o, b < (wr).heap.size → w'.cell? ⟨b, o, none⟩ = (wr).cell? ⟨b, o, none⟩)) (first | exact keep_of (Below.refl _ _) | ((try go_split_ands); exact keep_of (by repeat (first | exact Below.refl _ _ | assumption | refine Below.drew ?_ | refine below_drewN ?_ _ | refine Below.alloc' ?_ _ | (refine Below.setCell ?_ (by first | omega | (simp; done) | (simp; omega) | exact Below.size (by assumption) | exact Nat.le_trans (Below.size (by assumption)) (by simp)) _) | (refine Below.via' ?_ (by assumption)) | (refine Below.alloc ?_ (by first | omega | (simp; done) | (simp; omega) | exact Below.size (by assumption) | exact Nat.le_trans (Below.size (by assumption)) (by simp)) _) | (refine Below.via ?_ (by assumption) (by first | omega | (simp; done) | (simp; omega) | exact Below.size (by assumption) | exact Nat.le_trans (Below.size (by assumption)) (by simp))))))) (first | (go_at_call 17; refine (eqTable_any _ _ _ _ q.l q.m q.F q.W _ hl.1 hl.2 (r1.out.below (by exact (by repeat (first | exact Below.refl _ _ | assumption | refine Below.drew ?_ | refine below_drewN ?_ _ | refine Below.alloc' ?_ _ | (refine Below.setCell ?_ (by first | omega | (simp; done) | (simp; omega) | exact Below.size (by assumption) | exact Nat.le_trans (Below.size (by assumption)) (by simp)) _) | (refine Below.via' ?_ (by assumption)) | (refine Below.alloc ?_ (by first | omega | (simp; done) | (simp; omega) | exact Below.size (by assumption) | exact Nat.le_trans (Below.size (by assumption)) (by simp)) _) | (refine Below.via ?_ (by assumption) (by first | omega | (simp; done) | (simp; omega) | exact Below.size (by assumption) | exact Nat.le_trans (Below.size (by assumption)) (by simp))))))) (r2.out.below (by exact (by repeat (first | exact Below.refl _ _ | assumption | refine Below.drew ?_ | refine below_drewN ?_ _ | refine Below.alloc' ?_ _ | (refine Below.setCell ?_ (by first | omega | (simp; done) | (simp; omega) | exact Below.size (by assumption) | exact Nat.le_trans (Below.size (by assumption)) (by simp)) _) | (refine Below.via' ?_ (by assumption)) | (refine Below.alloc ?_ (by first | omega | (simp; done) | (simp; omega) | exact Below.size (by assumption) | exact Nat.le_trans (Below.size (by assumption)) (by simp)) _) | (refine Below.via ?_ (by assumption) (by first | omega | (simp; done) | (simp; omega) | exact Below.size (by assumption) | exact Nat.le_trans (Below.size (by assumption)) (by simp)))))))).mono ?_; rintro e w2 ⟨rfl, hb2⟩)); rename_i hH; obtain ⟨hb2, hcl2⟩ := hH; have hz2 := hb2.size; (try simp at hz2); (try (have hly2 := Nat.lt_of_succ_le hz2)); (try (have hlx2 := Nat.lt_of_succ_lt hly2)); (try (have hlw2 := Nat.lt_of_succ_lt hlx2)); (try (have hle2 := Nat.le_of_lt hly2)); (try (have hya2 : w.heap.size < w2.heap.size := by omega)); (try (have hyb2 : w.heap.size + 1 < w2.heap.size := by omega)); (try (have hyc2 : w.heap.size + 1 + 1 < w2.heap.size := by omega)); (try (have hyd2 : wa.heap.size < w2.heap.size := by omega))
      go_wp2
      go_roundw
      case rel => exact ⟨i + 1, by omega, by go_num, (by repeat (first | exact Below.refl _ _ | assumption | refine Below.drew ?_ | refine below_drewN ?_ _ | refine Below.alloc' ?_ _ | (refine Below.setCell ?_ (by first | omega | (simp; done) | (simp; omega) | exact Below.size (by assumption) | exact Nat.le_trans (Below.size (by assumption)) (by simp)) _) | (refine Below.via' ?_ (by assumption)) | (refine Below.alloc ?_ (by first | omega | (simp; done) | (simp; omega) | exact Below.size (by assumption) | exact Nat.le_trans (Below.size (by assumption)) (by simp)) _) | (refine Below.via ?_ (by assumption) (by first | omega | (simp; done) | (simp; omega) | exact Below.size (by assumption) | exact Nat.le_trans (Below.size (by assumption)) (by simp)))))⟩
      case measure => simp [intOf]; omega
    · have hij : i = Q.length := by omega
      subst hij
      go_wp2
      go_ret
      exact ⟨rfl, hb⟩
end Go.Proofs.YtpmbenedeakieabDoor

namespace Go.Proofs.YtpmbenedeakieabDoor
open Go.ChangeShapes Go.WideShapes Go.ChangeAt Go.RowKit
open Go.Joins Go.Deep
set_option maxRecDepth 100000

instance : Inhabited PT := ⟨⟨0, none, 0, [], none, 0, [], 0⟩⟩
/-- A table out of its four cells. -/
theorem open_tabC {H : Type} {enc : TypeId × Value → H} {W : World} {fuel : Nat} {cs : List Value} {z : DataW H × List MemPlace} (hl : cs.length = 4)
    (hf : DataW.trod enc Tryd.prog W 0 (fun _ => true) true fuel 27 cs = some z) : ∃ q : PT, cs = q.cs ∧ TOk0 W q := by
  obtain ⟨y0, y1, y2, y3, n, rfl, hlen, h0, h1, h2, h3⟩ := trod_struct4 Tryd.underlying27 hf
  match cs, hl with
  | [v0, v1, v2, v3], _ =>
    simp only [show Tryd.prog.cellsOf 3 = 1 from cInt, show Tryd.prog.cellsOf 22 = 1 from by kernel_rfl, List.drop_zero, List.drop_succ_cons, List.take_succ_cons, List.take_zero] at h0 h1 h2 h3
    obtain ⟨a, e0, _, wa⟩ := DataW.trod_int Tryd.underlying3 h0
    obtain ⟨b, e3, _, wb⟩ := DataW.trod_int Tryd.underlying3 h3
    obtain ⟨x, cap, L, hcs, hl, hn, hr⟩ := open_intC h1
    obtain ⟨y, cap2, M, hcs2, hl2, hn2, hr2⟩ := open_intC h2
    simp at e0 e3 hcs hcs2
    subst e0 e3 hcs hcs2
    exact ⟨⟨a, x, cap, L, y, cap2, M, b⟩, rfl, ⟨hl, hn.out, hr.out⟩, ⟨hl2, hn2.out, hr2.out⟩⟩
/-- A list of tables that comes in. -/
theorem open_tables {H : Type} {enc : TypeId × Value → H} {W : World} {base : Nat} {v : Value} {d : DataW H} {p : List MemPlace} (hv : Value.okWide Tryd.prog W .any base 45 v)
    (h : DataW.Trod enc Tryd.prog W 0 (fun _ => true) true 45 v d p) : ∃ x cap Q, v = .slice x Q.length cap ∧ Hid (LIn0 W x Q) ∧ Q.length ≤ 9223372036854775807 := by
  obtain ⟨a0, len, cap, rfl⟩ := okWide_slice Tryd.underlying45 hv
  obtain ⟨fuel, hf⟩ := h
  rcases Deep.open_slice Tryd.underlying45 hf with ⟨hcs, _⟩ | ⟨a, len', cap', m, n, D, P0, hcs, _, hl, hm, hmm, _, hi⟩
  · simp [Value.cells] at hcs
    obtain ⟨rfl, rfl, rfl⟩ := hcs
    exact ⟨none, 0, [], rfl, (show LIn0 W none [] from ⟨by simp, fun q hq => (by cases hq), Or.inl rfl⟩), by simp⟩
  · simp [Value.cells] at hcs
    obtain ⟨rfl, rfl, rfl⟩ := hcs
    simp only [if_true] at hmm
    subst hmm
    have each : ∀ i, i < m → ∃ q : PT, W.cell? (a.add (i * 4)) = some (.int .i64 q.l) ∧ W.cell? (a.add (i * 4 + 1)) = some q.u ∧ W.cell? (a.add (i * 4 + 2)) = some q.v ∧ W.cell? (a.add (i * 4 + 3)) = some (.int .i64 q.m) ∧ TOk0 W q := by
      intro i him
      obtain ⟨cs, h1, h2⟩ := hi i him
      rw [cellsT] at h1
      obtain ⟨_, hlen, hcell⟩ := World.cells?_some h1
      obtain ⟨q, rfl, hq⟩ := open_tabC hlen h2
      have e0 := hcell 0 (by omega)
      have e1 := hcell 1 (by omega)
      have e2 := hcell 2 (by omega)
      have e3 := hcell 3 (by omega)
      rw [Deep.add_add] at e0 e1 e2 e3
      exact ⟨q, by simpa [PT.cs] using e0, by simpa [PT.cs] using e1, by simpa [PT.cs] using e2, by simpa [PT.cs] using e3, hq⟩
    obtain ⟨q, hq⟩ := Deep.choose_lt each
    have hlen : ((List.range len).map q).length = len := by simp
    refine ⟨some a, m, (List.range len).map q, by rw [hlen], (show LIn0 W (some a) _ from ⟨by rw [hlen]; unfold maxLen at hm; omega, fun r hr => ?_, ?_⟩), by rw [hlen]; unfold maxLen at hm; omega⟩
    · obtain ⟨i, hi1, rfl⟩ := List.mem_map.1 hr
      exact (hq i (by have := List.mem_range.1 hi1; omega)).2.2.2.2
    by_cases h0 : len = 0
    · subst h0
      exact Or.inl (by simp [tbC])
    obtain ⟨b, off, spot⟩ := a
    have hc0 := (hq 0 (by omega)).1
    have hspot : spot = none := by simpa [Addr.add] using World.cell?_spot hc0
    subst hspot
    have hblk : b < W.heap.size := World.block_lt_of_cell? W _ (by simpa [Addr.add] using hc0)
    refine Or.inr ⟨b, off, rfl, hblk, fun j u hj => ?_⟩
    have hjl : j < len * 4 := by
      have := (List.getElem?_eq_some_iff.1 hj).1
      rw [tbC_len, hlen] at this
      exact this
    have hat : ∀ i, i < len → ((List.range len).map q)[i]? = some (q i) := by
      intro i hil
      rw [List.getElem?_map, List.getElem?_range hil]
      rfl
    obtain ⟨k0, k1, k2, k3, _⟩ := hq (j / 4) (by omega)
    rw [addr_add] at k0 k1 k2 k3
    obtain ⟨q0, q1, q2, q3⟩ := tbC_at (hat (j / 4) (by omega))
    rcases (by omega : j = (j / 4) * 4 ∨ j = (j / 4) * 4 + 1 ∨ j = (j / 4) * 4 + 2 ∨ j = (j / 4) * 4 + 3) with e | e | e | e
    · rw [← e, hj] at q0
      cases q0
      rw [← e] at k0
      exact k0
    · rw [← e, hj] at q1
      cases q1
      rw [← e] at k1
      exact k1
    · rw [← e, hj] at q2
      cases q2
      rw [← e] at k2
      exact k2
    · rw [← e, hj] at q3
      cases q3
      rw [← e] at k3
      exact k3
end Go.Proofs.YtpmbenedeakieabDoor

namespace Go.Proofs.YtpmbenedeakieabDoor
open Go.RowKit
set_option maxRecDepth 100000

/-- A table is valid; a plan is. -/
def tvB (P : List Int) (S : List (ByteArray × Int)) (t : TV) : Bool := tgB P S t.1 t.2.1 t.2.2.1 t.2.2.2
def plB (P : List Int) (S : List (ByteArray × Int)) (M : List TV) : Bool := geB P && (schB S && (decide (M.length ≤ 20) && M.all (tvB P S)))
/-- The text of the first k tables of a plan; what PlanText answers. -/
def plW (S : List (ByteArray × Int)) (t : TV) : ByteArray := ttT S t.1 t.2.1 t.2.2.1 t.2.2.2 ++ ⟨#[10]⟩
def plL (S : List (ByteArray × Int)) (M : List TV) (k : Nat) : ByteArray := (M.take k).foldl (fun b t => b ++ plW S t) ⟨#[]⟩
def plR (P : List Int) (S : List (ByteArray × Int)) (M : List TV) : ByteArray := if plB P S M then plL S M M.length else ⟨#[]⟩
section
variable {P : List Int} {S : List (ByteArray × Int)} {M : List TV} {k : Nat} {t : TV}
theorem pl_no1 (h : geB P = false) : plB P S M = false := by unfold plB; rw [h]; rfl
theorem pl_no2 (h : schB S = false) : plB P S M = false := by unfold plB; rw [h]; simp
theorem pl_no3 (h : ¬ M.length ≤ 20) : plB P S M = false := by unfold plB; rw [decide_eq_false h]; simp
theorem pl_no4 (h : M[k]? = some t) (ht : tvB P S t = false) : plB P S M = false := by
  unfold plB
  rw [show M.all (tvB P S) = false from by
    rw [← Bool.not_eq_true, List.all_eq_true]
    intro hA
    have := hA t (List.mem_of_getElem? h)
    rw [ht] at this
    cases this]
  simp
theorem pl_yes (h1 : geB P = true) (h2 : schB S = true) (h3 : M.length ≤ 20) (h4 : ∀ j t, j < M.length → M[j]? = some t → tvB P S t = true) : plB P S M = true := by
  unfold plB
  rw [h1, h2, decide_eq_true h3, show M.all (tvB P S) = true from by
    rw [List.all_eq_true]
    intro t ht
    obtain ⟨i, hi, e⟩ := List.getElem_of_mem ht
    exact h4 i t hi (by rw [List.getElem?_eq_getElem hi, e])]
  rfl
theorem pl_len (h : plB P S M = true) : M.length ≤ 20 := by
  unfold plB at h
  simp only [Bool.and_eq_true, decide_eq_true_eq] at h
  exact h.2.2.1
theorem pl_at (h : plB P S M = true) (hk : M[k]? = some t) : TgP P S t.1 t.2.1 t.2.2.1 t.2.2.2 := by
  unfold plB at h
  simp only [Bool.and_eq_true, decide_eq_true_eq] at h
  exact tg_iff.1 (List.all_eq_true.1 h.2.2.2 t (List.mem_of_getElem? hk))
theorem plL_zero : plL S M 0 = ⟨#[]⟩ := rfl
theorem plL_next (h : M[k]? = some t) : plL S M (k + 1) = plL S M k ++ plW S t := by
  unfold plL
  rw [take_snoc h, List.foldl_append]
  rfl
theorem ttT_size (h : TgP P S t.1 t.2.1 t.2.2.1 t.2.2.2) : (ttT S t.1 t.2.1 t.2.2.1 t.2.2.2).size ≤ 910 := by
  have := oK_size h (i := S.length) (Nat.le_refl _)
  rwa [oK_all] at this
theorem plL_size (h : plB P S M = true) : ∀ k, k ≤ M.length → (plL S M k).size ≤ 911 * k
  | 0, _ => Nat.zero_le _
  | k + 1, hk => by
    have ih := plL_size h k (by omega)
    have hg : M[k]? = some M[k] := List.getElem?_eq_getElem (by omega)
    have h1 := ttT_size (pl_at h hg)
    rw [plL_next hg, ByteArray.size_append]
    unfold plW
    rw [ByteArray.size_append, show (⟨#[10]⟩ : ByteArray).size = 1 from rfl]
    omega
theorem plR_no (h : plB P S M = false) : plR P S M = ⟨#[]⟩ := by unfold plR; rw [h]; rfl
theorem plR_yes (h : plB P S M = true) : plR P S M = plL S M M.length := by unfold plR; rw [h]; rfl
end
end Go.Proofs.YtpmbenedeakieabDoor

namespace Go.Proofs.YtpmbenedeakieabDoor
open Go.RowKit
set_option maxRecDepth 100000

theorem ret_sbL {a b : ByteArray} {p q : Bool} (h : a = b) (k : p = q) : Ending.returned (.tuple #[.string a, .bool p]) = .returned (.tuple #[.string b, .bool q]) := by rw [h, k]
theorem isTb_y {c c2 c3 : Nat} {p x z : Option Addr} (y : Option Addr) (c1 : Nat) (P : List Int) (S : List (ByteArray × Int)) (l : Int) (F W : List Int) (m : Int) (w : World) (hP : IIn w p P) (hS : SIn w y c1 S) (hT : TIn w x z F W) :
    Calls Tryd.prog 34 #[.agg #[.slice p P.length c], .slice y S.length c1, .agg #[.int .i64 l, .slice x F.length c2, .slice z W.length c3, .int .i64 m]] w fun e w' => e = .returned (.bool (tgB P S l F W m)) ∧ Below w.heap.size w w' :=
  isTb_any p y x z c c1 c2 c3 P S l F W m w hP hS hT
theorem uGood_y {c c2 c3 : Nat} {p x z : Option Addr} (y : Option Addr) (c1 : Nat) (P : List Int) (S : List (ByteArray × Int)) (l : Int) (F W : List Int) (m : Int) (w : World) (hP : IIn w p P) (hS : SIn w y c1 S) (hT : TIn w x z F W) :
    Calls Tryd.prog 31 #[.agg #[.slice p P.length c], .slice y S.length c1, .agg #[.int .i64 l, .slice x F.length c2, .slice z W.length c3, .int .i64 m]] w fun e w' => e = .returned (.bool (tgB P S l F W m)) ∧ Below w.heap.size w w' :=
  uGood_any p y x z c c1 c2 c3 P S l m F W w hP hS hT
set_option maxHeartbeats 4000000 in
theorem isPlan_any (p y v : Option Addr) (c c1 c4 : Nat) (P : List Int) (S : List (ByteArray × Int)) (Q : List PT) (w : World) (hP : IIn w p P) (hS : SIn w y c1 S) (hQ : LIn w v Q) :
    Calls Tryd.prog 44 #[.agg #[.slice p P.length c], .slice y S.length c1, .slice v Q.length c4] w fun e w' => e = .returned (.bool (plB P S (tM Q))) ∧ Below w.heap.size w w' := by
  have hm := hS.1
  have hmQ := hQ.1
  have hPh := Lib.hid hP
  have hSh := Lib.hid hS
  have hQh := Lib.hid hQ
  have hML := tM_len Q
  clear hP hS hQ
  have p1 := Lib.hid (QB.new w p P.length c 33)
  obtain ⟨w0, hw0⟩ : ∃ w0, w0 = w.alloc (.cells #[.slice p P.length c] 33) := ⟨_, rfl⟩
  have B0 : Below w.heap.size w w0 := by rw [hw0]; exact (by repeat (first | exact Below.refl _ _ | assumption | refine Below.drew ?_ | refine below_drewN ?_ _ | refine Below.alloc' ?_ _ | (refine Below.setCell ?_ (by first | omega | (simp; done) | (simp; omega) | exact Below.size (by assumption) | exact Nat.le_trans (Below.size (by assumption)) (by simp)) _) | (refine Below.via' ?_ (by assumption)) | (refine Below.alloc ?_ (by first | omega | (simp; done) | (simp; omega) | exact Below.size (by assumption) | exact Nat.le_trans (Below.size (by assumption)) (by simp)) _) | (refine Below.via ?_ (by assumption) (by first | omega | (simp; done) | (simp; omega) | exact Below.size (by assumption) | exact Nat.le_trans (Below.size (by assumption)) (by simp)))))
  have g0 : Hid (QB w0 w.heap.size p P.length c) := by rw [hw0]; exact p1.out
  have z0 : w0.heap.size = w.heap.size + 1 := by rw [hw0]; simp
  clear p1
  obtain ⟨ka0, kb0, kc0⟩ := g0.out
  go_enter Tryd.func44, Tryd.ntmps44
  go_wp2_with fail
  rw [← hw0]
  replace hw0 := Lib.hid hw0
  replace z0 := Lib.hid z0
  refine (iGeo_any _ _ P _ (hPh.out.below B0)).mono ?_
  rintro e w1 ⟨rfl, hb1⟩
  have B1 : Below w.heap.size w w1 := Below.via' B0 hb1
  have g1 := Lib.hid (g0.out.below hb1)
  obtain ⟨ka1, kb1, kc1⟩ := g1.out
  try clear ka0 kb0 kc0
  clear hb1
  cases hg : geB P
  · have hv := Lib.hid (pl_no1 (S := S) (M := tM Q) hg)
    replace hg := Lib.hid hg
    go_wp2
    go_ret
    exact ⟨ret_boo hv.out.symm, B1⟩
  have hgh := Lib.hid hg
  clear hg
  go_wp2_with fail
  refine (isSch_x _ _ S _ (hSh.out.below B1)).mono ?_
  rintro e w2 ⟨rfl, hb2⟩
  have B2 : Below w.heap.size w w2 := Below.via' B1 hb2
  have g2 := Lib.hid (g1.out.below hb2)
  obtain ⟨ka2, kb2, kc2⟩ := g2.out
  try clear ka1 kb1 kc1
  clear hb2
  cases hs : schB S
  · have hv := Lib.hid (pl_no2 (P := P) (M := tM Q) hs)
    replace hs := Lib.hid hs
    go_wp2
    go_ret
    exact ⟨ret_boo hv.out.symm, B2⟩
  have hsh := Lib.hid hs
  clear hs
  by_cases hl : ¬ Q.length ≤ 20
  · have hv := Lib.hid (pl_no3 (P := P) (S := S) (M := tM Q) (by omega))
    have hl' : (20 : Int) < (Q.length : Int) := by omega
    replace hl := Lib.hid hl
    go_wp2
    go_ret
    exact ⟨ret_boo hv.out.symm, B2⟩
  replace hl := Decidable.of_not_not hl
  have hl' : ¬ (20 : Int) < (Q.length : Int) := by omega
  have hs1 := B2.size
  go_wp2
  go_loopw [24] (fun c wr => ∃ i : Nat, i ≤ Q.length ∧ c = .int .i64 i ∧ Hid (∀ j t, j < i → (tM Q)[j]? = some t → tvB P S t = true) ∧ Below w2.heap.size w2 wr) (fun c _ => Q.length - (intOf c).toNat)
  case atStart => exact ⟨0, by omega, by go_num, (fun j t hj => absurd hj (by omega)), Below.refl _ _⟩
  case round =>
    obtain ⟨i, hi, rfl, hall, hb⟩ := hrel
    have hBr := Below.via' B2 hb
    by_cases hlt : i < Q.length
    · obtain ⟨b1, o1, q, rfl, hb1, hQi, hc0, hc1, hc2, hc3⟩ := (hQh.out.2.2.below hBr).tab hlt
      have hTi := Lib.hid (hQh.out.2.1 q (List.mem_of_getElem? hQi))
      have hMi := tM_at hQi
      obtain ⟨ka, kb, kc⟩ := g2.out.below hb
      have hi' : (i : Int) < (Q.length : Int) := by omega
      have hi0 : (0 : Int) ≤ (i : Int) := by omega
      cases ht : tvB P S q.t
      · have hv := Lib.hid (pl_no4 hMi ht)
        have ht2 : tgB P S q.l q.F q.W q.m = false := ht
        replace ht := Lib.hid ht
        replace hMi := Lib.hid hMi
        replace hQi := Lib.hid hQi
        go_wp2_with fail
        refine (isTb_y _ _ P S _ _ _ _ _ (hPh.out.below (by exact (by repeat (first | exact Below.refl _ _ | assumption | refine Below.drew ?_ | refine below_drewN ?_ _ | refine Below.alloc' ?_ _ | (refine Below.setCell ?_ (by first | omega | (simp; done) | (simp; omega) | exact Below.size (by assumption) | exact Nat.le_trans (Below.size (by assumption)) (by simp)) _) | (refine Below.via' ?_ (by assumption)) | (refine Below.alloc ?_ (by first | omega | (simp; done) | (simp; omega) | exact Below.size (by assumption) | exact Nat.le_trans (Below.size (by assumption)) (by simp)) _) | (refine Below.via ?_ (by assumption) (by first | omega | (simp; done) | (simp; omega) | exact Below.size (by assumption) | exact Nat.le_trans (Below.size (by assumption)) (by simp))))))) (hSh.out.below (by exact (by repeat (first | exact Below.refl _ _ | assumption | refine Below.drew ?_ | refine below_drewN ?_ _ | refine Below.alloc' ?_ _ | (refine Below.setCell ?_ (by first | omega | (simp; done) | (simp; omega) | exact Below.size (by assumption) | exact Nat.le_trans (Below.size (by assumption)) (by simp)) _) | (refine Below.via' ?_ (by assumption)) | (refine Below.alloc ?_ (by first | omega | (simp; done) | (simp; omega) | exact Below.size (by assumption) | exact Nat.le_trans (Below.size (by assumption)) (by simp)) _) | (refine Below.via ?_ (by assumption) (by first | omega | (simp; done) | (simp; omega) | exact Below.size (by assumption) | exact Nat.le_trans (Below.size (by assumption)) (by simp))))))) (hTi.out.below (by exact (by repeat (first | exact Below.refl _ _ | assumption | refine Below.drew ?_ | refine below_drewN ?_ _ | refine Below.alloc' ?_ _ | (refine Below.setCell ?_ (by first | omega | (simp; done) | (simp; omega) | exact Below.size (by assumption) | exact Nat.le_trans (Below.size (by assumption)) (by simp)) _) | (refine Below.via' ?_ (by assumption)) | (refine Below.alloc ?_ (by first | omega | (simp; done) | (simp; omega) | exact Below.size (by assumption) | exact Nat.le_trans (Below.size (by assumption)) (by simp)) _) | (refine Below.via ?_ (by assumption) (by first | omega | (simp; done) | (simp; omega) | exact Below.size (by assumption) | exact Nat.le_trans (Below.size (by assumption)) (by simp)))))))).mono ?_
        rintro e w3 ⟨rfl, hb3⟩
        rw [ht2]
        have B3 : Below w.heap.size w w3 := (by repeat (first | exact Below.refl _ _ | assumption | refine Below.drew ?_ | refine below_drewN ?_ _ | refine Below.alloc' ?_ _ | (refine Below.setCell ?_ (by first | omega | (simp; done) | (simp; omega) | exact Below.size (by assumption) | exact Nat.le_trans (Below.size (by assumption)) (by simp)) _) | (refine Below.via' ?_ (by assumption)) | (refine Below.alloc ?_ (by first | omega | (simp; done) | (simp; omega) | exact Below.size (by assumption) | exact Nat.le_trans (Below.size (by assumption)) (by simp)) _) | (refine Below.via ?_ (by assumption) (by first | omega | (simp; done) | (simp; omega) | exact Below.size (by assumption) | exact Nat.le_trans (Below.size (by assumption)) (by simp)))))
        replace ht2 := Lib.hid ht2
        go_wp2
        go_ret
        exact ⟨ret_boo hv.out.symm, B3⟩
      · have ht2 : tgB P S q.l q.F q.W q.m = true := ht
        have hnx : Hid (∀ j t, j < i + 1 → (tM Q)[j]? = some t → tvB P S t = true) := by
          intro j t hj hjt
          rcases Nat.lt_or_ge j i with h | h
          · exact hall.out j t h hjt
          · obtain rfl : j = i := by omega
            rw [hMi] at hjt
            injection hjt with hjt
            rw [← hjt]
            exact ht
        replace ht := Lib.hid ht
        replace hMi := Lib.hid hMi
        replace hQi := Lib.hid hQi
        go_wp2_with fail
        refine (isTb_y _ _ P S _ _ _ _ _ (hPh.out.below (by exact (by repeat (first | exact Below.refl _ _ | assumption | refine Below.drew ?_ | refine below_drewN ?_ _ | refine Below.alloc' ?_ _ | (refine Below.setCell ?_ (by first | omega | (simp; done) | (simp; omega) | exact Below.size (by assumption) | exact Nat.le_trans (Below.size (by assumption)) (by simp)) _) | (refine Below.via' ?_ (by assumption)) | (refine Below.alloc ?_ (by first | omega | (simp; done) | (simp; omega) | exact Below.size (by assumption) | exact Nat.le_trans (Below.size (by assumption)) (by simp)) _) | (refine Below.via ?_ (by assumption) (by first | omega | (simp; done) | (simp; omega) | exact Below.size (by assumption) | exact Nat.le_trans (Below.size (by assumption)) (by simp))))))) (hSh.out.below (by exact (by repeat (first | exact Below.refl _ _ | assumption | refine Below.drew ?_ | refine below_drewN ?_ _ | refine Below.alloc' ?_ _ | (refine Below.setCell ?_ (by first | omega | (simp; done) | (simp; omega) | exact Below.size (by assumption) | exact Nat.le_trans (Below.size (by assumption)) (by simp)) _) | (refine Below.via' ?_ (by assumption)) | (refine Below.alloc ?_ (by first | omega | (simp; done) | (simp; omega) | exact Below.size (by assumption) | exact Nat.le_trans (Below.size (by assumption)) (by simp)) _) | (refine Below.via ?_ (by assumption) (by first | omega | (simp; done) | (simp; omega) | exact Below.size (by assumption) | exact Nat.le_trans (Below.size (by assumption)) (by simp))))))) (hTi.out.below (by exact (by repeat (first | exact Below.refl _ _ | assumption | refine Below.drew ?_ | refine below_drewN ?_ _ | refine Below.alloc' ?_ _ | (refine Below.setCell ?_ (by first | omega | (simp; done) | (simp; omega) | exact Below.size (by assumption) | exact Nat.le_trans (Below.size (by assumption)) (by simp)) _) | (refine Below.via' ?_ (by assumption)) | (refine Below.alloc ?_ (by first | omega | (simp; done) | (simp; omega) | exact Below.size (by assumption) | exact Nat.le_trans (Below.size (by assumption)) (by simp)) _) | (refine Below.via ?_ (by assumption) (by first | omega | (simp; done) | (simp; omega) | exact Below.size (by assumption) | exact Nat.le_trans (Below.size (by assumption)) (by simp)))))))).mono ?_
        rintro e w3 ⟨rfl, hb3⟩
        rw [ht2]
        replace ht2 := Lib.hid ht2
        go_wp2
        go_roundw
        case rel => exact ⟨i + 1, by omega, by go_num, hnx.out, (by repeat (first | exact Below.refl _ _ | assumption | refine Below.drew ?_ | refine below_drewN ?_ _ | refine Below.alloc' ?_ _ | (refine Below.setCell ?_ (by first | omega | (simp; done) | (simp; omega) | exact Below.size (by assumption) | exact Nat.le_trans (Below.size (by assumption)) (by simp)) _) | (refine Below.via' ?_ (by assumption)) | (refine Below.alloc ?_ (by first | omega | (simp; done) | (simp; omega) | exact Below.size (by assumption) | exact Nat.le_trans (Below.size (by assumption)) (by simp)) _) | (refine Below.via ?_ (by assumption) (by first | omega | (simp; done) | (simp; omega) | exact Below.size (by assumption) | exact Nat.le_trans (Below.size (by assumption)) (by simp)))))⟩
        case measure => simp [intOf]; omega
    · have hij : i = Q.length := by omega
      have hv := Lib.hid (pl_yes (M := tM Q) hgh.out hsh.out (by omega) (fun j t hj hjt => hall.out j t (by omega) hjt))
      subst hij
      go_wp2
      go_ret
      exact ⟨ret_boo hv.out.symm, hBr⟩
set_option maxHeartbeats 4000000 in
theorem nInput_any (p y : Option Addr) (c c1 : Nat) (P : List Int) (S : List (ByteArray × Int)) (w : World) (hP : IIn w p P) (hS : SIn w y c1 S) :
    Calls Tryd.prog 74 #[.agg #[.slice p P.length c], .slice y S.length c1] w fun e w' => e = .returned (.bool (geB P && schB S)) ∧ Below w.heap.size w w' := by
  have hm := hS.1
  have hPh := Lib.hid hP
  have hSh := Lib.hid hS
  clear hP hS
  go_enter Tryd.func74, Tryd.ntmps74
  go_wp2_with fail
  refine (gGood_any _ _ P _ (hPh.out.below (by exact (by repeat (first | exact Below.refl _ _ | assumption | refine Below.drew ?_ | refine below_drewN ?_ _ | refine Below.alloc' ?_ _ | (refine Below.setCell ?_ (by first | omega | (simp; done) | (simp; omega) | exact Below.size (by assumption) | exact Nat.le_trans (Below.size (by assumption)) (by simp)) _) | (refine Below.via' ?_ (by assumption)) | (refine Below.alloc ?_ (by first | omega | (simp; done) | (simp; omega) | exact Below.size (by assumption) | exact Nat.le_trans (Below.size (by assumption)) (by simp)) _) | (refine Below.via ?_ (by assumption) (by first | omega | (simp; done) | (simp; omega) | exact Below.size (by assumption) | exact Nat.le_trans (Below.size (by assumption)) (by simp)))))))).mono ?_
  rintro e w1 ⟨rfl, hb1⟩
  have B1 : Below w.heap.size w w1 := (by repeat (first | exact Below.refl _ _ | assumption | refine Below.drew ?_ | refine below_drewN ?_ _ | refine Below.alloc' ?_ _ | (refine Below.setCell ?_ (by first | omega | (simp; done) | (simp; omega) | exact Below.size (by assumption) | exact Nat.le_trans (Below.size (by assumption)) (by simp)) _) | (refine Below.via' ?_ (by assumption)) | (refine Below.alloc ?_ (by first | omega | (simp; done) | (simp; omega) | exact Below.size (by assumption) | exact Nat.le_trans (Below.size (by assumption)) (by simp)) _) | (refine Below.via ?_ (by assumption) (by first | omega | (simp; done) | (simp; omega) | exact Below.size (by assumption) | exact Nat.le_trans (Below.size (by assumption)) (by simp)))))
  cases hg : geB P
  · replace hg := Lib.hid hg
    go_wp2
    go_ret
    exact ⟨ret_boo (show false = (geB P && schB S) by rw [hg.out]; rfl), B1⟩
  replace hg := Lib.hid hg
  go_wp2_with fail
  refine (sGood_x _ _ S _ (hSh.out.below B1)).mono ?_
  rintro e w2 ⟨rfl, hb2⟩
  have B2 : Below w.heap.size w w2 := Below.via' B1 hb2
  go_wp2
  go_ret
  exact ⟨ret_boo (show schB S = (geB P && schB S) by rw [hg.out]; rfl), B2⟩
set_option maxHeartbeats 4000000 in
theorem nPlan_any (p y v : Option Addr) (c c1 c4 : Nat) (P : List Int) (S : List (ByteArray × Int)) (Q : List PT) (w : World) (hP : IIn w p P) (hS : SIn w y c1 S) (hQ : LIn w v Q) :
    Calls Tryd.prog 43 #[.agg #[.slice p P.length c], .slice y S.length c1, .slice v Q.length c4] w fun e w' => e = .returned (.bool (plB P S (tM Q))) ∧ Below w.heap.size w w' := by
  have hm := hS.1
  have hmQ := hQ.1
  have hPh := Lib.hid hP
  have hSh := Lib.hid hS
  have hQh := Lib.hid hQ
  have hML := tM_len Q
  clear hP hS hQ
  have p1 := Lib.hid (QB.new w p P.length c 33)
  obtain ⟨w0, hw0⟩ : ∃ w0, w0 = w.alloc (.cells #[.slice p P.length c] 33) := ⟨_, rfl⟩
  have B0 : Below w.heap.size w w0 := by rw [hw0]; exact (by repeat (first | exact Below.refl _ _ | assumption | refine Below.drew ?_ | refine below_drewN ?_ _ | refine Below.alloc' ?_ _ | (refine Below.setCell ?_ (by first | omega | (simp; done) | (simp; omega) | exact Below.size (by assumption) | exact Nat.le_trans (Below.size (by assumption)) (by simp)) _) | (refine Below.via' ?_ (by assumption)) | (refine Below.alloc ?_ (by first | omega | (simp; done) | (simp; omega) | exact Below.size (by assumption) | exact Nat.le_trans (Below.size (by assumption)) (by simp)) _) | (refine Below.via ?_ (by assumption) (by first | omega | (simp; done) | (simp; omega) | exact Below.size (by assumption) | exact Nat.le_trans (Below.size (by assumption)) (by simp)))))
  have g0 : Hid (QB w0 w.heap.size p P.length c) := by rw [hw0]; exact p1.out
  have z0 : w0.heap.size = w.heap.size + 1 := by rw [hw0]; simp
  clear p1
  obtain ⟨ka0, kb0, kc0⟩ := g0.out
  go_enter Tryd.func43, Tryd.ntmps43
  go_wp2_with fail
  rw [← hw0]
  replace hw0 := Lib.hid hw0
  replace z0 := Lib.hid z0
  refine (nInput_any _ _ _ _ P S _ (hPh.out.below B0) (hSh.out.below B0)).mono ?_
  rintro e w2 ⟨rfl, hb2⟩
  have B2 : Below w.heap.size w w2 := Below.via' B0 hb2
  have g2 := Lib.hid (g0.out.below hb2)
  obtain ⟨ka2, kb2, kc2⟩ := g2.out
  try clear ka0 kb0 kc0
  clear hb2
  cases hgs : geB P && schB S
  · have hv : Hid (plB P S (tM Q) = false) := by
      cases hg : geB P
      · exact pl_no1 hg
      · rw [hg] at hgs
        exact pl_no2 hgs
    replace hgs := Lib.hid hgs
    go_wp2
    go_ret
    exact ⟨ret_boo hv.out.symm, B2⟩
  have hgs2 := hgs
  simp only [Bool.and_eq_true] at hgs2
  have hgh := Lib.hid hgs2.1
  have hsh := Lib.hid hgs2.2
  clear hgs2
  replace hgs := Lib.hid hgs
  by_cases hl : ¬ Q.length ≤ 20
  · have hv := Lib.hid (pl_no3 (P := P) (S := S) (M := tM Q) (by omega))
    have hl' : (20 : Int) < (Q.length : Int) := by omega
    replace hl := Lib.hid hl
    go_wp2
    go_ret
    exact ⟨ret_boo hv.out.symm, B2⟩
  replace hl := Decidable.of_not_not hl
  have hl' : ¬ (20 : Int) < (Q.length : Int) := by omega
  have hs1 := B2.size
  go_wp2
  go_loopw [20] (fun c wr => ∃ i : Nat, i ≤ Q.length ∧ c = .int .i64 i ∧ Hid (∀ j t, j < i → (tM Q)[j]? = some t → tvB P S t = true) ∧ Below w2.heap.size w2 wr) (fun c _ => Q.length - (intOf c).toNat)
  case atStart => exact ⟨0, by omega, by go_num, (fun j t hj => absurd hj (by omega)), Below.refl _ _⟩
  case round =>
    obtain ⟨i, hi, rfl, hall, hb⟩ := hrel
    have hBr := Below.via' B2 hb
    by_cases hlt : i < Q.length
    · obtain ⟨b1, o1, q, rfl, hb1, hQi, hc0, hc1, hc2, hc3⟩ := (hQh.out.2.2.below hBr).tab hlt
      have hTi := Lib.hid (hQh.out.2.1 q (List.mem_of_getElem? hQi))
      have hMi := tM_at hQi
      obtain ⟨ka, kb, kc⟩ := g2.out.below hb
      have hi' : (i : Int) < (Q.length : Int) := by omega
      have hi0 : (0 : Int) ≤ (i : Int) := by omega
      cases ht : tvB P S q.t
      · have hv := Lib.hid (pl_no4 hMi ht)
        have ht2 : tgB P S q.l q.F q.W q.m = false := ht
        replace ht := Lib.hid ht
        replace hMi := Lib.hid hMi
        replace hQi := Lib.hid hQi
        go_wp2_with fail
        refine (uGood_y _ _ P S _ _ _ _ _ (hPh.out.below (by exact (by repeat (first | exact Below.refl _ _ | assumption | refine Below.drew ?_ | refine below_drewN ?_ _ | refine Below.alloc' ?_ _ | (refine Below.setCell ?_ (by first | omega | (simp; done) | (simp; omega) | exact Below.size (by assumption) | exact Nat.le_trans (Below.size (by assumption)) (by simp)) _) | (refine Below.via' ?_ (by assumption)) | (refine Below.alloc ?_ (by first | omega | (simp; done) | (simp; omega) | exact Below.size (by assumption) | exact Nat.le_trans (Below.size (by assumption)) (by simp)) _) | (refine Below.via ?_ (by assumption) (by first | omega | (simp; done) | (simp; omega) | exact Below.size (by assumption) | exact Nat.le_trans (Below.size (by assumption)) (by simp))))))) (hSh.out.below (by exact (by repeat (first | exact Below.refl _ _ | assumption | refine Below.drew ?_ | refine below_drewN ?_ _ | refine Below.alloc' ?_ _ | (refine Below.setCell ?_ (by first | omega | (simp; done) | (simp; omega) | exact Below.size (by assumption) | exact Nat.le_trans (Below.size (by assumption)) (by simp)) _) | (refine Below.via' ?_ (by assumption)) | (refine Below.alloc ?_ (by first | omega | (simp; done) | (simp; omega) | exact Below.size (by assumption) | exact Nat.le_trans (Below.size (by assumption)) (by simp)) _) | (refine Below.via ?_ (by assumption) (by first | omega | (simp; done) | (simp; omega) | exact Below.size (by assumption) | exact Nat.le_trans (Below.size (by assumption)) (by simp))))))) (hTi.out.below (by exact (by repeat (first | exact Below.refl _ _ | assumption | refine Below.drew ?_ | refine below_drewN ?_ _ | refine Below.alloc' ?_ _ | (refine Below.setCell ?_ (by first | omega | (simp; done) | (simp; omega) | exact Below.size (by assumption) | exact Nat.le_trans (Below.size (by assumption)) (by simp)) _) | (refine Below.via' ?_ (by assumption)) | (refine Below.alloc ?_ (by first | omega | (simp; done) | (simp; omega) | exact Below.size (by assumption) | exact Nat.le_trans (Below.size (by assumption)) (by simp)) _) | (refine Below.via ?_ (by assumption) (by first | omega | (simp; done) | (simp; omega) | exact Below.size (by assumption) | exact Nat.le_trans (Below.size (by assumption)) (by simp)))))))).mono ?_
        rintro e w3 ⟨rfl, hb3⟩
        rw [ht2]
        have B3 : Below w.heap.size w w3 := (by repeat (first | exact Below.refl _ _ | assumption | refine Below.drew ?_ | refine below_drewN ?_ _ | refine Below.alloc' ?_ _ | (refine Below.setCell ?_ (by first | omega | (simp; done) | (simp; omega) | exact Below.size (by assumption) | exact Nat.le_trans (Below.size (by assumption)) (by simp)) _) | (refine Below.via' ?_ (by assumption)) | (refine Below.alloc ?_ (by first | omega | (simp; done) | (simp; omega) | exact Below.size (by assumption) | exact Nat.le_trans (Below.size (by assumption)) (by simp)) _) | (refine Below.via ?_ (by assumption) (by first | omega | (simp; done) | (simp; omega) | exact Below.size (by assumption) | exact Nat.le_trans (Below.size (by assumption)) (by simp)))))
        replace ht2 := Lib.hid ht2
        go_wp2
        go_ret
        exact ⟨ret_boo hv.out.symm, B3⟩
      · have ht2 : tgB P S q.l q.F q.W q.m = true := ht
        have hnx : Hid (∀ j t, j < i + 1 → (tM Q)[j]? = some t → tvB P S t = true) := by
          intro j t hj hjt
          rcases Nat.lt_or_ge j i with h | h
          · exact hall.out j t h hjt
          · obtain rfl : j = i := by omega
            rw [hMi] at hjt
            injection hjt with hjt
            rw [← hjt]
            exact ht
        replace ht := Lib.hid ht
        replace hMi := Lib.hid hMi
        replace hQi := Lib.hid hQi
        go_wp2_with fail
        refine (uGood_y _ _ P S _ _ _ _ _ (hPh.out.below (by exact (by repeat (first | exact Below.refl _ _ | assumption | refine Below.drew ?_ | refine below_drewN ?_ _ | refine Below.alloc' ?_ _ | (refine Below.setCell ?_ (by first | omega | (simp; done) | (simp; omega) | exact Below.size (by assumption) | exact Nat.le_trans (Below.size (by assumption)) (by simp)) _) | (refine Below.via' ?_ (by assumption)) | (refine Below.alloc ?_ (by first | omega | (simp; done) | (simp; omega) | exact Below.size (by assumption) | exact Nat.le_trans (Below.size (by assumption)) (by simp)) _) | (refine Below.via ?_ (by assumption) (by first | omega | (simp; done) | (simp; omega) | exact Below.size (by assumption) | exact Nat.le_trans (Below.size (by assumption)) (by simp))))))) (hSh.out.below (by exact (by repeat (first | exact Below.refl _ _ | assumption | refine Below.drew ?_ | refine below_drewN ?_ _ | refine Below.alloc' ?_ _ | (refine Below.setCell ?_ (by first | omega | (simp; done) | (simp; omega) | exact Below.size (by assumption) | exact Nat.le_trans (Below.size (by assumption)) (by simp)) _) | (refine Below.via' ?_ (by assumption)) | (refine Below.alloc ?_ (by first | omega | (simp; done) | (simp; omega) | exact Below.size (by assumption) | exact Nat.le_trans (Below.size (by assumption)) (by simp)) _) | (refine Below.via ?_ (by assumption) (by first | omega | (simp; done) | (simp; omega) | exact Below.size (by assumption) | exact Nat.le_trans (Below.size (by assumption)) (by simp))))))) (hTi.out.below (by exact (by repeat (first | exact Below.refl _ _ | assumption | refine Below.drew ?_ | refine below_drewN ?_ _ | refine Below.alloc' ?_ _ | (refine Below.setCell ?_ (by first | omega | (simp; done) | (simp; omega) | exact Below.size (by assumption) | exact Nat.le_trans (Below.size (by assumption)) (by simp)) _) | (refine Below.via' ?_ (by assumption)) | (refine Below.alloc ?_ (by first | omega | (simp; done) | (simp; omega) | exact Below.size (by assumption) | exact Nat.le_trans (Below.size (by assumption)) (by simp)) _) | (refine Below.via ?_ (by assumption) (by first | omega | (simp; done) | (simp; omega) | exact Below.size (by assumption) | exact Nat.le_trans (Below.size (by assumption)) (by simp)))))))).mono ?_
        rintro e w3 ⟨rfl, hb3⟩
        rw [ht2]
        replace ht2 := Lib.hid ht2
        go_wp2
        go_roundw
        case rel => exact ⟨i + 1, by omega, by go_num, hnx.out, (by repeat (first | exact Below.refl _ _ | assumption | refine Below.drew ?_ | refine below_drewN ?_ _ | refine Below.alloc' ?_ _ | (refine Below.setCell ?_ (by first | omega | (simp; done) | (simp; omega) | exact Below.size (by assumption) | exact Nat.le_trans (Below.size (by assumption)) (by simp)) _) | (refine Below.via' ?_ (by assumption)) | (refine Below.alloc ?_ (by first | omega | (simp; done) | (simp; omega) | exact Below.size (by assumption) | exact Nat.le_trans (Below.size (by assumption)) (by simp)) _) | (refine Below.via ?_ (by assumption) (by first | omega | (simp; done) | (simp; omega) | exact Below.size (by assumption) | exact Nat.le_trans (Below.size (by assumption)) (by simp)))))⟩
        case measure => simp [intOf]; omega
    · have hij : i = Q.length := by omega
      have hv := Lib.hid (pl_yes (M := tM Q) hgh.out hsh.out (by omega) (fun j t hj hjt => hall.out j t (by omega) hjt))
      subst hij
      go_wp2
      go_ret
      exact ⟨ret_boo hv.out.symm, hBr⟩
end Go.Proofs.YtpmbenedeakieabDoor

namespace Go.Proofs.YtpmbenedeakieabDoor
open Go.RowKit
set_option maxRecDepth 100000

theorem wstr_pl (B b : Nat) (s t : ByteArray) (w : World) (h : IsBd B b (bC s) w) (hl : s.size ≤ 1000000) (hl2 : t.size ≤ 1000000) (hBw : B ≤ w.heap.size) :
    Calls Tryd.prog 45 #[.pointer (some ⟨b, 0, none⟩), .string t] w fun e w' => (∃ k, e = .returned (.tuple #[.int .i64 k, .nilIface])) ∧ IsBd B b (bC (s ++ t)) w' ∧ Below B w w' ∧ Kept b w w' := by
  have hm := writeString_any B b (bC s) t w h (by rw [bC_len]; omega) hBw
  rw [bC_app] at hm
  exact hm.mono fun e w' ⟨h1, h2⟩ => ⟨⟨_, h1⟩, h2⟩
theorem plW_q (S : List (ByteArray × Int)) (q : PT) : plW S q.t = ttT S q.l q.F q.W q.m ++ ⟨#[10]⟩ := by unfold plW PT.t; rfl
theorem plL_nextQ {S : List (ByteArray × Int)} {Q : List PT} {k : Nat} {q : PT} (h : Q[k]? = some q) : plL S (tM Q) (k + 1) = plL S (tM Q) k ++ (ttT S q.l q.F q.W q.m ++ ⟨#[10]⟩) := by rw [plL_next (tM_at h), plW_q]
theorem pl_atQ {P : List Int} {S : List (ByteArray × Int)} {Q : List PT} {k : Nat} {q : PT} (h : plB P S (tM Q) = true) (hk : Q[k]? = some q) : TgP P S q.l q.F q.W q.m := by
  have := pl_at h (tM_at hk)
  unfold PT.t at this
  exact this
theorem ttT_sizeQ {P : List Int} {S : List (ByteArray × Int)} {q : PT} (h : TgP P S q.l q.F q.W q.m) : (ttT S q.l q.F q.W q.m).size ≤ 910 := ttT_size (t := (q.l, q.F, q.W, q.m)) h
set_option maxHeartbeats 2000000 in
theorem iPT_x (p y v : Option Addr) (c c1 c4 : Nat) (P : List Int) (S : List (ByteArray × Int)) (Q : List PT) (w : World) (hP : IIn w p P) (hS : SIn w y c1 S) (hQ : LIn w v Q) :
    Calls Tryd.prog 23 #[.agg #[.slice p P.length c], .slice y S.length c1, .slice v Q.length c4] w fun e w' => e = .returned (.tuple #[.string (plR P S (tM Q)), .bool (plB P S (tM Q))]) ∧ Below w.heap.size w w' := by
  have hm := hS.1
  have hmQ := hQ.1
  have hPh := Lib.hid hP
  have hSh := Lib.hid hS
  have hQh := Lib.hid hQ
  have hML := tM_len Q
  clear hP hS hQ
  have p1 := Lib.hid (QB.new w p P.length c 33)
  obtain ⟨w0, hw0⟩ : ∃ w0, w0 = w.alloc (.cells #[.slice p P.length c] 33) := ⟨_, rfl⟩
  have B0 : Below w.heap.size w w0 := by rw [hw0]; exact (by repeat (first | exact Below.refl _ _ | assumption | refine Below.drew ?_ | refine below_drewN ?_ _ | refine Below.alloc' ?_ _ | (refine Below.setCell ?_ (by first | omega | (simp; done) | (simp; omega) | exact Below.size (by assumption) | exact Nat.le_trans (Below.size (by assumption)) (by simp)) _) | (refine Below.via' ?_ (by assumption)) | (refine Below.alloc ?_ (by first | omega | (simp; done) | (simp; omega) | exact Below.size (by assumption) | exact Nat.le_trans (Below.size (by assumption)) (by simp)) _) | (refine Below.via ?_ (by assumption) (by first | omega | (simp; done) | (simp; omega) | exact Below.size (by assumption) | exact Nat.le_trans (Below.size (by assumption)) (by simp)))))
  have g0 : Hid (QB w0 w.heap.size p P.length c) := by rw [hw0]; exact p1.out
  have z0 : w0.heap.size = w.heap.size + 1 := by rw [hw0]; simp
  clear p1
  obtain ⟨ka0, kb0, kc0⟩ := g0.out
  go_enter Tryd.func23, Tryd.ntmps23
  go_wp2_with fail
  rw [← hw0]
  replace hw0 := Lib.hid hw0
  replace z0 := Lib.hid z0
  refine (isPlan_any p y v c c1 c4 P S Q _ (hPh.out.below B0) (hSh.out.below B0) (hQh.out.below B0)).mono ?_
  rintro e w1 ⟨rfl, hb1⟩
  have B1 : Below w.heap.size w w1 := Below.via' B0 hb1
  have g1 := Lib.hid (g0.out.below hb1)
  obtain ⟨ka1, kb1, kc1⟩ := g1.out
  try clear ka0 kb0 kc0
  clear hb1
  cases hr : plB P S (tM Q)
  · have hv2 := Lib.hid (plR_no hr)
    replace hr := Lib.hid hr
    go_wp2
    go_ret2
    exact ⟨ret_sbL hv2.out.symm hr.out.symm, B1⟩
  have hv2 := Lib.hid (plR_yes hr)
  have hl20 := pl_len hr
  have hps := Lib.hid (plL_size hr)
  have hrh := Lib.hid hr
  clear hr
  have hN := Lib.hid (isBd_new w1 w1.heap.size (Nat.le_refl _))
  have hbA : Below w1.heap.size w1 (w1.alloc (.cells #[.pointer none, .slice none 0 0] 78)) := Below.alloc' (Below.refl _ _) _
  have hs1 := B1.size
  go_wp2
  go_loopw [18] (fun c wr => ∃ k : Nat, k ≤ Q.length ∧ c = .int .i64 k ∧ IsBd w1.heap.size w1.heap.size (bC (plL S (tM Q) k)) wr ∧ Below w1.heap.size w1 wr) (fun c _ => Q.length - (intOf c).toNat)
  case atStart => exact ⟨0, by omega, by go_num, hN.out, hbA⟩
  case round =>
    clear hN hbA
    obtain ⟨k, hk, rfl, hbd, hb⟩ := hrel
    have hbd := Lib.hid hbd
    have hzw := hb.size
    have hBr := Below.via' B1 hb
    by_cases hlt : k < Q.length
    · skip
      obtain ⟨b5, o5, q, rfl, hb5, hQk, hc0, hc1, hc2, hc3⟩ := (hQh.out.2.2.below hBr).tab hlt
      have hth := Lib.hid (pl_atQ hrh.out hQk)
      have hTi := Lib.hid (hQh.out.2.1 q (List.mem_of_getElem? hQk))
      have hnx := Lib.hid (plL_nextQ (S := S) hQk)
      have hxs : (ttT S q.l q.F q.W q.m).size ≤ 910 := ttT_sizeQ hth.out
      have hr0 := hps.out k (by omega)
      have hk' : (k : Int) < (Q.length : Int) := by omega
      have hk0 : (0 : Int) ≤ (k : Int) := by omega
      have d2 : (⟨#[10]⟩ : ByteArray).size = 1 := rfl
      have s1 : ¬ 9223372036854775807 < (ttT S q.l q.F q.W q.m).size + (⟨#[10]⟩ : ByteArray).size := by rw [d2]; omega
      have s1' : ¬ 9223372036854775807 < (ttT S q.l q.F q.W q.m).size + 1 := by omega
      have hls : (ttT S q.l q.F q.W q.m ++ ⟨#[10]⟩ : ByteArray).size ≤ 1000000 := by simp only [ByteArray.size_append, d2]; omega
      have hlsh := Lib.hid hls
      replace hQk := Lib.hid hQk
      clear d2 hls
      go_wp2_with fail
      refine (tableText_any y _ _ c1 _ _ P S q.l q.F q.W q.m _ hth.out (hSh.out.below (by exact (by repeat (first | exact Below.refl _ _ | assumption | refine Below.drew ?_ | refine below_drewN ?_ _ | refine Below.alloc' ?_ _ | (refine Below.setCell ?_ (by first | omega | (simp; done) | (simp; omega) | exact Below.size (by assumption) | exact Nat.le_trans (Below.size (by assumption)) (by simp)) _) | (refine Below.via' ?_ (by assumption)) | (refine Below.alloc ?_ (by first | omega | (simp; done) | (simp; omega) | exact Below.size (by assumption) | exact Nat.le_trans (Below.size (by assumption)) (by simp)) _) | (refine Below.via ?_ (by assumption) (by first | omega | (simp; done) | (simp; omega) | exact Below.size (by assumption) | exact Nat.le_trans (Below.size (by assumption)) (by simp))))))) (hTi.out.below (by exact (by repeat (first | exact Below.refl _ _ | assumption | refine Below.drew ?_ | refine below_drewN ?_ _ | refine Below.alloc' ?_ _ | (refine Below.setCell ?_ (by first | omega | (simp; done) | (simp; omega) | exact Below.size (by assumption) | exact Nat.le_trans (Below.size (by assumption)) (by simp)) _) | (refine Below.via' ?_ (by assumption)) | (refine Below.alloc ?_ (by first | omega | (simp; done) | (simp; omega) | exact Below.size (by assumption) | exact Nat.le_trans (Below.size (by assumption)) (by simp)) _) | (refine Below.via ?_ (by assumption) (by first | omega | (simp; done) | (simp; omega) | exact Below.size (by assumption) | exact Nat.le_trans (Below.size (by assumption)) (by simp)))))))).mono ?_
      rintro e w4 ⟨rfl, hb4⟩
      have hA0 : Below wr.heap.size wr w4 := (by repeat (first | exact Below.refl _ _ | assumption | refine Below.drew ?_ | refine below_drewN ?_ _ | refine Below.alloc' ?_ _ | (refine Below.setCell ?_ (by first | omega | (simp; done) | (simp; omega) | exact Below.size (by assumption) | exact Nat.le_trans (Below.size (by assumption)) (by simp)) _) | (refine Below.via' ?_ (by assumption)) | (refine Below.alloc ?_ (by first | omega | (simp; done) | (simp; omega) | exact Below.size (by assumption) | exact Nat.le_trans (Below.size (by assumption)) (by simp)) _) | (refine Below.via ?_ (by assumption) (by first | omega | (simp; done) | (simp; omega) | exact Below.size (by assumption) | exact Nat.le_trans (Below.size (by assumption)) (by simp)))))
      have hbb := Below.via' hb hA0
      have hbd4 := Lib.hid (hbd.out.below hA0)
      go_wp2_with fail
      refine (wstr_pl w1.heap.size w1.heap.size _ _ _ hbd4.out (by omega) hlsh.out hbb.size).mono ?_
      rintro e w5 ⟨⟨k9, rfl⟩, hbd5, hb5', -⟩
      rw [← hnx.out] at hbd5
      have hbd5 := Lib.hid hbd5
      have hC5 := Lib.hid (hbb.trans hb5')
      clear hb4 hb5'
      go_wp2
      go_roundw
      case rel => exact ⟨k + 1, by omega, by go_num, hbd5.out, hC5.out⟩
      case measure => simp [intOf]; omega
    · have hij : k = Q.length := by omega
      have hvv := Lib.hid (show plL S (tM Q) k = plR P S (tM Q) by rw [hij, ← hML]; exact hv2.out.symm)
      have hk' : ¬ (k : Int) < (Q.length : Int) := by omega
      replace hij := Lib.hid hij
      go_wp2_with fail
      refine (bstr_any w1.heap.size w1.heap.size _ _ hbd.out hzw).mono ?_
      rintro e w8 ⟨rfl, hb8⟩
      have hB8 := Lib.hid (B1.trans ((hb.trans hb8).mono B1.size))
      go_wp2
      go_ret2
      exact ⟨ret_sbL hvv.out hrh.out.symm, hB8.out⟩
set_option maxHeartbeats 2000000 in
theorem sPT_x (p y v : Option Addr) (c c1 c4 : Nat) (P : List Int) (S : List (ByteArray × Int)) (Q : List PT) (w : World) (hP : IIn w p P) (hS : SIn w y c1 S) (hQ : LIn w v Q) :
    Calls Tryd.prog 21 #[.agg #[.slice p P.length c], .slice y S.length c1, .slice v Q.length c4] w fun e w' => e = .returned (.tuple #[.string (plR P S (tM Q)), .bool (plB P S (tM Q))]) ∧ Below w.heap.size w w' := by
  have hm := hS.1
  have hmQ := hQ.1
  have hPh := Lib.hid hP
  have hSh := Lib.hid hS
  have hQh := Lib.hid hQ
  have hML := tM_len Q
  clear hP hS hQ
  have p1 := Lib.hid (QB.new w p P.length c 33)
  obtain ⟨w0, hw0⟩ : ∃ w0, w0 = w.alloc (.cells #[.slice p P.length c] 33) := ⟨_, rfl⟩
  have B0 : Below w.heap.size w w0 := by rw [hw0]; exact (by repeat (first | exact Below.refl _ _ | assumption | refine Below.drew ?_ | refine below_drewN ?_ _ | refine Below.alloc' ?_ _ | (refine Below.setCell ?_ (by first | omega | (simp; done) | (simp; omega) | exact Below.size (by assumption) | exact Nat.le_trans (Below.size (by assumption)) (by simp)) _) | (refine Below.via' ?_ (by assumption)) | (refine Below.alloc ?_ (by first | omega | (simp; done) | (simp; omega) | exact Below.size (by assumption) | exact Nat.le_trans (Below.size (by assumption)) (by simp)) _) | (refine Below.via ?_ (by assumption) (by first | omega | (simp; done) | (simp; omega) | exact Below.size (by assumption) | exact Nat.le_trans (Below.size (by assumption)) (by simp)))))
  have g0 : Hid (QB w0 w.heap.size p P.length c) := by rw [hw0]; exact p1.out
  have z0 : w0.heap.size = w.heap.size + 1 := by rw [hw0]; simp
  clear p1
  obtain ⟨ka0, kb0, kc0⟩ := g0.out
  go_enter Tryd.func21, Tryd.ntmps21
  go_wp2_with fail
  rw [← hw0]
  replace hw0 := Lib.hid hw0
  replace z0 := Lib.hid z0
  refine (nPlan_any p y v c c1 c4 P S Q _ (hPh.out.below B0) (hSh.out.below B0) (hQh.out.below B0)).mono ?_
  rintro e w1 ⟨rfl, hb1⟩
  have B1 : Below w.heap.size w w1 := Below.via' B0 hb1
  have g1 := Lib.hid (g0.out.below hb1)
  obtain ⟨ka1, kb1, kc1⟩ := g1.out
  try clear ka0 kb0 kc0
  clear hb1
  cases hr : plB P S (tM Q)
  · have hv2 := Lib.hid (plR_no hr)
    replace hr := Lib.hid hr
    go_wp2
    go_ret2
    exact ⟨ret_sbL hv2.out.symm hr.out.symm, B1⟩
  have hv2 := Lib.hid (plR_yes hr)
  have hl20 := pl_len hr
  have hps := Lib.hid (plL_size hr)
  have hrh := Lib.hid hr
  clear hr
  have hs1 := B1.size
  go_wp2
  go_loopw [8, 18] (fun q c wr => ∃ k : Nat, k ≤ Q.length ∧ c = .int .i64 k ∧ q = .string (plL S (tM Q) k) ∧ Below w1.heap.size w1 wr) (fun _ c _ => Q.length - (intOf c).toNat)
  case atStart => exact ⟨0, by omega, by go_num, rfl, Below.refl _ _⟩
  case round =>
    obtain ⟨k, hk, rfl, rfl, hb⟩ := hrel
    have hzw := hb.size
    have hBr := Below.via' B1 hb
    by_cases hlt : k < Q.length
    · skip
      obtain ⟨b5, o5, q, rfl, hb5, hQk, hc0, hc1, hc2, hc3⟩ := (hQh.out.2.2.below hBr).tab hlt
      have hth := Lib.hid (pl_atQ hrh.out hQk)
      have hTi := Lib.hid (hQh.out.2.1 q (List.mem_of_getElem? hQk))
      have hnx := Lib.hid (plL_nextQ (S := S) hQk)
      have hxs : (ttT S q.l q.F q.W q.m).size ≤ 910 := ttT_sizeQ hth.out
      have hr0 := hps.out k (by omega)
      have hk' : (k : Int) < (Q.length : Int) := by omega
      have hk0 : (0 : Int) ≤ (k : Int) := by omega
      have d2 : (⟨#[10]⟩ : ByteArray).size = 1 := rfl
      have s1 : ¬ 9223372036854775807 < (ttT S q.l q.F q.W q.m).size + (⟨#[10]⟩ : ByteArray).size := by rw [d2]; omega
      have s1' : ¬ 9223372036854775807 < (ttT S q.l q.F q.W q.m).size + 1 := by omega
      have hls : (ttT S q.l q.F q.W q.m ++ ⟨#[10]⟩ : ByteArray).size ≤ 1000000 := by simp only [ByteArray.size_append, d2]; omega
      have hlsh := Lib.hid hls
      have s2 : ¬ 9223372036854775807 < (plL S (tM Q) k).size + (ttT S q.l q.F q.W q.m ++ ⟨#[10]⟩ : ByteArray).size := by simp only [ByteArray.size_append, d2]; omega
      have s2' : ¬ 9223372036854775807 < (plL S (tM Q) k).size + ((ttT S q.l q.F q.W q.m).size + 1) := by omega
      replace hQk := Lib.hid hQk
      clear d2 hls
      go_wp2_with fail
      refine (nTable_any y _ _ c1 _ _ P S q.l q.F q.W q.m _ hth.out (hSh.out.below (by exact (by repeat (first | exact Below.refl _ _ | assumption | refine Below.drew ?_ | refine below_drewN ?_ _ | refine Below.alloc' ?_ _ | (refine Below.setCell ?_ (by first | omega | (simp; done) | (simp; omega) | exact Below.size (by assumption) | exact Nat.le_trans (Below.size (by assumption)) (by simp)) _) | (refine Below.via' ?_ (by assumption)) | (refine Below.alloc ?_ (by first | omega | (simp; done) | (simp; omega) | exact Below.size (by assumption) | exact Nat.le_trans (Below.size (by assumption)) (by simp)) _) | (refine Below.via ?_ (by assumption) (by first | omega | (simp; done) | (simp; omega) | exact Below.size (by assumption) | exact Nat.le_trans (Below.size (by assumption)) (by simp))))))) (hTi.out.below (by exact (by repeat (first | exact Below.refl _ _ | assumption | refine Below.drew ?_ | refine below_drewN ?_ _ | refine Below.alloc' ?_ _ | (refine Below.setCell ?_ (by first | omega | (simp; done) | (simp; omega) | exact Below.size (by assumption) | exact Nat.le_trans (Below.size (by assumption)) (by simp)) _) | (refine Below.via' ?_ (by assumption)) | (refine Below.alloc ?_ (by first | omega | (simp; done) | (simp; omega) | exact Below.size (by assumption) | exact Nat.le_trans (Below.size (by assumption)) (by simp)) _) | (refine Below.via ?_ (by assumption) (by first | omega | (simp; done) | (simp; omega) | exact Below.size (by assumption) | exact Nat.le_trans (Below.size (by assumption)) (by simp)))))))).mono ?_
      rintro e w4 ⟨rfl, hb4⟩
      have hA0 : Below wr.heap.size wr w4 := (by repeat (first | exact Below.refl _ _ | assumption | refine Below.drew ?_ | refine below_drewN ?_ _ | refine Below.alloc' ?_ _ | (refine Below.setCell ?_ (by first | omega | (simp; done) | (simp; omega) | exact Below.size (by assumption) | exact Nat.le_trans (Below.size (by assumption)) (by simp)) _) | (refine Below.via' ?_ (by assumption)) | (refine Below.alloc ?_ (by first | omega | (simp; done) | (simp; omega) | exact Below.size (by assumption) | exact Nat.le_trans (Below.size (by assumption)) (by simp)) _) | (refine Below.via ?_ (by assumption) (by first | omega | (simp; done) | (simp; omega) | exact Below.size (by assumption) | exact Nat.le_trans (Below.size (by assumption)) (by simp)))))
      have hC5 := Lib.hid (Below.via' hb hA0)
      clear hb4 hA0
      go_wp2
      go_roundw
      case rel => exact ⟨k + 1, by omega, by go_num, by rw [hnx.out], hC5.out⟩
      case measure => simp [intOf]; omega
    · have hij : k = Q.length := by omega
      have hvv := Lib.hid (show plL S (tM Q) k = plR P S (tM Q) by rw [hij, ← hML]; exact hv2.out.symm)
      have hk' : ¬ (k : Int) < (Q.length : Int) := by omega
      replace hij := Lib.hid hij
      go_wp2
      go_ret2
      exact ⟨ret_sbL hvv.out hrh.out.symm, hBr⟩
theorem iPT_m (p y v : Option Addr) (c c1 c4 : Nat) (P : List Int) (S : List (ByteArray × Int)) (Q : List PT) (w : World) (hP : IIn w p P) (hS : SIn w y c1 S) (hQ : LIn w v Q) (M : List TV) (hM : tM Q = M) :
    Calls Tryd.prog 23 #[.agg #[.slice p P.length c], .slice y S.length c1, .slice v Q.length c4] w fun e w' => e = .returned (.tuple #[.string (plR P S M), .bool (plB P S M)]) ∧ Below w.heap.size w w' := by
  subst hM
  exact iPT_x p y v c c1 c4 P S Q w hP hS hQ
theorem sPT_m (p y v : Option Addr) (c c1 c4 : Nat) (P : List Int) (S : List (ByteArray × Int)) (Q : List PT) (w : World) (hP : IIn w p P) (hS : SIn w y c1 S) (hQ : LIn w v Q) (M : List TV) (hM : tM Q = M) :
    Calls Tryd.prog 21 #[.agg #[.slice p P.length c], .slice y S.length c1, .slice v Q.length c4] w fun e w' => e = .returned (.tuple #[.string (plR P S M), .bool (plB P S M)]) ∧ Below w.heap.size w w' := by
  subst hM
  exact sPT_x p y v c c1 c4 P S Q w hP hS hQ
end Go.Proofs.YtpmbenedeakieabDoor
