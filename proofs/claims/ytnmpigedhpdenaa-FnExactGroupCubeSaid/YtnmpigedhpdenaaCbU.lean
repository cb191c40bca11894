/-
  The walks of chapter 10: breaks of cubes; the program's and the model's.
-/
import Derived.Test.YtnmpigedhpdenaaCbR
import Derived.Test.YtnmpigedhpdenaaCbS
namespace Go.Proofs.Ytnmpigedhpdenaa
open Go.RowKit
set_option maxRecDepth 100000

set_option maxHeartbeats 8000000 in
theorem fbreak_any (x y : Option Addr) (c d : Nat) (Z C : List Int) (w : World) (hf : cfB Z C = true) (h : CIn w x y Z C) :
    Calls Try.prog 57 #[.agg #[.slice x Z.length c, .slice y C.length d]] w fun e w' => e = .returned (.int .i64 (fbN Z C)) ∧ Below w.heap.size w w' := by
  have hh := Lib.hid h
  have hfh := Lib.hid hf
  obtain ⟨f1, f2, f3⟩ := cf_get hf
  have hok := Lib.hid (cs_get f1).1
  have hlen := cf_len hf
  have hC2 := Lib.hid f2
  have hr := Lib.hid f3
  have hq0 := Lib.hid (CQ.new w x Z.length c y C.length d 27)
  obtain ⟨qa, qb, qc⟩ := hq0.out
  have hB0 : Below w.heap.size w (w.alloc (.cells #[.slice x Z.length c, .slice y C.length d] 27)) := (by repeat (first | exact Below.refl _ _ | assumption | refine Below.drew ?_ | refine below_drewN ?_ _ | refine Below.alloc' ?_ _ | (refine Below.setCell ?_ (by first | omega | (simp; done) | (simp; omega) | exact Below.size (by assumption) | exact Nat.le_trans (Below.size (by assumption)) (by simp)) _) | (refine Below.via' ?_ (by assumption)) | (refine Below.alloc ?_ (by first | omega | (simp; done) | (simp; omega) | exact Below.size (by assumption) | exact Nat.le_trans (Below.size (by assumption)) (by simp)) _) | (refine Below.via ?_ (by assumption) (by first | omega | (simp; done) | (simp; omega) | exact Below.size (by assumption) | exact Nat.le_trans (Below.size (by assumption)) (by simp)))))
  clear h hf f1 f2 f3
  go_enter Try.func57, Try.ntmps57
  go_wp2
  clear qa qb qc
  go_loopw [10] (fun q wr => ∃ i : Nat, i ≤ C.length ∧ q = .int .i64 i ∧ Hid (∀ j, j < i → brB Z C j = false) ∧ Hid (CQ wr w.heap.size x Z.length c y C.length d) ∧ Below w.heap.size w wr) (fun q _ => C.length - (intOf q).toNat)
  case atStart => exact ⟨0, by omega, by go_num, (fun j hj => absurd hj (by omega)), hq0.out, hB0⟩
  case round =>
    clear hq0 hB0
    obtain ⟨i, hi, rfl, hall, hq, hB⟩ := hrel
    by_cases hlt : i < C.length
    · obtain ⟨qa, qb, qc⟩ := hq.out
      obtain ⟨bl, off, n, rfl, hbl, hCi, hc0⟩ := (hh.out.below hB).2.2.2.int hlt
      have hlt' : (i : Int) < (C.length : Int) := by omega
      have hCih := Lib.hid hCi
      clear hCi
      go_wp2_with fail
      refine (parts_any _ _ Z i _ hok.out (by omega) (by omega) (hh.out.below hB).1).mono ?_
      rintro e w2 ⟨v2, T, rfl, hT, hS, hb2⟩
      obtain ⟨x2, c2, rfl, -, -⟩ := (OwR.of hS.1).form
      have hTh := Lib.hid hT
      have hSh := Lib.hid hS
      have hq2 := Lib.hid (hq.out.below hb2)
      have hB2 : Below w.heap.size w w2 := Below.via' hB hb2
      have hTl : T.length ≤ 4 := by
        have h2 := ptU_len Z i Z.length
        have h3 := okZ_len hok.out
        rw [show ptU Z i Z.length = eM T from hT.symm, eM_len] at h2
        omega
      clear hT hS qa qb qc hb2 hc0 hbl
      go_wp2
      obtain ⟨wo, rfl⟩ : ∃ u : World, u = wr := ⟨_, rfl⟩
      go_loopw [20] (fun q wi => ∃ k : Nat, k ≤ T.length ∧ q = .int .i64 k ∧ Hid (∀ m t, m < k → T[m]? = some t → suC C t.L = n) ∧ w2 = wi) (fun q _ => T.length - (intOf q).toNat)
      case atStart => exact ⟨0, by omega, by go_num, (fun m t hm => absurd hm (by omega)), rfl⟩
      case round =>
        obtain ⟨k, hk, rfl, hsum, rfl⟩ := hrel
        by_cases hkl : k < T.length
        · obtain ⟨bt, ot, t, rfl, hbt, hTk, hct⟩ := (Rd.of_own hSh.out.1).ed hkl
          have hkl' : (k : Int) < (T.length : Int) := by omega
          have htm := List.mem_of_getElem? hTk
          have hLm : t.L ∈ ptZ Z i := by rw [← hTh.out]; unfold eM; exact List.mem_map_of_mem htm
          obtain ⟨m1, m2⟩ := ptU_mem hok.out hLm
          have hbd := Lib.hid (fun v hv => (show 0 ≤ v ∧ v < (C.length : Int) by rw [hC2.out]; exact m2 v hv) : ∀ v ∈ t.L, 0 ≤ v ∧ v < (C.length : Int))
          have hrd := Lib.hid (Rd.of_own (hSh.out.2.1 t htm))
          obtain ⟨qa, qb, qc⟩ := hq2.out
          have hTkh := Lib.hid hTk
          have hLmh := Lib.hid hLm
          clear hTk m2 hLm htm
          go_wp2_with fail
          refine (sumAt_any _ _ _ _ C t.L _ hr.out (by omega) hbd.out (hh.out.below hB2).2 hrd.out).mono ?_
          rintro e w3 ⟨rfl, rfl⟩
          by_cases he : suC C t.L = n
          · have heb : (suC C t.L == n) = true := by rw [beq_iff_eq]; exact he
            have heb2 : (suC C t.L != n) = false := by show (!(suC C t.L == n)) = false; rw [heb]; rfl
            have heh := Lib.hid he
            clear he
            go_wp2
            go_roundw
            case rel =>
              refine ⟨k + 1, by omega, by go_num, fun m t' hm ht' => ?_, by first | rfl | trivial⟩
              rcases Nat.lt_or_ge m k with hm2 | hm2
              · exact hsum.out m t' hm2 ht'
              · obtain rfl : m = k := by omega
                obtain rfl := Option.some.inj (ht'.symm.trans hTkh.out)
                exact heh.out
            case measure => simp [intOf]; omega
          · have heb : (suC C t.L == n) = false := by rw [beq_eq_false_iff_ne]; exact he
            have heb2 : (suC C t.L != n) = true := by show (!(suC C t.L == n)) = true; rw [heb]; rfl
            have hv := Lib.hid (fbN_hit hlt (br_yes hLmh.out hCih.out he) hall.out)
            replace he := Lib.hid he
            go_wp2
            go_ret
            exact ⟨ret_int (by rw [hv.out]), hB2⟩
        · have hno : Hid (brB Z C i = false) := br_no hCih.out (fun L hL => by
            rw [← hTh.out] at hL
            unfold eM at hL
            obtain ⟨t, ht, rfl⟩ := List.mem_map.1 hL
            obtain ⟨m, hm, e⟩ := List.getElem_of_mem ht
            exact hsum.out m t (by omega) (by rw [List.getElem?_eq_getElem hm, e]))
          go_wp2
          go_roundw
          case rel =>
            refine ⟨i + 1, by omega, by go_num, fun j hj => ?_, hq2, hB2⟩
            rcases Nat.lt_or_ge j i with hj2 | hj2
            · exact hall.out j hj2
            · obtain rfl : j = i := by omega
              exact hno.out
          case measure => simp [intOf]; omega
    · have hij : i = C.length := by omega
      subst hij
      obtain ⟨qa, qb, qc⟩ := hq.out
      have hv := Lib.hid (fbN_miss hall.out)
      go_wp2
      go_ret
      exact ⟨ret_int (by rw [hv.out]), hB⟩

set_option maxHeartbeats 8000000 in
theorem cbBroken_any (x y : Option Addr) (c d : Nat) (Z C : List Int) (i : Nat) (w : World) (hf : cfB Z C = true) (hi : i < C.length) (h : CIn w x y Z C) :
    Calls Try.prog 97 #[.agg #[.slice x Z.length c, .slice y C.length d], .int .i64 i] w fun e w' => e = .returned (.bool (brB Z C i)) ∧ Below w.heap.size w w' := by
  have hh := Lib.hid h
  obtain ⟨f1, f2, f3⟩ := cf_get hf
  have hok := Lib.hid (cs_get f1).1
  have h4 := okZ_len hok.out
  have hlen := cf_len hf
  have hC2 := Lib.hid f2
  have hr := Lib.hid f3
  obtain ⟨bc, oc, n, rfl, hbc, hCi, hcc⟩ := h.2.2.2.int hi
  have hCih := Lib.hid hCi
  have hq0 := Lib.hid (CQ.new w x Z.length c (some ⟨bc, oc, none⟩) C.length d 27)
  obtain ⟨qa, qb, qc⟩ := hq0.out
  have hlti : (i : Int) < (C.length : Int) := by omega
  have hB0 : Below w.heap.size w (w.alloc (.cells #[.slice x Z.length c, .slice (some ⟨bc, oc, none⟩) C.length d] 27)) := (by repeat (first | exact Below.refl _ _ | assumption | refine Below.drew ?_ | refine below_drewN ?_ _ | refine Below.alloc' ?_ _ | (refine Below.setCell ?_ (by first | omega | (simp; done) | (simp; omega) | exact Below.size (by assumption) | exact Nat.le_trans (Below.size (by assumption)) (by simp)) _) | (refine Below.via' ?_ (by assumption)) | (refine Below.alloc ?_ (by first | omega | (simp; done) | (simp; omega) | exact Below.size (by assumption) | exact Nat.le_trans (Below.size (by assumption)) (by simp)) _) | (refine Below.via ?_ (by assumption) (by first | omega | (simp; done) | (simp; omega) | exact Below.size (by assumption) | exact Nat.le_trans (Below.size (by assumption)) (by simp)))))
  clear h hf f1 f2 f3 hCi
  go_enter Try.func97, Try.ntmps97
  go_wp2_with fail
  refine (cbIndices_any _ _ Z i _ hok.out (by omega) (by omega) (hh.out.below hB0).1).mono ?_
  rintro e w1 ⟨rfl, ho1, hb1⟩
  have hI1 := Lib.hid ho1
  have hq1 := Lib.hid (hq0.out.below hb1)
  have hB1 : Below w.heap.size w w1 := Below.via' hB0 hb1
  simp only [World.size_alloc] at ho1
  have hIg := (own_lt ho1).2
  have hI1 := Lib.hid ho1
  clear ho1 hb1 hB0 hq0 qa qb qc
  go_wp2
  go_loopw [15] (fun q wr => ∃ j : Nat, j ≤ Z.length ∧ q = .int .i64 j ∧ Hid (∀ L ∈ ptU Z i j, suC C L = n) ∧ Hid (CQ wr w.heap.size x Z.length c (some ⟨bc, oc, none⟩) C.length d) ∧ Hid (wr.ownsRow (w.heap.size + 1) 3 1 (.slice (some ⟨w.heap.size + 1, 0, none⟩) Z.length Z.length) Z.length (iC (dgL Z i))) ∧ Below w.heap.size w wr) (fun q _ => Z.length - (intOf q).toNat)
  case atStart => exact ⟨0, by omega, by go_num, (fun L hL => by cases hL), hq1.out, hI1.out, hB1⟩
  case round =>
    clear hq1 hI1 hB1
    obtain ⟨j, hj, rfl, hsum, hq, hI, hB⟩ := hrel
    by_cases hlt : j < Z.length
    · obtain ⟨qa, qb, qc⟩ := hq.out
      obtain ⟨bl, off, z, rfl, hbl, hZj, hc0⟩ := (hh.out.below hB).1.2.2.int hlt
      obtain ⟨l1, l2⟩ := okZ_at hok.out hZj
      have hyd := dgL_at (i : Int) hZj
      obtain ⟨v, hve⟩ : ∃ v, v = (i : Int) / cnC (Z.drop (j + 1)) % (z + 1) := ⟨_, rfl⟩
      rw [← hve] at hyd
      obtain ⟨u, hu, k0⟩ := own_cell hI.out (j := j) (by omega)
      obtain rfl : u = .int .i64 v := iC_atI hyd hu
      have k4 := (own_lt hI.out).2
      have hlt' : (j : Int) < (Z.length : Int) := by omega
      have hZjh := Lib.hid hZj
      have hydh := Lib.hid hyd
      clear hZj hyd hve hu
      by_cases he : v = z
      · have heb : (v == z) = true := by rw [beq_iff_eq]; exact he
        have heb2 : (v != z) = false := by show (!(v == z)) = false; rw [heb]; rfl
        replace he := Lib.hid he
        obtain ⟨wo, rfl⟩ : ∃ u : World, u = wr := ⟨_, rfl⟩
        go_wp2_with fail
        refine (cbParts_any _ _ Z i j _ hok.out (by omega) (by omega) hlt (hh.out.below hB).1).mono ?_
        rintro e w4 ⟨v4, rfl, ho4, hb4⟩
        obtain ⟨x4, c4, rfl, -, -⟩ := (OwR.of ho4).form
        have hq4 := Lib.hid (hq.out.below hb4)
        have hI4 := Lib.hid (own_below hI.out hb4)
        have hB4 : Below w.heap.size w w4 := Below.via' hB hb4
        have hr4 := Lib.hid (Rd.of_own ho4)
        have hst := Lib.hid (ptU_yes hZjh.out (by rw [hydh.out, he.out]))
        have hmm := ptD_30 hok.out (i : Int) j
        obtain ⟨Lp, hLp⟩ : ∃ Lp, Lp = ptD Z i j := ⟨_, rfl⟩
        have hLm := Lib.hid (fun v hv => (show 0 ≤ v ∧ v < (C.length : Int) by rw [hC2.out]; rw [hLp] at hv; exact ptD_mem hok.out hv) : ∀ v ∈ Lp, 0 ≤ v ∧ v < (C.length : Int))
        rw [← hLp] at hr4 hmm hst ⊢
        have hb0 := Lib.hid (fun M : List Int => suC_bd hr.out M)
        obtain ⟨ra, rb, rc⟩ := hq4.out
        replace hLp := Lib.hid hLp
        clear ho4 hb4 qa qb qc hbl hc0 k0 k4
        go_wp2
        go_loopw [7, 33] (fun s q wi => ∃ k : Nat, k ≤ Lp.length ∧ q = .int .i64 k ∧ s = .int .i64 (suC C (Lp.take k)) ∧ w4 = wi) (fun _ q _ => Lp.length - (intOf q).toNat)
        case atStart => exact ⟨0, by omega, by go_num, rfl, rfl⟩
        case round =>
          obtain ⟨k, hk, rfl, rfl, rfl⟩ := hrel
          by_cases hkl : k < Lp.length
          · obtain ⟨b5, o5, p, rfl, hb5, hLk, hc5⟩ := hr4.out.int hkl
            obtain ⟨p1, p2⟩ := hLm.out p (List.mem_of_getElem? hLk)
            obtain ⟨kk, rfl⟩ : ∃ kk : Nat, p = (kk : Int) := ⟨p.toNat, by omega⟩
            obtain ⟨b6, o6, m, hx6, hb6, hCk, hc6⟩ := (hh.out.below hB4).2.2.2.int (i := kk) (by omega)
            cases hx6
            have hst2 := Lib.hid (suC_take (C := C) hLk (by rw [Int.toNat_natCast]; exact hCk))
            have hb1 := hb0.out (Lp.take k)
            have hb2 : ((Lp.take k).length : Int) ≤ 30 := by rw [List.length_take]; omega
            have hn := inR_at hr.out hCk
            have hkl' : (k : Int) < (Lp.length : Int) := by omega
            replace hLk := Lib.hid hLk
            replace hCk := Lib.hid hCk
            go_wp2
            go_roundw
            case rel => exact ⟨k + 1, by omega, by go_num, (by rw [hst2.out]; try rw [IntWalk.i64_in _ (by omega)]), by first | rfl | trivial⟩
            case measure => simp [intOf]; omega
          · have hkn : k = Lp.length := by omega
            subst hkn
            rw [List.take_length]
            have hcc4 := (hB4.cell (p := ⟨bc, oc + i, none⟩) hbc).trans hcc
            have hbc4 : bc < w4.heap.size := Nat.lt_of_lt_of_le hbc hB4.size
            by_cases hs : suC C Lp = n
            · have hsb : (suC C Lp == n) = true := by rw [beq_iff_eq]; exact hs
              have hsb2 : (suC C Lp != n) = false := by show (!(suC C Lp == n)) = false; rw [hsb]; rfl
              have hnext : Hid (∀ L ∈ ptU Z i (j + 1), suC C L = n) := by
                unfold Hid
                rw [hst.out]
                intro L hL
                rcases List.mem_append.1 hL with hL | hL
                · exact hsum.out L hL
                · obtain rfl := List.mem_singleton.1 hL
                  exact hs
              replace hs := Lib.hid hs
              go_wp2
              go_roundw
              case rel => exact ⟨j + 1, by omega, by go_num, hnext, hq4, hI4, hB4⟩
              case measure => simp [intOf]; omega
            · have hsb : (suC C Lp == n) = false := by rw [beq_eq_false_iff_ne]; exact hs
              have hsb2 : (suC C Lp != n) = true := by show (!(suC C Lp == n)) = true; rw [hsb]; rfl
              have hv := Lib.hid (br_yes (Z := Z) (C := C) (i := i) (L := Lp) (ptU_all (d := j + 1) (by omega) (by rw [hst.out]; simp)) hCih.out hs)
              replace hs := Lib.hid hs
              go_wp2
              go_ret
              exact ⟨ret_bool hv.out.symm, hB4⟩
      · have heb : (v == z) = false := by rw [beq_eq_false_iff_ne]; exact he
        have heb2 : (v != z) = true := by show (!(v == z)) = true; rw [heb]; rfl
        have hst := Lib.hid (ptU_no hZjh.out hydh.out he)
        replace he := Lib.hid he
        go_wp2
        go_roundw
        case rel => exact ⟨j + 1, by omega, by go_num, by rw [hst.out]; exact hsum.out, hq, hI, hB⟩
        case measure => simp [intOf]; omega
    · have hij : j = Z.length := by omega
      subst hij
      have hv := Lib.hid (br_no (Z := Z) hCih.out hsum.out)
      go_wp2
      go_ret
      exact ⟨ret_bool hv.out.symm, hB⟩
end Go.Proofs.Ytnmpigedhpdenaa
