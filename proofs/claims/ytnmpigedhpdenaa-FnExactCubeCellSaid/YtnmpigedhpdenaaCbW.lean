/-
  The walks of chapter 10: a cell by its indices; the program's and the model's.
-/
import Derived.Test.YtnmpigedhpdenaaCbV
import Derived.Laws.CopyOwn
namespace Go.Proofs.Ytnmpigedhpdenaa
open Go.RowKit
set_option maxRecDepth 100000

/-- Are they indices of a cell? -/
def ftB (Z I : List Int) : Bool := decide (I.length = Z.length) && (Z.zip I).all fun q => inB q.2 0 q.1
theorem ft_no1 {Z I : List Int} (h : I.length ≠ Z.length) : ftB Z I = false := by unfold ftB; rw [decide_eq_false h]; rfl
theorem ft_bad {Z I : List Int} {j : Nat} {z x : Int} (h1 : Z[j]? = some z) (h2 : I[j]? = some x) (h : inB x 0 z = false) : ftB Z I = false := by
  unfold ftB
  have : ((Z.zip I).all fun q => inB q.2 0 q.1) = false := by
    rw [List.all_eq_false]
    exact ⟨(z, x), List.mem_of_getElem? (List.getElem?_zip_eq_some.2 ⟨h1, h2⟩), by rw [h]; decide⟩
  rw [this, Bool.and_false]
theorem ft_all {Z I : List Int} (hl : I.length = Z.length) (h : ∀ j, j < Z.length → ∃ z x, Z[j]? = some z ∧ I[j]? = some x ∧ inB x 0 z = true) : ftB Z I = true := by
  unfold ftB
  rw [decide_eq_true hl, Bool.true_and, List.all_eq_true]
  intro q hq
  obtain ⟨j, hj, e⟩ := List.getElem_of_mem hq
  obtain ⟨z, x, a, b, c⟩ := h j (by rw [List.length_zip] at hj; omega)
  have e2 := List.getElem?_eq_getElem hj
  rw [List.getElem?_zip_eq_some.2 (show Z[j]? = some (z, x).1 ∧ I[j]? = some (z, x).2 from ⟨a, b⟩), e] at e2
  cases e2
  exact c
theorem ft_fit {Z I : List Int} (h : ftB Z I = true) : FtC Z I ∧ I.length = Z.length := by
  unfold ftB at h
  rw [Bool.and_eq_true, decide_eq_true_eq, List.all_eq_true] at h
  refine ⟨⟨by omega, fun d z x hz hx => ?_⟩, h.1⟩
  exact (inB_iff _ _ _).1 (h.2 (z, x) (List.mem_of_getElem? (List.getElem?_zip_eq_some.2 ⟨hz, hx⟩)))
/-- What CubeCell gives. -/
def cuB (Z C I : List Int) : Bool := cgB Z C && ftB Z I
def cuV (Z C I : List Int) : Int := if cuB Z C I then C.getD (ixC Z I).toNat 0 else 0
theorem cu_no1 {Z C : List Int} (I : List Int) (h : cgB Z C = false) : cuB Z C I = false := by unfold cuB; rw [h]; rfl
theorem cu_no2 {Z I : List Int} (C : List Int) (h : ftB Z I = false) : cuB Z C I = false := by unfold cuB; rw [h, Bool.and_false]
theorem cu_no {Z C I : List Int} (h : cuB Z C I = false) : cuV Z C I = 0 ∧ cuB Z C I = false := ⟨by unfold cuV; rw [h]; rfl, h⟩
theorem cu_yes {Z C I : List Int} {k : Nat} {m : Int} (h : cgB Z C = true) (hf : ftB Z I = true) (hk : ixC Z I = (k : Int)) (hm : C[k]? = some m) : cuV Z C I = m ∧ cuB Z C I = true := by
  have e : cuB Z C I = true := by unfold cuB; rw [h, hf]; rfl
  refine ⟨?_, e⟩
  unfold cuV
  rw [e, hk, Int.toNat_natCast, getD_at hm]
  rfl
theorem cu_cell {Z C I : List Int} (h : cgB Z C = true) (hf : ftB Z I = true) : ∃ k : Nat, ixC Z I = (k : Int) ∧ k < C.length := by
  obtain ⟨a, b⟩ := ix_in (ft_fit hf).1
  obtain ⟨f1, f2, f3⟩ := cf_get (cg_get h).1
  exact ⟨(ixC Z I).toNat, by omega, by omega⟩
theorem splice_four {I : List Int} (h : I.length ≤ 4) : ∃ a b c d : Int, I ++ List.replicate (4 - I.length) 0 = [a, b, c, d] ∧ splice (iC [0, 0, 0, 0]) 0 (iC I) = iC [a, b, c, d] := by
  obtain ⟨a, b, c, d, e⟩ := four_of (L := I ++ List.replicate (4 - I.length) 0) (by rw [List.length_append, List.length_replicate]; omega)
  refine ⟨a, b, c, d, e, ?_⟩
  rw [← e]
  unfold splice
  rw [iC_appN, List.take_zero, List.nil_append, Nat.zero_add, iC_len]
  congr 1
  have : I.length = 0 ∨ I.length = 1 ∨ I.length = 2 ∨ I.length = 3 ∨ I.length = 4 := by omega
  rcases this with h | h | h | h | h <;> rw [h] <;> rfl
set_option maxHeartbeats 8000000 in
theorem iCC_any (x y z : Option Addr) (c d e : Nat) (Z C I : List Int) (w : World) (h : CIn w x y Z C) (hI : IIn w z I) :
    Calls Try.prog 32 #[.agg #[.slice x Z.length c, .slice y C.length d], .slice z I.length e] w fun e w' => e = .returned (.tuple #[.int .i64 (cuV Z C I), .bool (cuB Z C I)]) ∧ Below w.heap.size w w' := by
  have hh := Lib.hid h
  have hIh := Lib.hid hI
  have hq := Lib.hid (CQ.new w x Z.length c y C.length d 27)
  obtain ⟨qa, qb, qc⟩ := hq.out
  have hB0 : Below w.heap.size w (w.alloc (.cells #[.slice x Z.length c, .slice y C.length d] 27)) := (by repeat (first | exact Below.refl _ _ | assumption | refine Below.drew ?_ | refine below_drewN ?_ _ | refine Below.alloc' ?_ _ | (refine Below.setCell ?_ (by first | omega | (simp; done) | (simp; omega) | exact Below.size (by assumption) | exact Nat.le_trans (Below.size (by assumption)) (by simp)) _) | (refine Below.via' ?_ (by assumption)) | (refine Below.alloc ?_ (by first | omega | (simp; done) | (simp; omega) | exact Below.size (by assumption) | exact Nat.le_trans (Below.size (by assumption)) (by simp)) _) | (refine Below.via ?_ (by assumption) (by first | omega | (simp; done) | (simp; omega) | exact Below.size (by assumption) | exact Nat.le_trans (Below.size (by assumption)) (by simp)))))
  clear h hI
  go_enter Try.func32, Try.ntmps32
  go_wp2_with fail
  refine (iCu_any _ _ _ _ Z C _ (hh.out.below hB0)).mono ?_
  rintro e1 w1 ⟨rfl, hb1⟩
  have hB1 : Below w.heap.size w w1 := Below.via' hB0 hb1
  have hq1 := Lib.hid (hq.out.below hb1)
  clear qa qb qc hb1 hB0
  obtain ⟨qa, qb, qc⟩ := hq1.out
  cases hg : cgB Z C
  · have hv := Lib.hid (cu_no (cu_no1 I hg))
    clear hg
    go_wp2
    go_ret2
    exact ⟨ret_in hv.out.1.symm hv.out.2.symm, hB1⟩
  have hgy := Lib.hid hg
  have hfh := Lib.hid (cg_get hg).1
  obtain ⟨f1, f2, f3⟩ := cf_get hfh.out
  have hok := Lib.hid (cs_get f1).1
  have h4 := okZ_len hok.out
  clear hg f1 f2 f3
  by_cases hl : I.length = Z.length
  · have hlb : ((I.length : Int) == (Z.length : Int)) = true := by rw [beq_iff_eq]; omega
    have hlb2 : ((I.length : Int) != (Z.length : Int)) = false := by show (!((I.length : Int) == (Z.length : Int))) = false; rw [hlb]; rfl
    have hlh := Lib.hid hl
    clear hl
    go_wp2
    go_loopw [23] (fun q wr => ∃ j : Nat, j ≤ Z.length ∧ q = .int .i64 j ∧ Hid (∀ m, m < j → ∃ z x, Z[m]? = some z ∧ I[m]? = some x ∧ inB x 0 z = true) ∧ w1 = wr) (fun q _ => Z.length - (intOf q).toNat)
    case atStart => exact ⟨0, by omega, by go_num, (fun m hm => absurd hm (by omega)), rfl⟩
    case round =>
      obtain ⟨j, hj, rfl, hall, rfl⟩ := hrel
      by_cases hlt : j < Z.length
      · obtain ⟨bl, off, v, rfl, hbl, hZj, hc0⟩ := (hh.out.below hB1).1.2.2.int hlt
        obtain ⟨bi, oi, u, rfl, hbi, hIj, hc1⟩ := (hIh.out.below hB1).2.2.int (i := j) (by have := hlh.out; omega)
        have hlt' : (j : Int) < (Z.length : Int) := by omega
        have hlt2 : (j : Int) < (I.length : Int) := by have := hlh.out; omega
        cases hin : inB u 0 v
        · have hno := (inB_no _ _ _).1 hin
          have hv := Lib.hid (cu_no (cu_no2 C (ft_bad hZj hIj hin)))
          replace hZj := Lib.hid hZj
          replace hIj := Lib.hid hIj
          by_cases hlo : u < 0
          · go_wp2
            go_ret2
            exact ⟨ret_in hv.out.1.symm hv.out.2.symm, hB1⟩
          · have hhi : v < u := by omega
            go_wp2
            go_ret2
            exact ⟨ret_in hv.out.1.symm hv.out.2.symm, hB1⟩
        · have hok2 := (inB_iff _ _ _).1 hin
          have hlo : ¬ u < 0 := by omega
          have hhi : ¬ v < u := by omega
          replace hZj := Lib.hid hZj
          replace hIj := Lib.hid hIj
          replace hin := Lib.hid hin
          clear hok2
          go_wp2
          go_roundw
          case rel =>
            refine ⟨j + 1, by omega, by go_num, fun m hm => ?_, by first | rfl | trivial⟩
            rcases Nat.lt_or_ge m j with hm2 | hm2
            · exact hall.out m hm2
            · obtain rfl : m = j := by omega
              exact ⟨v, u, hZj.out, hIj.out, hin.out⟩
          case measure => simp [intOf]; omega
      · have hij : j = Z.length := by omega
        subst hij
        have hft := Lib.hid (ft_all hlh.out hall.out)
        obtain ⟨kk, hkk, hkl⟩ := cu_cell hgy.out hft.out
        obtain ⟨b6, o6, m, rfl, hb6, hCk, hc6⟩ := (hh.out.below hB1).2.2.2.int hkl
        have hv := Lib.hid (cu_yes hgy.out hft.out hkk hCk)
        obtain ⟨p0, p1, p2, p3, hfour, hspl⟩ := splice_four (I := I) (by have := hlh.out; omega)
        have hfit := Lib.hid (show FtC Z [p0, p1, p2, p3] from hfour ▸ (ft_fit hft.out).1.more _)
        have hix := Lib.hid (show ixC Z [p0, p1, p2, p3] = (kk : Int) by rw [← hfour, ixC_more _ _ _ (by have := hlh.out; omega)]; exact hkk)
        have hsplh := Lib.hid hspl
        have hkl' : (kk : Int) < (C.length : Int) := by omega
        have hnew := Lib.hid (Wb.new w1 81 #[.int .i64 0, .int .i64 0, .int .i64 0, .int .i64 0])
        have hBn : Below w1.heap.size w1 (w1.alloc (.cells #[.int .i64 0, .int .i64 0, .int .i64 0, .int .i64 0] 81)) := (by repeat (first | exact Below.refl _ _ | assumption | refine Below.drew ?_ | refine below_drewN ?_ _ | refine Below.alloc' ?_ _ | (refine Below.setCell ?_ (by first | omega | (simp; done) | (simp; omega) | exact Below.size (by assumption) | exact Nat.le_trans (Below.size (by assumption)) (by simp)) _) | (refine Below.via' ?_ (by assumption)) | (refine Below.alloc ?_ (by first | omega | (simp; done) | (simp; omega) | exact Below.size (by assumption) | exact Nat.le_trans (Below.size (by assumption)) (by simp)) _) | (refine Below.via ?_ (by assumption) (by first | omega | (simp; done) | (simp; omega) | exact Below.size (by assumption) | exact Nat.le_trans (Below.size (by assumption)) (by simp)))))
        have hsrc := Lib.hid (fun j v (hj : (iC I)[j]? = some v) => (show ∃ b off, z = some ⟨b, off, none⟩ ∧ (w1.alloc (.cells #[.int .i64 0, .int .i64 0, .int .i64 0, .int .i64 0] 81)).cell? ⟨b, off + j, none⟩ = some v by
          have hjl := (List.getElem?_eq_some_iff.1 hj).1
          rw [iC_len] at hjl
          obtain ⟨b, off, u, e1, _, h2, h3⟩ := ((hIh.out.below hB1).below hBn).2.2.int hjl
          rw [iC_at h2] at hj
          cases hj
          exact ⟨b, off, e1, h3⟩))
        have hBnh := Lib.hid hBn
        clear hkk hCk hfour hspl hall hlb hlb2 hBn
        replace hc6 := Lib.hid hc6
        go_wp2_with (go_loud (refine wpList_copy_splice rfl (.tmp 42) (.tmp 43) 22 22 rfl 3 Try.underlying22 (by kernel_rfl) _ _ _ _ _ _ rfl rfl w1.heap.size 0 (iC [0, 0, 0, 0]) 81 hnew.out (iC I) (by rw [iC_len]; exact (Nat.min_eq_left (by have := hlh.out; omega)).symm) (fun hp => ⟨rfl, ?_⟩) (by rw [iC_len, iC_len]; have := hlh.out; simp; omega) (iC_one _) w1.heap.size w1 hBnh.out (Nat.le_refl _) (fun w2 hg2 hb2 => ?_)))
        · rw [iC_len] at hp
          obtain ⟨bz, oz, uz, hz1, hz2, hz3, hz4⟩ := (hIh.out.below hB1).2.2.int hp
          refine ⟨⟨bz, oz, none⟩, hz1, fun j v hj => ?_⟩
          obtain ⟨b, off, e1, h3⟩ := hsrc.out j v hj
          rw [hz1] at e1
          cases e1
          rw [addr_add]
          exact h3
        · have hW2 : Hid (Wb w2 w1.heap.size 81 #[.int .i64 p0, .int .i64 p1, .int .i64 p2, .int .i64 p3]) := by
            have h0 := hg2.out
            rw [hsplh.out] at h0
            exact h0
          have hb2h := Lib.hid hb2
          have hB2 : Below w.heap.size w w2 := Below.via' hB1 hb2
          have hq2 := Lib.hid (hq1.out.below hb2)
          obtain ⟨ra, rb, rc⟩ := hq2.out
          have k0 : w2.cell? ⟨w1.heap.size, 0, none⟩ = some (.int .i64 p0) := (hW2.out.read 0).trans rfl
          have k1 : w2.cell? ⟨w1.heap.size, 1, none⟩ = some (.int .i64 p1) := (hW2.out.read 1).trans rfl
          have k2 : w2.cell? ⟨w1.heap.size, 2, none⟩ = some (.int .i64 p2) := (hW2.out.read 2).trans rfl
          have k3 : w2.cell? ⟨w1.heap.size, 3, none⟩ = some (.int .i64 p3) := (hW2.out.read 3).trans rfl
          have k4 := hW2.out.inside
          have c6 := (hb2.cell (p := ⟨b6, o6 + kk, none⟩) hb6).trans hc6.out
          have hb6' : b6 < w2.heap.size := Nat.lt_of_lt_of_le hb6 hb2.size
          clear hg2 hb2 qa qb qc hnew hsrc hBnh hb6
          go_region_held3 (fun w' => Below (w2).heap.size (w2) w' ∧ (∀ b o, b < (w2).heap.size → w'.cell? ⟨b, o, none⟩ = (w2).cell? ⟨b, o, none⟩)) (first | exact keep_of (Below.refl _ _) | ((try go_split_ands); exact keep_of (by repeat (first | exact Below.refl _ _ | assumption | refine Below.drew ?_ | refine below_drewN ?_ _ | refine Below.alloc' ?_ _ | (refine Below.setCell ?_ (by first | omega | (simp; done) | (simp; omega) | exact Below.size (by assumption) | exact Nat.le_trans (Below.size (by assumption)) (by simp)) _) | (refine Below.via' ?_ (by assumption)) | (refine Below.alloc ?_ (by first | omega | (simp; done) | (simp; omega) | exact Below.size (by assumption) | exact Nat.le_trans (Below.size (by assumption)) (by simp)) _) | (refine Below.via ?_ (by assumption) (by first | omega | (simp; done) | (simp; omega) | exact Below.size (by assumption) | exact Nat.le_trans (Below.size (by assumption)) (by simp))))))) ((go_at_call 75; refine (cellAt_any _ _ Z p0 p1 p2 p3 _ hok.out hfit.out ((hh.out.below hB2).1.below (by exact (by repeat (first | exact Below.refl _ _ | assumption | refine Below.drew ?_ | refine below_drewN ?_ _ | refine Below.alloc' ?_ _ | (refine Below.setCell ?_ (by first | omega | (simp; done) | (simp; omega) | exact Below.size (by assumption) | exact Nat.le_trans (Below.size (by assumption)) (by simp)) _) | (refine Below.via' ?_ (by assumption)) | (refine Below.alloc ?_ (by first | omega | (simp; done) | (simp; omega) | exact Below.size (by assumption) | exact Nat.le_trans (Below.size (by assumption)) (by simp)) _) | (refine Below.via ?_ (by assumption) (by first | omega | (simp; done) | (simp; omega) | exact Below.size (by assumption) | exact Nat.le_trans (Below.size (by assumption)) (by simp)))))))).mono ?_; rintro e3 w3 ⟨rfl, hb3⟩; rw [hix.out])); rename_i hH; obtain ⟨hb3, hcl3⟩ := hH; have hz3 := hb3.size; (try simp at hz3); (try (have hly3 := Nat.lt_of_succ_le hz3)); (try (have hlx3 := Nat.lt_of_succ_lt hly3)); (try (have hlw3 := Nat.lt_of_succ_lt hlx3)); (try (have hle3 := Nat.le_of_lt hly3)); (try (have hya3 : w.heap.size < w3.heap.size := by omega)); (try (have hyb3 : w.heap.size + 1 < w3.heap.size := by omega)); (try (have hyc3 : w.heap.size + 1 + 1 < w3.heap.size := by omega)); (try (have hyd3 : wa.heap.size < w3.heap.size := by omega))
          go_wp2
          go_ret2
          exact ⟨ret_in hv.out.1.symm hv.out.2.symm, Below.via' hB2 hb3⟩
  · have hlb : ((I.length : Int) == (Z.length : Int)) = false := by rw [beq_eq_false_iff_ne]; omega
    have hlb2 : ((I.length : Int) != (Z.length : Int)) = true := by show (!((I.length : Int) == (Z.length : Int))) = true; rw [hlb]; rfl
    have hv := Lib.hid (cu_no (cu_no2 C (ft_no1 hl)))
    replace hl := Lib.hid hl
    go_wp2
    go_ret2
    exact ⟨ret_in hv.out.1.symm hv.out.2.symm, hB1⟩
set_option maxHeartbeats 8000000 in
theorem sCC_any (x y z : Option Addr) (c d e : Nat) (Z C I : List Int) (w : World) (h : CIn w x y Z C) (hI : IIn w z I) :
    Calls Try.prog 31 #[.agg #[.slice x Z.length c, .slice y C.length d], .slice z I.length e] w fun e w' => e = .returned (.tuple #[.int .i64 (cuV Z C I), .bool (cuB Z C I)]) ∧ Below w.heap.size w w' := by
  have hh := Lib.hid h
  have hIh := Lib.hid hI
  have hq := Lib.hid (CQ.new w x Z.length c y C.length d 27)
  obtain ⟨qa, qb, qc⟩ := hq.out
  have hB0 : Below w.heap.size w (w.alloc (.cells #[.slice x Z.length c, .slice y C.length d] 27)) := (by repeat (first | exact Below.refl _ _ | assumption | refine Below.drew ?_ | refine below_drewN ?_ _ | refine Below.alloc' ?_ _ | (refine Below.setCell ?_ (by first | omega | (simp; done) | (simp; omega) | exact Below.size (by assumption) | exact Nat.le_trans (Below.size (by assumption)) (by simp)) _) | (refine Below.via' ?_ (by assumption)) | (refine Below.alloc ?_ (by first | omega | (simp; done) | (simp; omega) | exact Below.size (by assumption) | exact Nat.le_trans (Below.size (by assumption)) (by simp)) _) | (refine Below.via ?_ (by assumption) (by first | omega | (simp; done) | (simp; omega) | exact Below.size (by assumption) | exact Nat.le_trans (Below.size (by assumption)) (by simp)))))
  clear h hI
  go_enter Try.func31, Try.ntmps31
  go_wp2_with fail
  refine (cbGood_any _ _ _ _ Z C _ (hh.out.below hB0)).mono ?_
  rintro e1 w1 ⟨rfl, hb1⟩
  have hB1 : Below w.heap.size w w1 := Below.via' hB0 hb1
  have hq1 := Lib.hid (hq.out.below hb1)
  clear qa qb qc hb1 hB0
  obtain ⟨qa, qb, qc⟩ := hq1.out
  cases hg : cgB Z C
  · have hv := Lib.hid (cu_no (cu_no1 I hg))
    clear hg
    go_wp2
    go_ret2
    exact ⟨ret_in hv.out.1.symm hv.out.2.symm, hB1⟩
  have hgy := Lib.hid hg
  have hfh := Lib.hid (cg_get hg).1
  obtain ⟨f1, f2, f3⟩ := cf_get hfh.out
  have hok := Lib.hid (cs_get f1).1
  have h4 := okZ_len hok.out
  clear hg f1 f2 f3
  by_cases hl : I.length = Z.length
  · have hlb : ((I.length : Int) == (Z.length : Int)) = true := by rw [beq_iff_eq]; omega
    have hlb2 : ((I.length : Int) != (Z.length : Int)) = false := by show (!((I.length : Int) == (Z.length : Int))) = false; rw [hlb]; rfl
    have hlh := Lib.hid hl
    clear hl
    go_wp2
    go_loopw [21] (fun q wr => ∃ j : Nat, j ≤ I.length ∧ q = .int .i64 j ∧ Hid (∀ m, m < j → ∃ z x, Z[m]? = some z ∧ I[m]? = some x ∧ inB x 0 z = true) ∧ w1 = wr) (fun q _ => I.length - (intOf q).toNat)
    case atStart => exact ⟨0, by omega, by go_num, (fun m hm => absurd hm (by omega)), rfl⟩
    case round =>
      obtain ⟨j, hj, rfl, hall, rfl⟩ := hrel
      by_cases hlt : j < I.length
      · obtain ⟨bl, off, v, rfl, hbl, hZj, hc0⟩ := (hh.out.below hB1).1.2.2.int (i := j) (by have := hlh.out; omega)
        obtain ⟨bi, oi, u, rfl, hbi, hIj, hc1⟩ := (hIh.out.below hB1).2.2.int hlt
        have hlt' : (j : Int) < (I.length : Int) := by omega
        have hlt2 : (j : Int) < (Z.length : Int) := by have := hlh.out; omega
        cases hin : inB u 0 v
        · have hv := Lib.hid (cu_no (cu_no2 C (ft_bad hZj hIj hin)))
          replace hZj := Lib.hid hZj
          replace hIj := Lib.hid hIj
          go_wp2_with fail
          refine (l1In_any _ _ _ _).mono ?_
          rintro e2 w2 ⟨rfl, rfl⟩
          rw [hin]
          go_wp2
          go_ret2
          exact ⟨ret_in hv.out.1.symm hv.out.2.symm, hB1⟩
        · replace hZj := Lib.hid hZj
          replace hIj := Lib.hid hIj
          have hinh := Lib.hid hin
          go_wp2_with fail
          refine (l1In_any _ _ _ _).mono ?_
          rintro e2 w2 ⟨rfl, rfl⟩
          rw [hin]
          clear hin
          go_wp2
          go_roundw
          case rel =>
            refine ⟨j + 1, by omega, by go_num, fun m hm => ?_, by first | rfl | trivial⟩
            rcases Nat.lt_or_ge m j with hm2 | hm2
            · exact hall.out m hm2
            · obtain rfl : m = j := by omega
              exact ⟨v, u, hZj.out, hIj.out, hinh.out⟩
          case measure => simp [intOf]; omega
      · have hij : j = I.length := by omega
        subst hij
        have hft := Lib.hid (ft_all hlh.out (fun m hm => hall.out m (by have := hlh.out; omega)))
        obtain ⟨kk, hkk, hkl⟩ := cu_cell hgy.out hft.out
        obtain ⟨b6, o6, m, rfl, hb6, hCk, hc6⟩ := (hh.out.below hB1).2.2.2.int hkl
        have hv := Lib.hid (cu_yes hgy.out hft.out hkk hCk)
        have hfit := Lib.hid (ft_fit hft.out).1
        have hix := Lib.hid hkk
        have hkl' : (kk : Int) < (C.length : Int) := by omega
        clear hkk hCk hall hlb hlb2
        go_wp2_with fail
        go_region_held3 (fun w' => Below (w1).heap.size (w1) w' ∧ (∀ b o, b < (w1).heap.size → w'.cell? ⟨b, o, none⟩ = (w1).cell? ⟨b, o, none⟩)) (first | exact keep_of (Below.refl _ _) | ((try go_split_ands); exact keep_of (by repeat (first | exact Below.refl _ _ | assumption | refine Below.drew ?_ | refine below_drewN ?_ _ | refine Below.alloc' ?_ _ | (refine Below.setCell ?_ (by first | omega | (simp; done) | (simp; omega) | exact Below.size (by assumption) | exact Nat.le_trans (Below.size (by assumption)) (by simp)) _) | (refine Below.via' ?_ (by assumption)) | (refine Below.alloc ?_ (by first | omega | (simp; done) | (simp; omega) | exact Below.size (by assumption) | exact Nat.le_trans (Below.size (by assumption)) (by simp)) _) | (refine Below.via ?_ (by assumption) (by first | omega | (simp; done) | (simp; omega) | exact Below.size (by assumption) | exact Nat.le_trans (Below.size (by assumption)) (by simp))))))) ((go_at_call 74; refine (cbAt_any _ _ _ _ Z I _ hok.out hfit.out ((hh.out.below hB1).1.below (by exact (by repeat (first | exact Below.refl _ _ | assumption | refine Below.drew ?_ | refine below_drewN ?_ _ | refine Below.alloc' ?_ _ | (refine Below.setCell ?_ (by first | omega | (simp; done) | (simp; omega) | exact Below.size (by assumption) | exact Nat.le_trans (Below.size (by assumption)) (by simp)) _) | (refine Below.via' ?_ (by assumption)) | (refine Below.alloc ?_ (by first | omega | (simp; done) | (simp; omega) | exact Below.size (by assumption) | exact Nat.le_trans (Below.size (by assumption)) (by simp)) _) | (refine Below.via ?_ (by assumption) (by first | omega | (simp; done) | (simp; omega) | exact Below.size (by assumption) | exact Nat.le_trans (Below.size (by assumption)) (by simp))))))) ((hIh.out.below hB1).2.2.below (by exact (by repeat (first | exact Below.refl _ _ | assumption | refine Below.drew ?_ | refine below_drewN ?_ _ | refine Below.alloc' ?_ _ | (refine Below.setCell ?_ (by first | omega | (simp; done) | (simp; omega) | exact Below.size (by assumption) | exact Nat.le_trans (Below.size (by assumption)) (by simp)) _) | (refine Below.via' ?_ (by assumption)) | (refine Below.alloc ?_ (by first | omega | (simp; done) | (simp; omega) | exact Below.size (by assumption) | exact Nat.le_trans (Below.size (by assumption)) (by simp)) _) | (refine Below.via ?_ (by assumption) (by first | omega | (simp; done) | (simp; omega) | exact Below.size (by assumption) | exact Nat.le_trans (Below.size (by assumption)) (by simp)))))))).mono ?_; rintro e3 w3 ⟨rfl, rfl⟩; rw [hix.out])); rename_i hH; obtain ⟨hb3, hcl3⟩ := hH; have hz3 := hb3.size; (try simp at hz3); (try (have hly3 := Nat.lt_of_succ_le hz3)); (try (have hlx3 := Nat.lt_of_succ_lt hly3)); (try (have hlw3 := Nat.lt_of_succ_lt hlx3)); (try (have hle3 := Nat.le_of_lt hly3)); (try (have hya3 : w.heap.size < w3.heap.size := by omega)); (try (have hyb3 : w.heap.size + 1 < w3.heap.size := by omega)); (try (have hyc3 : w.heap.size + 1 + 1 < w3.heap.size := by omega)); (try (have hyd3 : wa.heap.size < w3.heap.size := by omega))
        go_wp2
        go_ret2
        exact ⟨ret_in hv.out.1.symm hv.out.2.symm, (by repeat (first | exact Below.refl _ _ | assumption | refine Below.drew ?_ | refine below_drewN ?_ _ | refine Below.alloc' ?_ _ | (refine Below.setCell ?_ (by first | omega | (simp; done) | (simp; omega) | exact Below.size (by assumption) | exact Nat.le_trans (Below.size (by assumption)) (by simp)) _) | (refine Below.via' ?_ (by assumption)) | (refine Below.alloc ?_ (by first | omega | (simp; done) | (simp; omega) | exact Below.size (by assumption) | exact Nat.le_trans (Below.size (by assumption)) (by simp)) _) | (refine Below.via ?_ (by assumption) (by first | omega | (simp; done) | (simp; omega) | exact Below.size (by assumption) | exact Nat.le_trans (Below.size (by assumption)) (by simp)))))⟩
  · have hlb : ((I.length : Int) == (Z.length : Int)) = false := by rw [beq_eq_false_iff_ne]; omega
    have hlb2 : ((I.length : Int) != (Z.length : Int)) = true := by show (!((I.length : Int) == (Z.length : Int))) = true; rw [hlb]; rfl
    have hv := Lib.hid (cu_no (cu_no2 C (ft_no1 hl)))
    replace hl := Lib.hid hl
    go_wp2
    go_ret2
    exact ⟨ret_in hv.out.1.symm hv.out.2.symm, hB1⟩
end Go.Proofs.Ytnmpigedhpdenaa
