/-
  The walks of chapter 10: base cells; the program's and the model's.
-/
import Derived.Test.YtnmpigedhpdenaaCbV
namespace Go.Proofs.Ytnmpigedhpdenaa
open Go.RowKit
set_option maxRecDepth 100000

/-- A list and a Bool, handed back. -/
def RetCB (L : List Int) (b : Bool) (w : World) (e : Ending) (w' : World) : Prop := ∃ v, e = .returned (.tuple #[v, .bool b]) ∧ w'.ownsRow w.heap.size 3 1 v L.length (iC L) ∧ Below w.heap.size w w'
theorem retCB_no {L : List Int} {b : Bool} {w w' : World} (hb : b = false) (hL : L = []) (h : Below w.heap.size w w') : RetCB L b w (.returned (.tuple #[.slice none 0 0, .bool false])) w' := ⟨_, by rw [hb], by rw [hL]; exact World.ownsRow_nil _ _ _ _, h⟩
theorem retCB_yes {L M : List Int} {b : Bool} {w w' : World} {v : Value} (hb : b = true) (hL : L = M) (ho : w'.ownsRow w.heap.size 3 1 v M.length (iC M)) (h : Below w.heap.size w w') : RetCB L b w (.returned (.tuple #[v, .bool true])) w' := ⟨_, by rw [hb], by rw [hL]; exact ho, h⟩
def boL (Z C : List Int) : List Int := if cgB Z C then bsU Z C C.length else []
theorem bo_no {Z C : List Int} (h : cgB Z C = false) : boL Z C = [] := by unfold boL; rw [h]; rfl
theorem bo_yes {Z C : List Int} (h : cgB Z C = true) : boL Z C = bsU Z C C.length := by unfold boL; rw [h]; rfl
theorem bo_len (Z C : List Int) : (boL Z C).length ≤ C.length := by
  cases h : cgB Z C
  · rw [bo_no h]; simp
  · rw [bo_yes h]; exact bsU_len _ _ _
theorem bsU_yes {Z C : List Int} {i : Nat} {n : Int} (h : beB Z i = true) (hn : C[i]? = some n) : bsU Z C (i + 1) = bsU Z C i ++ [n] := by
  show (if _ then _ else _) = _
  rw [h, getD_at hn]
  rfl
theorem bsU_no {Z : List Int} (C : List Int) {i : Nat} (h : beB Z i = false) : bsU Z C (i + 1) = bsU Z C i := by
  show (if _ then _ else _) = _
  rw [h]
  rfl
theorem biU_yes {Z : List Int} {i : Nat} (h : beB Z i = true) : biU Z (i + 1) = biU Z i ++ [(i : Int)] := by
  show (if _ then _ else _) = _
  rw [h]
  rfl
theorem biU_no {Z : List Int} {i : Nat} (h : beB Z i = false) : biU Z (i + 1) = biU Z i := by
  show (if _ then _ else _) = _
  rw [h]
  rfl
theorem be_of_len {Z : List Int} {i : Int} {T : List PR} (hT : eM T = ptZ Z i) : beB Z i = decide (T.length = 0) := by
  unfold beB
  rw [← hT]
  cases T with
  | nil => rfl
  | cons a r => rfl
set_option maxHeartbeats 8000000 in
theorem iBO_any (x y : Option Addr) (c d : Nat) (Z C : List Int) (w : World) (h : CIn w x y Z C) :
    Calls Try.prog 29 #[.agg #[.slice x Z.length c, .slice y C.length d]] w (RetCB (boL Z C) (cgB Z C) w) := by
  obtain ⟨i0, hii, hz0, hz1, hz2⟩ := info_parts Try.infoInt
  have hh := Lib.hid h
  have hq := Lib.hid (CQ.new w x Z.length c y C.length d 27)
  obtain ⟨qa, qb, qc⟩ := hq.out
  have hB0 : Below w.heap.size w (w.alloc (.cells #[.slice x Z.length c, .slice y C.length d] 27)) := (by repeat (first | exact Below.refl _ _ | assumption | refine Below.drew ?_ | refine below_drewN ?_ _ | refine Below.alloc' ?_ _ | (refine Below.setCell ?_ (by first | omega | (simp; done) | (simp; omega) | exact Below.size (by assumption) | exact Nat.le_trans (Below.size (by assumption)) (by simp)) _) | (refine Below.via' ?_ (by assumption)) | (refine Below.alloc ?_ (by first | omega | (simp; done) | (simp; omega) | exact Below.size (by assumption) | exact Nat.le_trans (Below.size (by assumption)) (by simp)) _) | (refine Below.via ?_ (by assumption) (by first | omega | (simp; done) | (simp; omega) | exact Below.size (by assumption) | exact Nat.le_trans (Below.size (by assumption)) (by simp)))))
  clear h
  go_enter Try.func29, Try.ntmps29
  go_wp2_with fail
  refine (iCu_any _ _ _ _ Z C _ (hh.out.below hB0)).mono ?_
  rintro e w1 ⟨rfl, hb1⟩
  have hB1 : Below w.heap.size w w1 := Below.via' hB0 hb1
  have hq1 := Lib.hid (hq.out.below hb1)
  clear qa qb qc hb1 hB0
  obtain ⟨qa, qb, qc⟩ := hq1.out
  cases hg : cgB Z C
  · have hv := Lib.hid (bo_no hg)
    have hgn := Lib.hid hg
    clear hg
    go_wp2
    go_ret2
    exact retCB_no hgn.out hv.out hB1
  have hv := Lib.hid (bo_yes hg)
  have hgy := Lib.hid hg
  have hfh := Lib.hid (cg_get hg).1
  obtain ⟨f1, f2, f3⟩ := cf_get hfh.out
  have hok := Lib.hid (cs_get f1).1
  have hlen := cf_len hfh.out
  clear hg f1 f2 f3
  have hlo := hq1.out.2.2
  have hlw := hB1.size
  go_wp2
  clear qa qb qc
  go_loopw [4, 13] (fun u q wr => ∃ i : Nat, i ≤ C.length ∧ q = .int .i64 i ∧ Hid (wr.ownsRow w1.heap.size 3 1 u (bsU Z C i).length (iC (bsU Z C i))) ∧ Hid (CQ wr w.heap.size x Z.length c y C.length d) ∧ Below w.heap.size w wr ∧ w1.heap.size ≤ wr.heap.size) (fun _ q _ => C.length - (intOf q).toNat)
  case atStart => exact ⟨0, by omega, by go_num, World.ownsRow_nil _ _ _ _, hq1.out, hB1, Nat.le_refl _⟩
  case round =>
    clear hq1 hB1
    obtain ⟨i, hi, rfl, ho, hq, hB, hsz⟩ := hrel
    by_cases hlt : i < C.length
    · obtain ⟨qa, qb, qc⟩ := hq.out
      obtain ⟨bl, off, n, rfl, hbl, hCi, hc0⟩ := (hh.out.below hB).2.2.2.int hlt
      have hlt' : (i : Int) < (C.length : Int) := by omega
      have hCih := Lib.hid hCi
      have hll := bsU_len Z C i
      clear hCi
      go_wp2_with fail
      refine (parts_any _ _ Z i _ hok.out (by omega) (by omega) (hh.out.below hB).1).mono ?_
      rintro e w2 ⟨v2, T, rfl, hT, hS, hb2⟩
      obtain ⟨x2, c2, rfl, -, -⟩ := (OwR.of hS.1).form
      have hbe := Lib.hid (be_of_len hT)
      have hq2 := Lib.hid (hq.out.below hb2)
      have ho2 := Lib.hid (own_below ho.out hb2)
      have hB2 : Below w.heap.size w w2 := Below.via' hB hb2
      have hs2 : w1.heap.size ≤ w2.heap.size := Nat.le_trans hsz hb2.size
      clear hT hS qa qb qc hb2 hc0 hbl
      by_cases hz : T.length = 0
      · have hzb : ((T.length : Int) == 0) = true := by rw [beq_iff_eq]; omega
        have hb1 := Lib.hid (show beB Z i = true by rw [hbe.out, decide_eq_true hz])
        have hsn := Lib.hid (bsU_yes hb1.out hCih.out)
        replace hz := Lib.hid hz
        go_wp2_with (at_builtin; go_loud (refine wpList_append_rd _ rfl (.tmp 24) (.tmp 26) 22 rfl w1.heap.size 3 i0 (.int .i64 0) 1 8 Try.underlying22 hii hz0 hz1 hz2 rfl (by decide) _ (bsU Z C i).length (iC (bsU Z C i)) rfl (ho2.out.alloc _) _ 1 1 rfl (Nat.le_refl _) (by intro h; cases h) (iC [n]) rfl (rd_oneN _ _ _ _ (by simp)) (iC_one _) (by unfold maxLen; omega) (by omega) (by simp; omega) ?_); intro v3 w3 hown3 hgrow3 hwhere3)
        obtain ⟨hb3, hl3⟩ := append_below hB2 (fun k hk => Nat.le_trans hlw (ho2.out.lt k hk).1) hgrow3 hwhere3
        have ho3 := Lib.hid (own_snocN (M := bsU Z C (i + 1)) hown3 hsn.out rfl)
        have hq3 : Hid (CQ w3 w.heap.size (x) Z.length c (some ⟨bl, off, none⟩) C.length d) := by
          have h5 := (hq2.out.below ((Below.refl _ _).alloc (Nat.le_refl _) (.cells #[.int .i64 n] 3)))
          exact h5.grown hgrow3 (fun e => by have := (ho2.out.lt _ e.symm).1; omega)
        have hs3 : w1.heap.size ≤ w3.heap.size := by have := hgrow3.size; simp at this; omega
        clear hgrow3 hwhere3 hown3
        go_wp2
        go_roundw
        case rel => exact ⟨i + 1, by omega, by go_num, ho3, hq3, hb3, hs3⟩
        case measure => simp [intOf]; omega
      · have hzb : ((T.length : Int) == 0) = false := by rw [beq_eq_false_iff_ne]; omega
        have hb1 := Lib.hid (show beB Z i = false by rw [hbe.out, decide_eq_false hz])
        have hsn := Lib.hid (bsU_no C hb1.out)
        replace hz := Lib.hid hz
        go_wp2
        go_roundw
        case rel => exact ⟨i + 1, by omega, by go_num, by rw [hsn.out]; exact ho2, hq2, hB2, hs2⟩
        case measure => simp [intOf]; omega
    · have hij : i = C.length := by omega
      subst hij
      go_wp2
      go_ret2
      exact retCB_yes hgy.out hv.out (own_more ho.out hlw) hB

theorem beU_next {Z : List Int} {i : Int} {d : Nat} (h : (ptU Z i d).isEmpty = false) : (ptU Z i (d + 1)).isEmpty = false := by
  show (if _ then _ else _ : List (List Int)).isEmpty = false
  split
  · simp
  · exact h
theorem beU_yes {Z : List Int} {i : Int} {d : Nat} {z x : Int} (h : Z[d]? = some z) (k : (dgL Z i)[d]? = some x) (hlt : x < z) : (ptU Z i (d + 1)).isEmpty = (ptU Z i d).isEmpty := by rw [ptU_no h k (by omega)]
theorem beU_no {Z : List Int} {i : Int} {d : Nat} {z x : Int} (h : Z[d]? = some z) (k : (dgL Z i)[d]? = some x) (he : x = z) : (ptU Z i (d + 1)).isEmpty = false := by subst he; rw [ptU_yes h k]; simp
set_option maxHeartbeats 8000000 in
theorem cbBase_any (x : Option Addr) (c : Nat) (Z : List Int) (n : Nat) (w : World) (hs : csB Z = true) (hn : (n : Int) = cnC Z) (hZ : IIn w x Z) :
    Calls Try.prog 61 #[.slice x Z.length c] w (RetC (biU Z n) w) := by
  obtain ⟨i0, hii, hz0, hz1, hz2⟩ := info_parts Try.infoInt
  have hZh := Lib.hid hZ
  have hok := Lib.hid (cs_get hs).1
  have n2 := (cs_get hs).2
  have h4 := okZ_len hok.out
  have hcv := Lib.hid (show cbV Z = (n : Int) by rw [cbV_yes hs, hn])
  have hn2 : n ≤ 2000 := by omega
  clear hZ hs hn n2
  go_enter Try.func61, Try.ntmps61
  go_wp2
  go_loopw [3, 4] (fun u q wr => ∃ i : Nat, i ≤ n ∧ q = .int .i64 i ∧ Hid (wr.ownsRow w.heap.size 3 1 u (biU Z i).length (iC (biU Z i))) ∧ Below w.heap.size w wr) (fun _ q _ => n - (intOf q).toNat)
  case atStart => exact ⟨0, by omega, by go_num, World.ownsRow_nil _ _ _ _, Below.refl _ _⟩
  case round =>
    obtain ⟨i, hi, rfl, ho, hB⟩ := hrel
    have hll := biU_len Z i
    go_wp2_with fail
    refine (cbCount_any _ _ Z _ (hZh.out.below hB)).mono ?_
    rintro e w1 ⟨rfl, rfl⟩
    rw [hcv.out]
    by_cases hlt : i < n
    · have hlt' : (i : Int) < (n : Int) := by omega
      go_wp2_with fail
      refine (cbIndices_any _ _ Z i _ hok.out (by omega) (by omega) (hZh.out.below hB)).mono ?_
      rintro e w2 ⟨rfl, ho2, hb2⟩
      obtain ⟨wo, rfl⟩ : ∃ u : World, u = wr := ⟨_, rfl⟩
      have hI := Lib.hid ho2
      have hoo := Lib.hid (own_below ho.out hb2)
      have hB2 : Below w.heap.size w w2 := Below.via' hB hb2
      have hs2 := hB2.size
      clear ho2 hb2
      go_wp2
      go_loopw [5, 18] (fun b q wi => ∃ j : Nat, j ≤ Z.length ∧ q = .int .i64 j ∧ b = .bool (ptU Z i j).isEmpty ∧ w2 = wi) (fun _ q _ => Z.length - (intOf q).toNat)
      case atStart => exact ⟨0, by omega, by go_num, rfl, rfl⟩
      case round =>
        obtain ⟨j, hj, rfl, rfl, rfl⟩ := hrel
        by_cases hjl : j < Z.length
        · obtain ⟨bl, off, z, rfl, hbl, hZj, hc0⟩ := (hZh.out.below hB2).2.2.int hjl
          have hyd := dgL_at (i : Int) hZj
          obtain ⟨v, hve⟩ : ∃ v, v = (i : Int) / cnC (Z.drop (j + 1)) % (z + 1) := ⟨_, rfl⟩
          rw [← hve] at hyd
          have hfit := (dg_fit (okZ_nn hok.out) i).2 j z v hZj hyd
          obtain ⟨u, hu, k0⟩ := own_cell hI.out (j := j) (by omega)
          obtain rfl : u = .int .i64 v := iC_atI hyd hu
          have k4 := (own_lt hI.out).2
          have hjl' : (j : Int) < (Z.length : Int) := by omega
          have hZjh := Lib.hid hZj
          have hydh := Lib.hid hyd
          clear hZj hyd hve hu
          cases hb : (ptU Z i j).isEmpty
          · have hnx := Lib.hid (beU_next hb)
            replace hb := Lib.hid hb
            go_wp2
            go_roundw
            case rel => exact ⟨j + 1, by omega, by go_num, by rw [hnx.out], by first | rfl | trivial⟩
            case measure => simp [intOf]; omega
          · by_cases hlv : v < z
            · have hnx := Lib.hid ((beU_yes hZjh.out hydh.out hlv).trans hb)
              replace hb := Lib.hid hb
              go_wp2
              go_roundw
              case rel => exact ⟨j + 1, by omega, by go_num, by rw [hnx.out], by first | rfl | trivial⟩
              case measure => simp [intOf]; omega
            · have hnx := Lib.hid (beU_no hZjh.out hydh.out (show v = z by omega))
              replace hb := Lib.hid hb
              go_wp2
              go_roundw
              case rel => exact ⟨j + 1, by omega, by go_num, by rw [hnx.out], by first | rfl | trivial⟩
              case measure => simp [intOf]; omega
        · have hij : j = Z.length := by omega
          subst hij
          cases hb : (ptU Z i Z.length).isEmpty
          · have hsn := Lib.hid (biU_no (show beB Z i = false from hb))
            replace hb := Lib.hid hb
            go_wp2
            go_roundw
            case rel => exact ⟨i + 1, by omega, by go_num, by rw [hsn.out]; exact hoo, hB2⟩
            case measure => simp [intOf]; omega
          · have hsn := Lib.hid (biU_yes (show beB Z i = true from hb))
            replace hb := Lib.hid hb
            go_wp2_with (at_builtin; go_loud (refine wpList_append_rd _ rfl (.tmp 34) (.tmp 36) 22 rfl w.heap.size 3 i0 (.int .i64 0) 1 8 Try.underlying22 hii hz0 hz1 hz2 rfl (by decide) _ (biU Z i).length (iC (biU Z i)) rfl (hoo.out.alloc _) _ 1 1 rfl (Nat.le_refl _) (by intro h; cases h) (iC [(i : Int)]) rfl (rd_oneN _ _ _ _ (by simp)) (iC_one _) (by unfold maxLen; omega) (by omega) (by simp; omega) ?_); intro v3 w3 hown3 hgrow3 hwhere3)
            obtain ⟨hb3, hl3⟩ := append_below hB2 (fun k hk => (hoo.out.lt k hk).1) hgrow3 hwhere3
            have ho3 := Lib.hid (own_snocN (M := biU Z (i + 1)) hown3 hsn.out rfl)
            clear hgrow3 hwhere3 hown3
            go_wp2
            go_roundw
            case rel => exact ⟨i + 1, by omega, by go_num, ho3, hb3⟩
            case measure => simp [intOf]; omega
    · have hij : i = n := by omega
      subst hij
      go_wp2
      go_ret
      exact ⟨_, rfl, ho.out, hB⟩
theorem bs_take {Z C : List Int} {n k : Nat} {j v : Int} (h : (biU Z n)[k]? = some j) (hv : C[j.toNat]? = some v) : ((biU Z n).take (k + 1)).map (fun i => C.getD i.toNat 0) = ((biU Z n).take k).map (fun i => C.getD i.toNat 0) ++ [v] := by
  rw [take_snoc h, List.map_append]
  simp [List.getD_eq_getElem?_getD, hv]
def bvL (Z C : List Int) (k : Nat) : List Int := ((biU Z C.length).take k).map (fun i => C.getD i.toNat 0)
theorem bv_len (Z C : List Int) (k : Nat) : (bvL Z C k).length ≤ C.length := by unfold bvL; have := biU_len Z C.length; simp; omega
theorem bv_all {Z C : List Int} : bvL Z C (biU Z C.length).length = bsU Z C C.length := by unfold bvL; rw [List.take_length, bs_map]
set_option maxHeartbeats 4000000 in
theorem cbValues_any (x y : Option Addr) (c d : Nat) (Z C : List Int) (w : World) (hf : cfB Z C = true) (h : CIn w x y Z C) :
    Calls Try.prog 72 #[.agg #[.slice x Z.length c, .slice y C.length d]] w (RetC (bsU Z C C.length) w) := by
  obtain ⟨i0, hii, hz0, hz1, hz2⟩ := info_parts Try.infoInt
  have hh := Lib.hid h
  obtain ⟨f1, f2, f3⟩ := cf_get hf
  have hlen := cf_len hf
  have hs := Lib.hid f1
  have hn := Lib.hid f2
  have hq := Lib.hid (CQ.new w x Z.length c y C.length d 27)
  obtain ⟨qa, qb, qc⟩ := hq.out
  have hB0 : Below w.heap.size w (w.alloc (.cells #[.slice x Z.length c, .slice y C.length d] 27)) := (by repeat (first | exact Below.refl _ _ | assumption | refine Below.drew ?_ | refine below_drewN ?_ _ | refine Below.alloc' ?_ _ | (refine Below.setCell ?_ (by first | omega | (simp; done) | (simp; omega) | exact Below.size (by assumption) | exact Nat.le_trans (Below.size (by assumption)) (by simp)) _) | (refine Below.via' ?_ (by assumption)) | (refine Below.alloc ?_ (by first | omega | (simp; done) | (simp; omega) | exact Below.size (by assumption) | exact Nat.le_trans (Below.size (by assumption)) (by simp)) _) | (refine Below.via ?_ (by assumption) (by first | omega | (simp; done) | (simp; omega) | exact Below.size (by assumption) | exact Nat.le_trans (Below.size (by assumption)) (by simp)))))
  clear h hf f1 f2 f3
  go_enter Try.func72, Try.ntmps72
  go_wp2_with fail
  refine (cbBase_any _ _ Z C.length _ hs.out hn.out (hh.out.below hB0).1).mono ?_
  rintro e w1 ⟨v1, rfl, ho1, hb1⟩
  obtain ⟨x1, c1, rfl, -, -⟩ := (OwR.of ho1).form
  have hB1 : Below w.heap.size w w1 := Below.via' hB0 hb1
  have hq1 := Lib.hid (hq.out.below hb1)
  have hI := Lib.hid (Rd.of_own ho1)
  have hIlt := Lib.hid (fun b off (e : x1 = some ⟨b, off, none⟩) => (show b < w1.heap.size by
    subst e
    rcases ho1.2 with ⟨h1, _⟩ | ⟨g, cap, cur, hv, _, hgb, _⟩
    · cases h1
    · cases hv
      exact (Array.getElem?_eq_some_iff.1 hgb).1))
  have hll := biU_len Z C.length
  have hlw := hB1.size
  clear qa qb qc ho1 hb1 hB0
  go_wp2
  go_loopw [3, 10] (fun u q wr => ∃ k : Nat, k ≤ (biU Z C.length).length ∧ q = .int .i64 k ∧ Hid (wr.ownsRow w1.heap.size 3 1 u (bvL Z C k).length (iC (bvL Z C k))) ∧ Hid (CQ wr w.heap.size x Z.length c y C.length d) ∧ Hid (Rd wr x1 (iC (biU Z C.length))) ∧ Below w.heap.size w wr ∧ w1.heap.size ≤ wr.heap.size) (fun _ q _ => (biU Z C.length).length - (intOf q).toNat)
  case atStart => exact ⟨0, by omega, by go_num, World.ownsRow_nil _ _ _ _, hq1.out, hI.out, hB1, Nat.le_refl _⟩
  case round =>
    have hlo := hq1.out.2.2
    clear hq1 hI hB1
    obtain ⟨k, hk, rfl, ho, hq, hI, hB, hsz⟩ := hrel
    by_cases hlt : k < (biU Z C.length).length
    · obtain ⟨qa, qb, qc⟩ := hq.out
      obtain ⟨b5, o5, p, rfl, hb5, hLk, hc5⟩ := hI.out.int hlt
      obtain ⟨p1, p2⟩ := biU_mem Z (List.mem_of_getElem? hLk)
      obtain ⟨kk, rfl⟩ : ∃ kk : Nat, p = (kk : Int) := ⟨p.toNat, by omega⟩
      obtain ⟨b6, o6, m, rfl, hb6, hCk, hc6⟩ := (hh.out.below hB).2.2.2.int (i := kk) (by omega)
      have hsn := Lib.hid (show bvL Z C (k + 1) = bvL Z C k ++ [m] from bs_take hLk (by rw [Int.toNat_natCast]; exact hCk))
      have hlt' : (k : Int) < ((biU Z C.length).length : Int) := by omega
      have hbv := bv_len Z C k
      replace hLk := Lib.hid hLk
      replace hCk := Lib.hid hCk
      go_wp2_with (at_builtin; go_loud (refine wpList_append_rd _ rfl (.tmp 14) (.tmp 20) 22 rfl w1.heap.size 3 i0 (.int .i64 0) 1 8 Try.underlying22 hii hz0 hz1 hz2 rfl (by decide) _ (bvL Z C k).length (iC (bvL Z C k)) rfl (ho.out.alloc _) _ 1 1 rfl (Nat.le_refl _) (by intro h; cases h) (iC [m]) rfl (rd_oneN _ _ _ _ (by simp)) (iC_one _) (by unfold maxLen; omega) (by omega) (by simp; omega) ?_); intro v3 w3 hown3 hgrow3 hwhere3)
      obtain ⟨hb3, hl3⟩ := append_below hB (fun k hk => Nat.le_trans hlw (ho.out.lt k hk).1) hgrow3 hwhere3
      have ho3 := Lib.hid (own_snocN (M := bvL Z C (k + 1)) hown3 hsn.out rfl)
      have hq3 := Lib.hid ((hq.out.below ((Below.refl _ _).alloc (Nat.le_refl _) (.cells #[.int .i64 m] 3))).grown hgrow3 (fun e => by have := (ho.out.lt _ e.symm).1; omega))
      have hI3 := Lib.hid ((hI.out.alloc (.cells #[.int .i64 m] 3)).keep hgrow3 (fun b off e e2 => by have h7 := (ho.out.lt b e2.symm).1; have h8 := hIlt.out b off e; omega))
      have hs3 : w1.heap.size ≤ w3.heap.size := by have := hgrow3.size; simp at this; omega
      clear hgrow3 hwhere3 hown3
      go_wp2
      go_roundw
      case rel => exact ⟨k + 1, by omega, by go_num, ho3, hq3, hI3, hb3, hs3⟩
      case measure => simp [intOf]; omega
    · have hij : k = (biU Z C.length).length := by omega
      subst hij
      have hal := Lib.hid (bv_all (Z := Z) (C := C))
      have hof : Hid (wr.ownsRow w1.heap.size 3 1 u3 (bsU Z C C.length).length (iC (bsU Z C C.length))) := by
        have h5 := ho.out
        rw [hal.out] at h5
        exact h5
      go_wp2
      go_ret
      exact ⟨_, rfl, own_more hof.out hlw, hB⟩
set_option maxHeartbeats 4000000 in
theorem sBO_any (x y : Option Addr) (c d : Nat) (Z C : List Int) (w : World) (h : CIn w x y Z C) :
    Calls Try.prog 28 #[.agg #[.slice x Z.length c, .slice y C.length d]] w (RetCB (boL Z C) (cgB Z C) w) := by
  have hh := Lib.hid h
  have hq := Lib.hid (CQ.new w x Z.length c y C.length d 27)
  obtain ⟨qa, qb, qc⟩ := hq.out
  have hB0 : Below w.heap.size w (w.alloc (.cells #[.slice x Z.length c, .slice y C.length d] 27)) := (by repeat (first | exact Below.refl _ _ | assumption | refine Below.drew ?_ | refine below_drewN ?_ _ | refine Below.alloc' ?_ _ | (refine Below.setCell ?_ (by first | omega | (simp; done) | (simp; omega) | exact Below.size (by assumption) | exact Nat.le_trans (Below.size (by assumption)) (by simp)) _) | (refine Below.via' ?_ (by assumption)) | (refine Below.alloc ?_ (by first | omega | (simp; done) | (simp; omega) | exact Below.size (by assumption) | exact Nat.le_trans (Below.size (by assumption)) (by simp)) _) | (refine Below.via ?_ (by assumption) (by first | omega | (simp; done) | (simp; omega) | exact Below.size (by assumption) | exact Nat.le_trans (Below.size (by assumption)) (by simp)))))
  clear h
  go_enter Try.func28, Try.ntmps28
  go_wp2_with fail
  refine (cbGood_any _ _ _ _ Z C _ (hh.out.below hB0)).mono ?_
  rintro e w1 ⟨rfl, hb1⟩
  have hB1 : Below w.heap.size w w1 := Below.via' hB0 hb1
  have hq1 := Lib.hid (hq.out.below hb1)
  clear qa qb qc hb1 hB0
  obtain ⟨qa, qb, qc⟩ := hq1.out
  cases hg : cgB Z C
  · have hv := Lib.hid (bo_no hg)
    have hgn := Lib.hid hg
    clear hg
    go_wp2
    go_ret2
    exact retCB_no hgn.out hv.out hB1
  have hv := Lib.hid (bo_yes hg)
  have hgy := Lib.hid hg
  have hfh := Lib.hid (cg_get hg).1
  have hlw := hB1.size
  clear hg
  go_wp2_with fail
  refine (cbValues_any _ _ _ _ Z C _ hfh.out (hh.out.below hB1)).mono ?_
  rintro e w2 ⟨v2, rfl, ho2, hb2⟩
  have ho2h := Lib.hid ho2
  clear ho2
  go_wp2
  go_ret2
  exact retCB_yes hgy.out hv.out (own_more ho2h.out hlw) (Below.via' hB1 hb2)
end Go.Proofs.Ytnmpigedhpdenaa
