/-
  Texts of data: the program's walk.
-/
import Derived.Test.YtelnbjhnjcbjoaaDoorDtx
import Derived.Test.YtelnbjhnjcbjoaaDoorBld
import Derived.Test.YtelnbjhnjcbjoaaDoorTextB
import Derived.Deep.RegionLaw
namespace Go.Proofs.YtelnbjhnjcbjoaaDoor
open Go.RowKit
set_option maxRecDepth 100000

theorem itoaZ (n : Int) (w : World) (h0 : 0 ≤ n) (h1 : n ≤ 1000000) (hP : PowTab w) :
    Calls Tryd.prog 27 #[.int .i64 n] w fun e w' => e = .returned (.string (numZ n)) ∧ Below w.heap.size w w' := by
  have h := itoa_any n w (by omega) (by omega) hP
  rw [numI_pos h0] at h
  exact h
/-- What the builder holds. -/
def bC (s : ByteArray) : List Value := Lib.byteCells s.data.toList
theorem bC_len (s : ByteArray) : (bC s).length = s.size := by unfold bC; rw [Lib.byteCells_length]; exact ba_list s
theorem bC_app (s t : ByteArray) : bC s ++ Lib.strCells t = bC (s ++ t) := by
  unfold bC
  rw [Lib.strCells_eq, ← Lib.byteCells_append]
  simp
theorem bC_nil : bC ⟨#[]⟩ = [] := rfl
/-- A text that is written behind a text. -/
theorem wstr_any (B b : Nat) (s t : ByteArray) (w : World) (h : IsBd B b (bC s) w) (hl : s.size ≤ 100000) (hl2 : t.size ≤ 100000) (hBw : B ≤ w.heap.size) :
    Calls Tryd.prog 26 #[.pointer (some ⟨b, 0, none⟩), .string t] w fun e w' => (∃ k, e = .returned (.tuple #[.int .i64 k, .nilIface])) ∧ IsBd B b (bC (s ++ t)) w' ∧ Below B w w' ∧ Kept b w w' := by
  have hm := writeString_any B b (bC s) t w h (by rw [bC_len]; omega) hBw
  rw [bC_app] at hm
  exact hm.mono fun e w' ⟨h1, h2⟩ => ⟨⟨_, h1⟩, h2⟩
theorem bstr_any (B b : Nat) (s : ByteArray) (w : World) (h : IsBd B b (bC s) w) (hBw : B ≤ w.heap.size) :
    Calls Tryd.prog 28 #[.pointer (some ⟨b, 0, none⟩)] w fun e w' => e = .returned (.string s) ∧ Below B w w' := by
  have hm := Tryd.Builder_String_any B b s.data.toList w h hBw
  exact hm

set_option maxHeartbeats 8000000 in
theorem dataText_any (x y : Option Addr) (c1 c : Nat) (S : List (ByteArray × Int)) (Q : List PR) (w : World) (hI : SIn w x c1 S) (hQ : DIn w y Q) (hs : schB S = true) (hd : dokB S (pM Q) = true) (hP : PowTab w) :
    Calls Tryd.prog 10 #[.slice x S.length c1, .slice y Q.length c] w fun e w' => e = .returned (.tuple #[.string (dtT (pM Q)), .bool true]) ∧ Below w.heap.size w w' := by
  have hm := hI.1
  have hh := Lib.hid hI
  have hQl := hQ.1
  have hQh := Lib.hid hQ
  have hsh := Lib.hid hs
  have hdh := Lib.hid hd
  have hPh := Lib.hid hP
  have k32 : (⟨#[32]⟩ : ByteArray).size = 1 := rfl
  have k10 : (⟨#[10]⟩ : ByteArray).size = 1 := rfl
  clear hI hQ hP
  go_enter Tryd.func10, Tryd.ntmps10
  go_wp2_with fail
  refine (isSch_x _ _ _ _ (hh.out.below (by exact (by repeat (first | exact Below.refl _ _ | assumption | refine Below.drew ?_ | refine below_drewN ?_ _ | refine Below.alloc' ?_ _ | (refine Below.setCell ?_ (by first | omega | (simp; done) | (simp; omega) | exact Below.size (by assumption) | exact Nat.le_trans (Below.size (by assumption)) (by simp)) _) | (refine Below.via' ?_ (by assumption)) | (refine Below.alloc ?_ (by first | omega | (simp; done) | (simp; omega) | exact Below.size (by assumption) | exact Nat.le_trans (Below.size (by assumption)) (by simp)) _) | (refine Below.via ?_ (by assumption) (by first | omega | (simp; done) | (simp; omega) | exact Below.size (by assumption) | exact Nat.le_trans (Below.size (by assumption)) (by simp)))))))).mono ?_
  rintro e w1 ⟨rfl, hb1⟩
  rw [hs]
  go_wp2_with fail
  refine (areDataFor_any _ _ _ _ S Q _ hs hm (hh.out.rd.below (by exact (by repeat (first | exact Below.refl _ _ | assumption | refine Below.drew ?_ | refine below_drewN ?_ _ | refine Below.alloc' ?_ _ | (refine Below.setCell ?_ (by first | omega | (simp; done) | (simp; omega) | exact Below.size (by assumption) | exact Nat.le_trans (Below.size (by assumption)) (by simp)) _) | (refine Below.via' ?_ (by assumption)) | (refine Below.alloc ?_ (by first | omega | (simp; done) | (simp; omega) | exact Below.size (by assumption) | exact Nat.le_trans (Below.size (by assumption)) (by simp)) _) | (refine Below.via ?_ (by assumption) (by first | omega | (simp; done) | (simp; omega) | exact Below.size (by assumption) | exact Nat.le_trans (Below.size (by assumption)) (by simp))))))) (hQh.out.below (by exact (by repeat (first | exact Below.refl _ _ | assumption | refine Below.drew ?_ | refine below_drewN ?_ _ | refine Below.alloc' ?_ _ | (refine Below.setCell ?_ (by first | omega | (simp; done) | (simp; omega) | exact Below.size (by assumption) | exact Nat.le_trans (Below.size (by assumption)) (by simp)) _) | (refine Below.via' ?_ (by assumption)) | (refine Below.alloc ?_ (by first | omega | (simp; done) | (simp; omega) | exact Below.size (by assumption) | exact Nat.le_trans (Below.size (by assumption)) (by simp)) _) | (refine Below.via ?_ (by assumption) (by first | omega | (simp; done) | (simp; omega) | exact Below.size (by assumption) | exact Nat.le_trans (Below.size (by assumption)) (by simp)))))))).mono ?_
  rintro e w2 ⟨rfl, hb2⟩
  rw [hd]
  have B2 := Lib.hid (show Below w.heap.size w w2 from (by repeat (first | exact Below.refl _ _ | assumption | refine Below.drew ?_ | refine below_drewN ?_ _ | refine Below.alloc' ?_ _ | (refine Below.setCell ?_ (by first | omega | (simp; done) | (simp; omega) | exact Below.size (by assumption) | exact Nat.le_trans (Below.size (by assumption)) (by simp)) _) | (refine Below.via' ?_ (by assumption)) | (refine Below.alloc ?_ (by first | omega | (simp; done) | (simp; omega) | exact Below.size (by assumption) | exact Nat.le_trans (Below.size (by assumption)) (by simp)) _) | (refine Below.via ?_ (by assumption) (by first | omega | (simp; done) | (simp; omega) | exact Below.size (by assumption) | exact Nat.le_trans (Below.size (by assumption)) (by simp))))))
  have Q2 := Lib.hid (hQh.out.below B2.out)
  have P2 := Lib.hid (hPh.out.below B2.out)
  have hN := Lib.hid (isBd_new w2 w2.heap.size (Nat.le_refl _))
  clear hs hd hb1 hb2 hh hQh hPh
  go_wp2
  go_loopw [22] (fun q wr => ∃ i : Nat, i ≤ Q.length ∧ q = .int .i64 i ∧ IsBd w2.heap.size w2.heap.size (bC (dtT ((pM Q).take i))) wr ∧ Below w2.heap.size w2 wr) (fun q _ => Q.length - (intOf q).toNat)
  case atStart => exact ⟨0, by omega, by go_num, hN.out, (by repeat (first | exact Below.refl _ _ | assumption | refine Below.drew ?_ | refine below_drewN ?_ _ | refine Below.alloc' ?_ _ | (refine Below.setCell ?_ (by first | omega | (simp; done) | (simp; omega) | exact Below.size (by assumption) | exact Nat.le_trans (Below.size (by assumption)) (by simp)) _) | (refine Below.via' ?_ (by assumption)) | (refine Below.alloc ?_ (by first | omega | (simp; done) | (simp; omega) | exact Below.size (by assumption) | exact Nat.le_trans (Below.size (by assumption)) (by simp)) _) | (refine Below.via ?_ (by assumption) (by first | omega | (simp; done) | (simp; omega) | exact Below.size (by assumption) | exact Nat.le_trans (Below.size (by assumption)) (by simp)))))⟩
  case round =>
    clear hN
    obtain ⟨i, hi, rfl, hbd, hb⟩ := hrel
    have hbd := Lib.hid hbd
    have hzw := hb.size
    by_cases hlt : i < Q.length
    · obtain ⟨bl, off, q, rfl, hbl, hQi, hc0, hc1, hc2⟩ := (Q2.out.2.2.below hb).rec hlt
      have hqi := Lib.hid ((Q2.out.2.1 q (List.mem_of_getElem? hQi)).2.2)
      have hm := pM_at hQi
      have hrk := dokB_mem hdh.out (List.mem_of_getElem? hm)
      obtain ⟨r1, r2, r3, r4⟩ := rok_all hsh.out hrk
      obtain ⟨z1, z2, z3⟩ := rh_size r1 r2
      have hds := dt_size hsh.out hdh.out i
      have hdp := Lib.hid (fun k => dp_size hsh.out hdh.out hrk i k)
      have r1' : 0 ≤ q.a ∧ q.a ≤ 29 := r1
      have r2' : 0 ≤ q.h ∧ q.h ≤ 999 := r2
      have r3' : q.L.length ≤ 6 := r3
      have r4' := Lib.hid (show ∀ v ∈ q.L, 0 ≤ v ∧ v ≤ 7 from r4)
      have z2' : (numZ q.a).size ≤ 2 := z2
      have z3' : (numZ q.h).size ≤ 3 := z3
      have hO : (dtT ((pM Q).take i)).size ≤ 560 := by unfold dtT; rw [ba_size]; exact hds
      have hst : Hid (dtT ((pM Q).take i) ++ (numZ q.a ++ ⟨#[32]⟩ ++ numZ q.h ++ ⟨#[32]⟩) = dpT ((pM Q).take i) q.m 0) := dp_start ((pM Q).take i) q.m
      have hen : Hid (dpT ((pM Q).take i) q.m q.L.length ++ ⟨#[10]⟩ = dtT ((pM Q).take (i + 1))) := dp_end hm
      have hlt' : (i : Int) < (Q.length : Int) := by omega
      have hi0 : (0 : Int) ≤ (i : Int) := by omega
      replace hQi := Lib.hid hQi
      replace hm := Lib.hid hm
      have hs1 : ¬ 9223372036854775807 < (numZ q.a).size + (⟨#[32]⟩ : ByteArray).size := by rw [k32]; omega
      have hs2 : ¬ 9223372036854775807 < (numZ q.a ++ ⟨#[32]⟩).size + (numZ q.h).size := by rw [ByteArray.size_append, k32]; omega
      have hs3 : ¬ 9223372036854775807 < (numZ q.a ++ ⟨#[32]⟩ ++ numZ q.h).size + (⟨#[32]⟩ : ByteArray).size := by rw [ByteArray.size_append, ByteArray.size_append, k32]; omega
      have hs5 : ¬ 9223372036854775807 < (numZ q.a).size + 1 := by omega
      have hs6 : ¬ 9223372036854775807 < (numZ q.a).size + 1 + (numZ q.h).size := by omega
      have hs7 : ¬ 9223372036854775807 < (numZ q.a).size + 1 + (numZ q.h).size + 1 := by omega
      have hl7 : (numZ q.a ++ ⟨#[32]⟩ ++ numZ q.h ++ ⟨#[32]⟩).size ≤ 100000 := by rw [ByteArray.size_append, ByteArray.size_append, ByteArray.size_append, k32]; omega
      clear r1 r2 r3 r4 z1 z2 z3 hds hrk
      have hW0 := Lib.hid (Wb.new wr 51 #[.int .i64 q.a, .int .i64 q.h, .slice q.x q.L.length q.c])
      have hwne : wr.heap.size ≠ w2.heap.size := by
        intro e
        rcases hbd.out with ⟨h1, v, h2, _⟩ | ⟨h1, v, h2, _⟩
        · have := (Array.getElem?_eq_some_iff.1 h2).1; omega
        · have := (Array.getElem?_eq_some_iff.1 h2).1; omega
      go_wp2_with fail
      go_region_law (first
        | (go_simp; go_at_call 27; (with_reducible show Calls _ _ #[.int .i64 q.a] _ _); refine (itoaZ q.a _ (by omega) (by omega) (P2.out.below (show Below w2.heap.size w2 _ from (by repeat (first | exact Below.refl _ _ | assumption | refine Below.drew ?_ | refine below_drewN ?_ _ | refine Below.alloc' ?_ _ | (refine Below.setCell ?_ (by first | omega | (simp; done) | (simp; omega) | exact Below.size (by assumption) | exact Nat.le_trans (Below.size (by assumption)) (by simp)) _) | (refine Below.via' ?_ (by assumption)) | (refine Below.alloc ?_ (by first | omega | (simp; done) | (simp; omega) | exact Below.size (by assumption) | exact Nat.le_trans (Below.size (by assumption)) (by simp)) _) | (refine Below.via ?_ (by assumption) (by first | omega | (simp; done) | (simp; omega) | exact Below.size (by assumption) | exact Nat.le_trans (Below.size (by assumption)) (by simp)))))))).mono ?_; rintro e w5 ⟨rfl, hb5⟩; (have hW5 := hW0.out.kept (show Below (wr.alloc _).heap.size (wr.alloc _) w5 from (by repeat (first | exact Below.refl _ _ | assumption | refine Below.drew ?_ | refine below_drewN ?_ _ | refine Below.alloc' ?_ _ | (refine Below.setCell ?_ (by first | omega | (simp; done) | (simp; omega) | exact Below.size (by assumption) | exact Nat.le_trans (Below.size (by assumption)) (by simp)) _) | (refine Below.via' ?_ (by assumption)) | (refine Below.alloc ?_ (by first | omega | (simp; done) | (simp; omega) | exact Below.size (by assumption) | exact Nat.le_trans (Below.size (by assumption)) (by simp)) _) | (refine Below.via ?_ (by assumption) (by first | omega | (simp; done) | (simp; omega) | exact Below.size (by assumption) | exact Nat.le_trans (Below.size (by assumption)) (by simp))))))); (have ra5 := hW5.read 0); (have rb5 := hW5.read 1); (have rc5 := hW5.read 2); (have hW5 := Lib.hid hW5))
        | (go_simp; go_at_call 27; (with_reducible show Calls _ _ #[.int .i64 q.h] _ _); refine (itoaZ q.h _ (by omega) (by omega) (P2.out.below (show Below w2.heap.size w2 _ from (by repeat (first | exact Below.refl _ _ | assumption | refine Below.drew ?_ | refine below_drewN ?_ _ | refine Below.alloc' ?_ _ | (refine Below.setCell ?_ (by first | omega | (simp; done) | (simp; omega) | exact Below.size (by assumption) | exact Nat.le_trans (Below.size (by assumption)) (by simp)) _) | (refine Below.via' ?_ (by assumption)) | (refine Below.alloc ?_ (by first | omega | (simp; done) | (simp; omega) | exact Below.size (by assumption) | exact Nat.le_trans (Below.size (by assumption)) (by simp)) _) | (refine Below.via ?_ (by assumption) (by first | omega | (simp; done) | (simp; omega) | exact Below.size (by assumption) | exact Nat.le_trans (Below.size (by assumption)) (by simp)))))))).mono ?_; rintro e w6 ⟨rfl, hb6⟩; (have hW6 := hW0.out.kept (show Below (wr.alloc _).heap.size (wr.alloc _) w6 from (by repeat (first | exact Below.refl _ _ | assumption | refine Below.drew ?_ | refine below_drewN ?_ _ | refine Below.alloc' ?_ _ | (refine Below.setCell ?_ (by first | omega | (simp; done) | (simp; omega) | exact Below.size (by assumption) | exact Nat.le_trans (Below.size (by assumption)) (by simp)) _) | (refine Below.via' ?_ (by assumption)) | (refine Below.alloc ?_ (by first | omega | (simp; done) | (simp; omega) | exact Below.size (by assumption) | exact Nat.le_trans (Below.size (by assumption)) (by simp)) _) | (refine Below.via ?_ (by assumption) (by first | omega | (simp; done) | (simp; omega) | exact Below.size (by assumption) | exact Nat.le_trans (Below.size (by assumption)) (by simp))))))); (have ra6 := hW6.read 0); (have rb6 := hW6.read 1); (have rc6 := hW6.read 2); (have hW6 := Lib.hid hW6); (have hbd6 := Lib.hid (hbd.out.below (show Below wr.heap.size wr w6 from (by repeat (first | exact Below.refl _ _ | assumption | refine Below.drew ?_ | refine below_drewN ?_ _ | refine Below.alloc' ?_ _ | (refine Below.setCell ?_ (by first | omega | (simp; done) | (simp; omega) | exact Below.size (by assumption) | exact Nat.le_trans (Below.size (by assumption)) (by simp)) _) | (refine Below.via' ?_ (by assumption)) | (refine Below.alloc ?_ (by first | omega | (simp; done) | (simp; omega) | exact Below.size (by assumption) | exact Nat.le_trans (Below.size (by assumption)) (by simp)) _) | (refine Below.via ?_ (by assumption) (by first | omega | (simp; done) | (simp; omega) | exact Below.size (by assumption) | exact Nat.le_trans (Below.size (by assumption)) (by simp)))))))); (have hz6 := (show Below w2.heap.size w2 w6 from (by repeat (first | exact Below.refl _ _ | assumption | refine Below.drew ?_ | refine below_drewN ?_ _ | refine Below.alloc' ?_ _ | (refine Below.setCell ?_ (by first | omega | (simp; done) | (simp; omega) | exact Below.size (by assumption) | exact Nat.le_trans (Below.size (by assumption)) (by simp)) _) | (refine Below.via' ?_ (by assumption)) | (refine Below.alloc ?_ (by first | omega | (simp; done) | (simp; omega) | exact Below.size (by assumption) | exact Nat.le_trans (Below.size (by assumption)) (by simp)) _) | (refine Below.via ?_ (by assumption) (by first | omega | (simp; done) | (simp; omega) | exact Below.size (by assumption) | exact Nat.le_trans (Below.size (by assumption)) (by simp)))))).size))
        | (go_simp; go_at_call 26; refine (wstr_any w2.heap.size w2.heap.size _ _ _ hbd6.out (by omega) hl7 (by omega)).mono ?_; rintro e w7 ⟨⟨k7, rfl⟩, hbd7, hb7, hkp7⟩))
      all_goals
        have hC7 := Lib.hid ((show Below w2.heap.size w2 w6 from (by repeat (first | exact Below.refl _ _ | assumption | refine Below.drew ?_ | refine below_drewN ?_ _ | refine Below.alloc' ?_ _ | (refine Below.setCell ?_ (by first | omega | (simp; done) | (simp; omega) | exact Below.size (by assumption) | exact Nat.le_trans (Below.size (by assumption)) (by simp)) _) | (refine Below.via' ?_ (by assumption)) | (refine Below.alloc ?_ (by first | omega | (simp; done) | (simp; omega) | exact Below.size (by assumption) | exact Nat.le_trans (Below.size (by assumption)) (by simp)) _) | (refine Below.via ?_ (by assumption) (by first | omega | (simp; done) | (simp; omega) | exact Below.size (by assumption) | exact Nat.le_trans (Below.size (by assumption)) (by simp)))))).trans hb7)
        have hW7 := hkp7 _ _ _ hW6.out (by decide) hwne
        have rc7 := hW7.read 2
        have hbd7 := Lib.hid hbd7
        rw [hst.out] at hbd7
        have hq7 := Lib.hid (hqi.out.below hC7.out)
        clear hc0 hc1 hc2 hs1 hs2 hs3 hs5 hs6 hs7 hb5 hb6 hb7 hkp7 ra5 rb5 rc5 ra6 rb6 rc6 hW0 hW5 hW6 hbd6 hz6 hbd hW7
        go_wp2
        clear rc7
        go_loopw [39] (fun k wx => ∃ m : Nat, m ≤ q.L.length ∧ k = .int .i64 m ∧ IsBd w2.heap.size w2.heap.size (bC (dpT ((pM Q).take i) q.m m)) wx ∧ Below w2.heap.size w2 wx) (fun k _ => q.L.length - (intOf k).toNat)
        case atStart => exact ⟨0, by omega, by go_num, hbd7.out, hC7.out⟩
        case round =>
          clear hbd7
          obtain ⟨m, hml, rfl, hbx, hcx⟩ := hrel
          have hbx := Lib.hid hbx
          have hzx := hcx.size
          have z0 := hdp.out m
          by_cases hlm : m < q.L.length
          · obtain ⟨b2, o2, v, hx2, hbl2, hLm, hc0⟩ := (hqi.out.2.2.below hcx).int hlm
            obtain ⟨v0, v1⟩ := r4'.out v (List.mem_of_getElem? hLm)
            have hnx : Hid (dpT ((pM Q).take i) q.m m ++ numZ v = dpT ((pM Q).take i) q.m (m + 1)) := dp_next (show q.m.2.2[m]? = some v from hLm)
            have hv1 := numZ_one (i := v.toNat) (by omega)
            rw [show ((v.toNat : Nat) : Int) = v by omega] at hv1
            have hv2 : (numZ v).size ≤ 100000 := by omega
            have hlm' : (m : Int) < (q.L.length : Int) := by omega
            have hm0 : (0 : Int) ≤ (m : Int) := by omega
            replace hLm := Lib.hid hLm
            replace hx2 := Lib.hid hx2
            have hxx := hx2.out
            replace hv1 := Lib.hid hv1
            rw [hxx]
            go_wp2_with fail
            refine (itoaZ v _ (by omega) (by omega) (P2.out.below hcx)).mono ?_
            rintro e w8 ⟨rfl, hb8⟩
            go_wp2_with fail
            refine (wstr_any w2.heap.size w2.heap.size _ _ _ (hbx.out.below hb8) (by omega) hv2 (Nat.le_trans hzx hb8.size)).mono ?_
            rintro e w9 ⟨⟨k9, rfl⟩, hbd9, hb9, -⟩
            rw [hnx.out] at hbd9
            have hbd9 := Lib.hid hbd9
            have hC9 := Lib.hid ((Below.via' hcx hb8).trans hb9)
            clear hb8 hb9
            go_wp2
            go_roundw
            case rel => exact ⟨m + 1, by omega, by go_num, hbd9.out, hC9.out⟩
            case measure => simp [intOf]; omega
          · have hmm : m = q.L.length := by omega
            have hlm' : ¬ (m : Int) < (q.L.length : Int) := by omega
            have hen2 : Hid (dpT ((pM Q).take i) q.m m ++ ⟨#[10]⟩ = dtT ((pM Q).take (i + 1))) := by unfold Hid; rw [hmm]; exact hen.out
            replace hmm := Lib.hid hmm
            go_wp2_with fail
            refine (wstr_any w2.heap.size w2.heap.size _ _ _ hbx.out (by omega) (by rw [k10]; omega) hzx).mono ?_
            rintro e w9 ⟨⟨k9, rfl⟩, hbd9, hb9, -⟩
            rw [hen2.out] at hbd9
            have hbd9 := Lib.hid hbd9
            have hC9 := Lib.hid (hcx.trans hb9)
            clear hb9
            go_wp2
            go_roundw
            case rel => exact ⟨i + 1, by omega, by go_num, hbd9.out, hC9.out⟩
            case measure => simp [intOf]; omega
    · have hij : i = Q.length := by omega
      have hv : Hid (dtT ((pM Q).take i) = dtT (pM Q)) := by unfold Hid; rw [hij, ← pM_len, List.take_length]
      replace hij := Lib.hid hij
      go_wp2_with fail
      refine (bstr_any w2.heap.size w2.heap.size _ _ hbd.out hzw).mono ?_
      rintro e w8 ⟨rfl, hb8⟩
      rw [hv.out]
      have hB8 := Lib.hid (B2.out.trans ((hb.trans hb8).mono B2.out.size))
      go_wp2
      go_ret2
      exact ⟨rfl, hB8.out⟩

/-- What DataText gives. -/
def dtR (S : List (ByteArray × Int)) (R : List RV) : ByteArray := if idB S R then dtT R else ⟨#[]⟩
theorem ret_sbD {a b : ByteArray} {p q : Bool} (h : a = b) (k : p = q) : Ending.returned (.tuple #[.string a, .bool p]) = .returned (.tuple #[.string b, .bool q]) := by rw [h, k]
theorem idB_f1 {S : List (ByteArray × Int)} {R : List RV} (h : schB S = false) : idB S R = false := by unfold idB; rw [h]; rfl
theorem idB_f2 {S : List (ByteArray × Int)} {R : List RV} (h : dokB S R = false) : idB S R = false := by unfold idB; rw [h, Bool.and_false]
theorem idB_t {S : List (ByteArray × Int)} {R : List RV} (h : schB S = true) (k : dokB S R = true) : idB S R = true := by unfold idB; rw [h, k]; rfl
set_option maxHeartbeats 2000000 in
theorem iDT_x (x y : Option Addr) (c1 c : Nat) (S : List (ByteArray × Int)) (Q : List PR) (w : World) (hI : SIn w x c1 S) (hQ : DIn w y Q) (hP : PowTab w) :
    Calls Tryd.prog 10 #[.slice x S.length c1, .slice y Q.length c] w fun e w' => e = .returned (.tuple #[.string (dtR S (pM Q)), .bool (idB S (pM Q))]) ∧ Below w.heap.size w w' := by
  have hm := hI.1
  cases hs : schB S
  · have hv := Lib.hid (idB_f1 (R := pM Q) hs)
    have hz : Hid (dtR S (pM Q) = ⟨#[]⟩) := by unfold Hid dtR; rw [hv.out]; rfl
    have hh := Lib.hid hI
    clear hI hQ hP
    go_enter Tryd.func10, Tryd.ntmps10
    go_wp2_with fail
    refine (isSch_x _ _ _ _ (hh.out.below (by exact (by repeat (first | exact Below.refl _ _ | assumption | refine Below.drew ?_ | refine below_drewN ?_ _ | refine Below.alloc' ?_ _ | (refine Below.setCell ?_ (by first | omega | (simp; done) | (simp; omega) | exact Below.size (by assumption) | exact Nat.le_trans (Below.size (by assumption)) (by simp)) _) | (refine Below.via' ?_ (by assumption)) | (refine Below.alloc ?_ (by first | omega | (simp; done) | (simp; omega) | exact Below.size (by assumption) | exact Nat.le_trans (Below.size (by assumption)) (by simp)) _) | (refine Below.via ?_ (by assumption) (by first | omega | (simp; done) | (simp; omega) | exact Below.size (by assumption) | exact Nat.le_trans (Below.size (by assumption)) (by simp)))))))).mono ?_
    rintro e w1 ⟨rfl, hb1⟩
    rw [hs]
    go_wp2
    go_ret2
    exact ⟨ret_sbD hz.out.symm hv.out.symm, (by repeat (first | exact Below.refl _ _ | assumption | refine Below.drew ?_ | refine below_drewN ?_ _ | refine Below.alloc' ?_ _ | (refine Below.setCell ?_ (by first | omega | (simp; done) | (simp; omega) | exact Below.size (by assumption) | exact Nat.le_trans (Below.size (by assumption)) (by simp)) _) | (refine Below.via' ?_ (by assumption)) | (refine Below.alloc ?_ (by first | omega | (simp; done) | (simp; omega) | exact Below.size (by assumption) | exact Nat.le_trans (Below.size (by assumption)) (by simp)) _) | (refine Below.via ?_ (by assumption) (by first | omega | (simp; done) | (simp; omega) | exact Below.size (by assumption) | exact Nat.le_trans (Below.size (by assumption)) (by simp)))))⟩
  cases hd : dokB S (pM Q)
  · have hv := Lib.hid (idB_f2 hd)
    have hz : Hid (dtR S (pM Q) = ⟨#[]⟩) := by unfold Hid dtR; rw [hv.out]; rfl
    have hh := Lib.hid hI
    have hQh := Lib.hid hQ
    clear hI hQ hP
    go_enter Tryd.func10, Tryd.ntmps10
    go_wp2_with fail
    refine (isSch_x _ _ _ _ (hh.out.below (by exact (by repeat (first | exact Below.refl _ _ | assumption | refine Below.drew ?_ | refine below_drewN ?_ _ | refine Below.alloc' ?_ _ | (refine Below.setCell ?_ (by first | omega | (simp; done) | (simp; omega) | exact Below.size (by assumption) | exact Nat.le_trans (Below.size (by assumption)) (by simp)) _) | (refine Below.via' ?_ (by assumption)) | (refine Below.alloc ?_ (by first | omega | (simp; done) | (simp; omega) | exact Below.size (by assumption) | exact Nat.le_trans (Below.size (by assumption)) (by simp)) _) | (refine Below.via ?_ (by assumption) (by first | omega | (simp; done) | (simp; omega) | exact Below.size (by assumption) | exact Nat.le_trans (Below.size (by assumption)) (by simp)))))))).mono ?_
    rintro e w1 ⟨rfl, hb1⟩
    rw [hs]
    go_wp2_with fail
    refine (areDataFor_any _ _ _ _ S Q _ hs hm (hh.out.rd.below (by exact (by repeat (first | exact Below.refl _ _ | assumption | refine Below.drew ?_ | refine below_drewN ?_ _ | refine Below.alloc' ?_ _ | (refine Below.setCell ?_ (by first | omega | (simp; done) | (simp; omega) | exact Below.size (by assumption) | exact Nat.le_trans (Below.size (by assumption)) (by simp)) _) | (refine Below.via' ?_ (by assumption)) | (refine Below.alloc ?_ (by first | omega | (simp; done) | (simp; omega) | exact Below.size (by assumption) | exact Nat.le_trans (Below.size (by assumption)) (by simp)) _) | (refine Below.via ?_ (by assumption) (by first | omega | (simp; done) | (simp; omega) | exact Below.size (by assumption) | exact Nat.le_trans (Below.size (by assumption)) (by simp))))))) (hQh.out.below (by exact (by repeat (first | exact Below.refl _ _ | assumption | refine Below.drew ?_ | refine below_drewN ?_ _ | refine Below.alloc' ?_ _ | (refine Below.setCell ?_ (by first | omega | (simp; done) | (simp; omega) | exact Below.size (by assumption) | exact Nat.le_trans (Below.size (by assumption)) (by simp)) _) | (refine Below.via' ?_ (by assumption)) | (refine Below.alloc ?_ (by first | omega | (simp; done) | (simp; omega) | exact Below.size (by assumption) | exact Nat.le_trans (Below.size (by assumption)) (by simp)) _) | (refine Below.via ?_ (by assumption) (by first | omega | (simp; done) | (simp; omega) | exact Below.size (by assumption) | exact Nat.le_trans (Below.size (by assumption)) (by simp)))))))).mono ?_
    rintro e w2 ⟨rfl, hb2⟩
    rw [hd]
    go_wp2
    go_ret2
    exact ⟨ret_sbD hz.out.symm hv.out.symm, (by repeat (first | exact Below.refl _ _ | assumption | refine Below.drew ?_ | refine below_drewN ?_ _ | refine Below.alloc' ?_ _ | (refine Below.setCell ?_ (by first | omega | (simp; done) | (simp; omega) | exact Below.size (by assumption) | exact Nat.le_trans (Below.size (by assumption)) (by simp)) _) | (refine Below.via' ?_ (by assumption)) | (refine Below.alloc ?_ (by first | omega | (simp; done) | (simp; omega) | exact Below.size (by assumption) | exact Nat.le_trans (Below.size (by assumption)) (by simp)) _) | (refine Below.via ?_ (by assumption) (by first | omega | (simp; done) | (simp; omega) | exact Below.size (by assumption) | exact Nat.le_trans (Below.size (by assumption)) (by simp)))))⟩
  · have hv := idB_t hs hd
    have hz : dtR S (pM Q) = dtT (pM Q) := by unfold dtR; rw [hv]; rfl
    rw [hz, hv]
    exact dataText_any x y c1 c S Q w hI hQ hs hd hP
set_option maxHeartbeats 2000000 in
theorem sDT_x (x y : Option Addr) (c1 c : Nat) (S : List (ByteArray × Int)) (Q : List PR) (w : World) (hI : SIn w x c1 S) (hQ : DIn w y Q) :
    Calls Tryd.prog 7 #[.slice x S.length c1, .slice y Q.length c] w fun e w' => e = .returned (.tuple #[.string (dtR S (pM Q)), .bool (idB S (pM Q))]) ∧ Below w.heap.size w w' := by
  have hh := Lib.hid hI
  have hQh := Lib.hid hQ
  clear hI hQ
  cases hi : idB S (pM Q)
  · have hz : Hid (dtR S (pM Q) = ⟨#[]⟩) := by unfold Hid dtR; rw [hi]; rfl
    go_enter Tryd.func7, Tryd.ntmps7
    go_wp2_with fail
    refine (dInput_any _ _ _ _ S Q _ (hh.out.below (by exact (by repeat (first | exact Below.refl _ _ | assumption | refine Below.drew ?_ | refine below_drewN ?_ _ | refine Below.alloc' ?_ _ | (refine Below.setCell ?_ (by first | omega | (simp; done) | (simp; omega) | exact Below.size (by assumption) | exact Nat.le_trans (Below.size (by assumption)) (by simp)) _) | (refine Below.via' ?_ (by assumption)) | (refine Below.alloc ?_ (by first | omega | (simp; done) | (simp; omega) | exact Below.size (by assumption) | exact Nat.le_trans (Below.size (by assumption)) (by simp)) _) | (refine Below.via ?_ (by assumption) (by first | omega | (simp; done) | (simp; omega) | exact Below.size (by assumption) | exact Nat.le_trans (Below.size (by assumption)) (by simp))))))) (hQh.out.below (by exact (by repeat (first | exact Below.refl _ _ | assumption | refine Below.drew ?_ | refine below_drewN ?_ _ | refine Below.alloc' ?_ _ | (refine Below.setCell ?_ (by first | omega | (simp; done) | (simp; omega) | exact Below.size (by assumption) | exact Nat.le_trans (Below.size (by assumption)) (by simp)) _) | (refine Below.via' ?_ (by assumption)) | (refine Below.alloc ?_ (by first | omega | (simp; done) | (simp; omega) | exact Below.size (by assumption) | exact Nat.le_trans (Below.size (by assumption)) (by simp)) _) | (refine Below.via ?_ (by assumption) (by first | omega | (simp; done) | (simp; omega) | exact Below.size (by assumption) | exact Nat.le_trans (Below.size (by assumption)) (by simp)))))))).mono ?_
    rintro e w1 ⟨rfl, hb1⟩
    rw [hi]
    go_wp2
    go_ret2
    exact ⟨ret_sbD hz.out.symm rfl, (by repeat (first | exact Below.refl _ _ | assumption | refine Below.drew ?_ | refine below_drewN ?_ _ | refine Below.alloc' ?_ _ | (refine Below.setCell ?_ (by first | omega | (simp; done) | (simp; omega) | exact Below.size (by assumption) | exact Nat.le_trans (Below.size (by assumption)) (by simp)) _) | (refine Below.via' ?_ (by assumption)) | (refine Below.alloc ?_ (by first | omega | (simp; done) | (simp; omega) | exact Below.size (by assumption) | exact Nat.le_trans (Below.size (by assumption)) (by simp)) _) | (refine Below.via ?_ (by assumption) (by first | omega | (simp; done) | (simp; omega) | exact Below.size (by assumption) | exact Nat.le_trans (Below.size (by assumption)) (by simp)))))⟩
  · have hz : Hid (dtR S (pM Q) = dtT (pM Q)) := by unfold Hid dtR; rw [hi]; rfl
    have hi2 := hi
    unfold idB at hi2
    rw [Bool.and_eq_true] at hi2
    obtain ⟨hs, hd⟩ := hi2
    go_enter Tryd.func7, Tryd.ntmps7
    go_wp2_with fail
    refine (dInput_any _ _ _ _ S Q _ (hh.out.below (by exact (by repeat (first | exact Below.refl _ _ | assumption | refine Below.drew ?_ | refine below_drewN ?_ _ | refine Below.alloc' ?_ _ | (refine Below.setCell ?_ (by first | omega | (simp; done) | (simp; omega) | exact Below.size (by assumption) | exact Nat.le_trans (Below.size (by assumption)) (by simp)) _) | (refine Below.via' ?_ (by assumption)) | (refine Below.alloc ?_ (by first | omega | (simp; done) | (simp; omega) | exact Below.size (by assumption) | exact Nat.le_trans (Below.size (by assumption)) (by simp)) _) | (refine Below.via ?_ (by assumption) (by first | omega | (simp; done) | (simp; omega) | exact Below.size (by assumption) | exact Nat.le_trans (Below.size (by assumption)) (by simp))))))) (hQh.out.below (by exact (by repeat (first | exact Below.refl _ _ | assumption | refine Below.drew ?_ | refine below_drewN ?_ _ | refine Below.alloc' ?_ _ | (refine Below.setCell ?_ (by first | omega | (simp; done) | (simp; omega) | exact Below.size (by assumption) | exact Nat.le_trans (Below.size (by assumption)) (by simp)) _) | (refine Below.via' ?_ (by assumption)) | (refine Below.alloc ?_ (by first | omega | (simp; done) | (simp; omega) | exact Below.size (by assumption) | exact Nat.le_trans (Below.size (by assumption)) (by simp)) _) | (refine Below.via ?_ (by assumption) (by first | omega | (simp; done) | (simp; omega) | exact Below.size (by assumption) | exact Nat.le_trans (Below.size (by assumption)) (by simp)))))))).mono ?_
    rintro e w1 ⟨rfl, hb1⟩
    rw [hi]
    go_wp2_with fail
    refine (dText_any _ _ S Q _ hs hd (hQh.out.below (by exact (by repeat (first | exact Below.refl _ _ | assumption | refine Below.drew ?_ | refine below_drewN ?_ _ | refine Below.alloc' ?_ _ | (refine Below.setCell ?_ (by first | omega | (simp; done) | (simp; omega) | exact Below.size (by assumption) | exact Nat.le_trans (Below.size (by assumption)) (by simp)) _) | (refine Below.via' ?_ (by assumption)) | (refine Below.alloc ?_ (by first | omega | (simp; done) | (simp; omega) | exact Below.size (by assumption) | exact Nat.le_trans (Below.size (by assumption)) (by simp)) _) | (refine Below.via ?_ (by assumption) (by first | omega | (simp; done) | (simp; omega) | exact Below.size (by assumption) | exact Nat.le_trans (Below.size (by assumption)) (by simp)))))))).mono ?_
    rintro e w2 ⟨rfl, hb2⟩
    go_wp2
    go_ret2
    exact ⟨ret_sbD hz.out.symm rfl, (by repeat (first | exact Below.refl _ _ | assumption | refine Below.drew ?_ | refine below_drewN ?_ _ | refine Below.alloc' ?_ _ | (refine Below.setCell ?_ (by first | omega | (simp; done) | (simp; omega) | exact Below.size (by assumption) | exact Nat.le_trans (Below.size (by assumption)) (by simp)) _) | (refine Below.via' ?_ (by assumption)) | (refine Below.alloc ?_ (by first | omega | (simp; done) | (simp; omega) | exact Below.size (by assumption) | exact Nat.le_trans (Below.size (by assumption)) (by simp)) _) | (refine Below.via ?_ (by assumption) (by first | omega | (simp; done) | (simp; omega) | exact Below.size (by assumption) | exact Nat.le_trans (Below.size (by assumption)) (by simp)))))⟩
end Go.Proofs.YtelnbjhnjcbjoaaDoor
