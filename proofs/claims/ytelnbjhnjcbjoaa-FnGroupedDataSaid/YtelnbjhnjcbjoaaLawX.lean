/- The law FnGroupedData: for every two slices of bytes, the data, groupings, records and values that the model draws from them: grouped data are data of the grouped schema, as many; a record is removed; the program answers as the model; nothing that was there is written. No condition. -/
import Derived.Test.YtelnbjhnjcbjoaaDrwK
import Derived.Test.YtelnbjhnjcbjoaaGsM
import Derived.Test.YtelnbjhnjcbjoaaRecE
import Derived.Test.YtelnbjhnjcbjoaaRecV
import Derived.Test.YtelnbjhnjcbjoaaGre
import Derived.Test.YtelnbjhnjcbjoaaByS
import Derived.Test.YtelnbjhnjcbjoaaSchO
namespace Go.Proofs.Ytelnbjhnjcbjoaa
open Go.ChangeShapes Go.WideShapes Go.ChangeAt Go.RowKit
open Go.Joins
set_option maxRecDepth 100000

/-- Data that are read. -/
def DQ (w : World) (x : Option Addr) (T : List PR) : Prop := Rd w x (pC T) ∧ ∀ q ∈ T, Rd w q.x (iC q.L)
theorem DQ.below {w w' : World} {x : Option Addr} {T : List PR} (h : DQ w x T) (hb : Below w.heap.size w w') : DQ w' x T := ⟨h.1.below hb, fun q hq => (h.2 q hq).below hb⟩
theorem DQ.of_din {w : World} {x : Option Addr} {T : List PR} (h : DIn w x T) : DQ w x T := ⟨h.2.2, fun q hq => (h.2.1 q hq).2.2.2.2⟩
theorem DQ.of_own {w : World} {lo hi : Nat} {tr ti : TypeId} {x : Option Addr} {c : Nat} {T : List PR} (h : OwD w lo hi tr ti (.slice x T.length c) T) : DQ w x T := ⟨h.rd, h.inn⟩
theorem DQ.of_drd {w : World} {lo hi : Nat} {x : Option Addr} {T : List PR} (h : DRd w lo hi x T) : DQ w x T := ⟨h.1, fun q hq => (h.2.2 q hq).1⟩
theorem fit_i64g {S : List (ByteArray × Int)} {V : List Int} (hs : schB S = true) (hf : fitB S V = true) : ∀ n ∈ V, IsI64 n := by
  intro n hn
  obtain ⟨j, hj, rfl⟩ := List.getElem_of_mem hn
  have hl := fit_len hf
  have hjS : j < S.length := by omega
  obtain ⟨l1, l2⟩ := schB_lv hs (at_pr hjS)
  obtain ⟨a, b⟩ := fit_get hf (at_pr hjS) (List.getElem?_eq_getElem hj)
  unfold IsI64
  omega
/-- Data of a schema that are read. -/
theorem DQ.din {w : World} {x : Option Addr} {S : List (ByteArray × Int)} {T : List PR} (h : DQ w x T) (hd : idB S (pM T) = true) : DIn w x T := by
  have hl := (dok_small hd).1
  rw [pM_len] at hl
  have hl2 := (dok_small hd).2
  unfold idB at hd
  rw [Bool.and_eq_true] at hd
  refine ⟨by omega, fun q hq => ?_, h.1⟩
  have hm : q.m ∈ pM T := List.mem_map_of_mem hq
  obtain ⟨a, b, c, d, e⟩ := rokB_get (dokB_mem hd.2 hm)
  have hz := hl2 _ hm
  have a' : 0 ≤ q.a ∧ q.a ≤ 29 := ⟨a, b⟩
  have c' : 0 ≤ q.h ∧ q.h ≤ 999 := ⟨c, d⟩
  have hz' : q.L.length ≤ 6 := hz
  exact ⟨by unfold IsI64; omega, by unfold IsI64; omega, by omega, fit_i64g hd.1 e, h.2 q hq⟩
/-- Grouped data are data of the grouped schema. -/
theorem gd_data {S : List (ByteArray × Int)} {v : Int} {G : List Int} {R : List RV} (h : gdB S v G R = true) : igB S v G = true ∧ schB (gsL S v G) = true ∧ idB (gsL S v G) (gdL S v G R) = true ∧ (gdL S v G R).length = R.length := by
  obtain ⟨hd, hg⟩ := gd_get h
  have hd' := hd
  unfold idB at hd'
  rw [Bool.and_eq_true] at hd'
  have e : gdL S v G R = R.map (gmR v.toNat G) := by unfold gdL rsL; rw [h, if_pos rfl]
  have hsG := gs_schema hd'.1 hg
  rw [e]
  refine ⟨by unfold igB; rw [hd'.1, hg]; rfl, hsG, idB_yes hsG ?_, by simp⟩
  unfold dokB
  rw [Bool.and_eq_true]
  refine ⟨by rw [List.length_map]; exact decide_eq_true (dokB_len hd'.2), ?_⟩
  rw [List.all_eq_true]
  intro q hq
  obtain ⟨p, hp, rfl⟩ := List.mem_map.1 hq
  obtain ⟨a, b, c, d, f⟩ := rokB_get (dokB_mem hd'.2 hp)
  have hw : gwB S v G p.2.2 = true := by unfold gwB igB; rw [hd'.1, hg, f]; rfl
  have hf := (gw_fits hw).2.2.2
  have e2 : gwL S v G p.2.2 = gmL v.toNat G p.2.2 := by unfold gwL gmL; rw [hw, if_pos rfl]
  rw [e2] at hf
  unfold rokB
  show (inB p.1 0 29 && inB p.2.1 0 999 && fitB (gsL S v G) (gmL v.toNat G p.2.2)) = true
  rw [(inB_iff _ _ _).2 ⟨a, b⟩, (inB_iff _ _ _).2 ⟨c, d⟩, hf]
  rfl
theorem rr_len {S : List (ByteArray × Int)} {R : List RV} {i : Int} (h : rrB S R i = true) : ((rrL S R i).length : Int) = (R.length : Int) - 1 := by
  have h' := h
  unfold rrB at h'
  rw [Bool.and_eq_true, inB_iff] at h'
  unfold rrL rsL
  rw [h, if_pos rfl]
  unfold woL
  rw [List.length_append, List.length_take, List.length_drop]
  omega
theorem sch_sing {w : World} {x : Option Addr} {c : Nat} {S : List (ByteArray × Int)} (hs : schB S = true) (hc : S.length ≤ c) (hr : Rd w x (vC S)) : SIn w x c S := by
  obtain ⟨h1, h2⟩ := schB_len hs
  refine ⟨by omega, hc, fun p hp => ?_, hr⟩
  have hv := schB_va hs hp
  unfold vaB nmB at hv
  simp only [Bool.and_eq_true, decide_eq_true_eq] at hv
  have hl := (lvB_iff _).1 hv.2
  exact ⟨by omega, by unfold IsI64; omega⟩
theorem sm_i64g {L : List Int} (h : SmI L) : ∀ n ∈ L, IsI64 n := fun n hn => by have := h n hn; unfold IsI64; omega
theorem nn_i64g {L : List Int} (h : NnI L) : ∀ n ∈ L, IsI64 n := fun n hn => by have := h n hn; unfold IsI64; omega
theorem gs_yesg (x y : Option Addr) (c1 c2 : Nat) (S : List (ByteArray × Int)) (v : Int) (G : List Int) (w : World) (hg : igB S v G = true) (h : SIn w x c1 S) (hG : IIn w y G) (hnil : x = none → c1 = 0) :
    Calls Try.prog 23 #[.slice x S.length c1, .agg #[.int .i64 v, .slice y G.length c2]] w fun e w' => ∃ u, e = .returned (.tuple #[u, .bool true]) ∧ w'.ownsRow w.heap.size 107 2 u (gsL S v G).length (vC (gsL S v G)) ∧ Below w.heap.size w w' := by
  have hm := iGS_x x y c1 c2 S v G w h hG hnil
  rw [hg] at hm
  exact hm
theorem id_yesg (x y : Option Addr) (c1 c2 : Nat) (S : List (ByteArray × Int)) (Q : List PR) (w : World) (hs : schB S = true) (hd : idB S (pM Q) = true) (h : SIn w x c1 S) (hQ : DIn w y Q) :
    Calls Try.prog 24 #[.slice x S.length c1, .slice y Q.length c2] w fun e w' => e = .returned (.tuple #[.bool true, .bool true]) ∧ Below w.heap.size w w' := by
  have hm := iID_x x y c1 c2 S Q w h hQ
  rw [hd, hs] at hm
  exact hm

set_option maxHeartbeats 8000000 in
theorem fnGroupedData_any (x1 x2 : Option Addr) (n1 c1 n2 c2 : Nat) (w : World) (hB1 : ByRd w x1 n1) (hB2 : ByRd w x2 n2) (hl1 : n1 ≤ 140737488355327) (hl2 : n2 ≤ 140737488355327) :
    Calls Try.prog 3 #[.slice x1 n1 c1, .slice x2 n2 c2] w fun e w' => e = .returned (.bool true) ∧ Below w.heap.size w w' := by
  have hX1 := Lib.hid hB1.low
  have hX2 := Lib.hid hB2.low
  have hD1 := Lib.hid hB1
  have hD2 := Lib.hid hB2
  clear hB1 hB2
  by_cases hg : (1048576 : Int) < (n1 : Int) + (n2 : Int)
  · go_enter Try.func3, Try.ntmps3
    go_wp2_with fail
    go_ret
    exact ⟨rfl, (by repeat (first | exact Below.refl _ _ | assumption | refine Below.drew ?_ | refine below_drewN ?_ _ | refine Below.alloc' ?_ _ | (refine Below.setCell ?_ (by first | omega | (simp; done) | (simp; omega) | exact Below.size (by assumption) | exact Nat.le_trans (Below.size (by assumption)) (by simp)) _) | (refine Below.via' ?_ (by assumption)) | (refine Below.alloc ?_ (by first | omega | (simp; done) | (simp; omega) | exact Below.size (by assumption) | exact Nat.le_trans (Below.size (by assumption)) (by simp)) _) | (refine Below.via ?_ (by assumption) (by first | omega | (simp; done) | (simp; omega) | exact Below.size (by assumption) | exact Nat.le_trans (Below.size (by assumption)) (by simp)))))⟩
  go_enter Try.func3, Try.ntmps3
  go_wp2_with fail
  refine (drawGD_any x1 n1 c1 _ (fun h0 c off e => by have := hX1.out h0 c off e; simp; omega) (hD1.out.below (by exact (by repeat (first | exact Below.refl _ _ | assumption | refine Below.drew ?_ | refine below_drewN ?_ _ | refine Below.alloc' ?_ _ | (refine Below.setCell ?_ (by first | omega | (simp; done) | (simp; omega) | exact Below.size (by assumption) | exact Nat.le_trans (Below.size (by assumption)) (by simp)) _) | (refine Below.via' ?_ (by assumption)) | (refine Below.alloc ?_ (by first | omega | (simp; done) | (simp; omega) | exact Below.size (by assumption) | exact Nat.le_trans (Below.size (by assumption)) (by simp)) _) | (refine Below.via ?_ (by assumption) (by first | omega | (simp; done) | (simp; omega) | exact Below.size (by assumption) | exact Nat.le_trans (Below.size (by assumption)) (by simp)))))))).mono ?_
  rintro e w1 ⟨S, z, cz, v, L, y, cy, T, t, ct, rfl, hD, hcz, hzn, v1, v2, hNL, hL10, hDT, hT41, hct, htn, hSr, hLr, hTI, hb⟩
  have B1 : Below w.heap.size w w1 := (by repeat (first | exact Below.refl _ _ | assumption | refine Below.drew ?_ | refine below_drewN ?_ _ | refine Below.alloc' ?_ _ | (refine Below.setCell ?_ (by first | omega | (simp; done) | (simp; omega) | exact Below.size (by assumption) | exact Nat.le_trans (Below.size (by assumption)) (by simp)) _) | (refine Below.via' ?_ (by assumption)) | (refine Below.alloc ?_ (by first | omega | (simp; done) | (simp; omega) | exact Below.size (by assumption) | exact Nat.le_trans (Below.size (by assumption)) (by simp)) _) | (refine Below.via ?_ (by assumption) (by first | omega | (simp; done) | (simp; omega) | exact Below.size (by assumption) | exact Nat.le_trans (Below.size (by assumption)) (by simp)))))
  have hI1 : Hid (SIn w1 z cz S) := ⟨hD.sin.1, hcz, hD.sin.2, hSr⟩
  have hG1 : Hid (IIn w1 y L) := ⟨by omega, nn_i64g hNL, hLr⟩
  have hT1 : Hid (DIn w1 t T) := hTI
  have hcp : Hid (∀ q ∈ T, RCap q) := fun q hq => (hDT q hq).2.2.2.2
  have hbd := gd_small S v L (pM T)
  have hlT : T.length = (pM T).length := (pM_len T).symm
  replace hlT := Lib.hid hlT
  replace hzn := Lib.hid hzn
  clear hD hNL hDT hSr hLr hTI hb htn hct
  have a1 : Below w1.heap.size w1 (w1.alloc (.cells #[.int .i64 v, .slice y L.length cy] 26)) := (Below.refl _ _).alloc (Nat.le_refl _) _
  have K1 := Lib.hid (GB.new w1 v y L.length cy 26)
  go_wp2_with fail
  refine (iGD_x z y t cz cy ct S v L T _ (hI1.out.below a1) (hG1.out.below a1) (hT1.out.below a1) hcp.out).mono ?_
  rintro e w2 ⟨u2, T2, rfl, hp2, ho2, hb⟩
  have B2 := Below.via' (Below.alloc' B1 _) hb
  have hI2 := Lib.hid ((hI1.out.below a1).below hb)
  have hG2 := Lib.hid ((hG1.out.below a1).below hb)
  have hT2 := Lib.hid ((hT1.out.below a1).below hb)
  have K2 := Lib.hid (K1.out.below hb)
  obtain ⟨ka2, kb2, kc2⟩ := K2.out
  obtain ⟨x2', k2, rfl, -, -⟩ := ho2.form
  have U2 := Lib.hid (DQ.of_own ho2)
  have hl2 : T2.length ≤ 40 := by rw [← pM_len, hp2]; exact hbd.1
  have hlq2 := Lib.hid (fun q hq => by have := tot_mem hq; rw [tot_pM, hp2] at this; omega : ∀ q ∈ T2, q.L.length ≤ 1048576)
  replace hp2 := Lib.hid hp2
  clear hb ho2 a1 hI1 hG1 hT1 K1 B1
  go_wp2_with fail
  refine (sGD_x z y t cz cy ct S v L T _ hI2.out hG2.out hT2.out hcp.out).mono ?_
  rintro e w3 ⟨x3, k3, T3, rfl, hp3, ho3, hb⟩
  have B3 := Below.via' B2 hb
  have hI3 := Lib.hid (hI2.out.below hb)
  have hG3 := Lib.hid (hG2.out.below hb)
  have K3 := Lib.hid (K2.out.below hb)
  have U3 := Lib.hid (U2.out.below hb)
  have V3 := Lib.hid (DQ.of_drd ho3)
  replace hp3 := Lib.hid hp3
  clear hb ho3 hI2 hG2 hT2 K2 ka2 kb2 kc2 U2 B2 hcp
  go_wp2_with fail
  refine (drawRR_any x2 n2 c2 _ (fun h0 c off e => Nat.lt_of_lt_of_le (hX2.out h0 c off e) B3.size) (hD2.out.below B3)).mono ?_
  rintro e w4 ⟨S4, z4, cz4, T4, t4, ct4, i4, rfl, hD4, hcz4, hzn4, hDT4, hT41, i41, i42, hSr4, hTI4, hb⟩
  have B4 := Below.via' B3 hb
  have hI4 := Lib.hid (hI3.out.below hb)
  have hG4 := Lib.hid (hG3.out.below hb)
  have K4 := Lib.hid (K3.out.below hb)
  have U4 := Lib.hid (U3.out.below hb)
  have V4 := Lib.hid (V3.out.below hb)
  have hJ4 : Hid (SIn w4 z4 cz4 S4) := ⟨hD4.sin.1, hcz4, hD4.sin.2, hSr4⟩
  have hT4 : Hid (DIn w4 t4 T4) := hTI4
  have hcp4 : Hid (∀ q ∈ T4, RCap q) := fun q hq => (hDT4 q hq).2.2.2.2
  have hbd4 := rr_small S4 (pM T4) i4
  have hlT4 := Lib.hid (pM_len T4)
  clear hb hD4 hDT4 hSr4 hTI4 hzn4 hI3 hG3 K3 U3 V3 B3
  go_wp2_with fail
  refine (iRR_x z4 t4 cz4 ct4 S4 T4 i4 _ hJ4.out hT4.out hcp4.out).mono ?_
  rintro e w5 ⟨u5, T5, rfl, hp5, ho5, hb⟩
  have B5 := Below.via' B4 hb
  have hI5 := Lib.hid (hI4.out.below hb)
  have hG5 := Lib.hid (hG4.out.below hb)
  have K5 := Lib.hid (K4.out.below hb)
  have U5 := Lib.hid (U4.out.below hb)
  have V5 := Lib.hid (V4.out.below hb)
  have hJ5 := Lib.hid (hJ4.out.below hb)
  have hT5 := Lib.hid (hT4.out.below hb)
  obtain ⟨x5, k5, rfl, -, -⟩ := ho5.form
  have X5 := Lib.hid (DQ.of_own ho5)
  have hl5 : T5.length ≤ 40 := by rw [← pM_len, hp5]; exact hbd4.1
  have hlq5 := Lib.hid (fun q hq => by have := tot_mem hq; rw [tot_pM, hp5] at this; omega : ∀ q ∈ T5, q.L.length ≤ 1048576)
  replace hp5 := Lib.hid hp5
  clear hb ho5 hI4 hG4 K4 U4 V4 hJ4 hT4 B4
  go_wp2_with fail
  refine (sRR_x z4 t4 cz4 ct4 S4 T4 i4 _ hJ5.out hT5.out hcp4.out).mono ?_
  rintro e w6 ⟨x6, k6, T6, rfl, hp6, ho6, hb⟩
  have B6 := Below.via' B5 hb
  have hI6 := Lib.hid (hI5.out.below hb)
  have hG6 := Lib.hid (hG5.out.below hb)
  have K6 := Lib.hid (K5.out.below hb)
  have U6 := Lib.hid (U5.out.below hb)
  have V6 := Lib.hid (V5.out.below hb)
  have X6 := Lib.hid (X5.out.below hb)
  have Y6 := Lib.hid (DQ.of_drd ho6)
  replace hp6 := Lib.hid hp6
  clear hb ho6 hI5 hG5 K5 U5 V5 X5 hJ5 hT5 B5 hcp4
  go_wp2_with fail
  refine (drawRV_any x2 n2 c2 _ (fun h0 c off e => Nat.lt_of_lt_of_le (hX2.out h0 c off e) B6.size) (hD2.out.below B6)).mono ?_
  rintro e w7 ⟨S7, z7, cz7, a7, h7, L7, y7, cy7, M7, t7, ct7, rfl, hD7, hcz7, hzn7, ha7, hh7, hSL7, hL78, hSM7, hM78, hct7, htn7, hSr7, hLr7, hMr7, hb⟩
  have B7 := Below.via' B6 hb
  have hI7 := Lib.hid (hI6.out.below hb)
  have hG7 := Lib.hid (hG6.out.below hb)
  have K7 := Lib.hid (K6.out.below hb)
  have U7 := Lib.hid (U6.out.below hb)
  have V7 := Lib.hid (V6.out.below hb)
  have X7 := Lib.hid (X6.out.below hb)
  have Y7 := Lib.hid (Y6.out.below hb)
  have hJ7 : Hid (SIn w7 z7 cz7 S7) := ⟨hD7.sin.1, hcz7, hD7.sin.2, hSr7⟩
  have hL7 : Hid (IIn w7 y7 L7) := ⟨by omega, sm_i64g hSL7, hLr7⟩
  have hM7 : Hid (IIn w7 t7 M7) := ⟨by omega, sm_i64g hSM7, hMr7⟩
  have a7' : Below w7.heap.size w7 (w7.alloc (.cells #[.int .i64 a7, .int .i64 h7, .slice y7 L7.length cy7] 36)) := (Below.refl _ _).alloc (Nat.le_refl _) _
  have R7 := Lib.hid (RB.new w7 a7 h7 y7 L7.length cy7 36)
  replace htn7 := Lib.hid htn7
  clear hb hD7 hSL7 hSM7 hSr7 hLr7 hMr7 hzn7 ha7 hh7 hI6 hG6 K6 U6 V6 X6 Y6 B6 hX1 hX2 hD1 hD2
  go_wp2_with fail
  refine (iRV_x z7 y7 t7 cz7 cy7 ct7 S7 a7 h7 L7 M7 _ (hJ7.out.below a7') (hL7.out.below a7') (hM7.out.below a7')).mono ?_
  rintro e w8 ⟨x8, k8, rfl, ho8, hb⟩
  have B8 := Below.via' (Below.alloc' B7 _) hb
  have hI8 := Lib.hid ((hI7.out.below a7').below hb)
  have hG8 := Lib.hid ((hG7.out.below a7').below hb)
  have K8 := Lib.hid ((K7.out.below a7').below hb)
  have U8 := Lib.hid ((U7.out.below a7').below hb)
  have V8 := Lib.hid ((V7.out.below a7').below hb)
  have X8 := Lib.hid ((X7.out.below a7').below hb)
  have Y8 := Lib.hid ((Y7.out.below a7').below hb)
  have hJ8 := Lib.hid ((hJ7.out.below a7').below hb)
  have hL8 := Lib.hid ((hL7.out.below a7').below hb)
  have hM8 := Lib.hid ((hM7.out.below a7').below hb)
  have R8 := Lib.hid (R7.out.below hb)
  obtain ⟨ra8, rb8, rc8, rd8⟩ := R8.out
  have P8 := Lib.hid ho8.rd
  have hrl : (rvI (rvB S7 a7 h7 L7 M7) M7).length ≤ 8 := by unfold rvI; split <;> first | omega | simp
  have a8 : Below w8.heap.size w8 (w8.alloc (.cells #[.int .i64 (rvZ (rvB S7 a7 h7 L7 M7) a7), .int .i64 (rvZ (rvB S7 a7 h7 L7 M7) h7), .slice x8 (rvI (rvB S7 a7 h7 L7 M7) M7).length k8] 36)) := (Below.refl _ _).alloc (Nat.le_refl _) _
  have O8 := Lib.hid (RB.new w8 (rvZ (rvB S7 a7 h7 L7 M7) a7) (rvZ (rvB S7 a7 h7 L7 M7) h7) x8 (rvI (rvB S7 a7 h7 L7 M7) M7).length k8 36)
  clear hb ho8 a7' R7 B7 hI7 hG7 K7 U7 V7 X7 Y7 hJ7 hL7 hM7
  go_wp2_with fail
  refine (sRV_x z7 y7 t7 cz7 cy7 ct7 S7 a7 h7 L7 M7 _ (hJ8.out.below a8) (hL8.out.below a8) (hM8.out.below a8) hct7 htn7.out).mono ?_
  rintro e w9 ⟨x9, k9, rfl, ho9, hb⟩
  have B9 := Below.via' (Below.alloc' B8 _) hb
  have hI9 := Lib.hid ((hI8.out.below a8).below hb)
  have hG9 := Lib.hid ((hG8.out.below a8).below hb)
  have K9 := Lib.hid ((K8.out.below a8).below hb)
  have U9 := Lib.hid ((U8.out.below a8).below hb)
  have V9 := Lib.hid ((V8.out.below a8).below hb)
  have X9 := Lib.hid ((X8.out.below a8).below hb)
  have Y9 := Lib.hid ((Y8.out.below a8).below hb)
  have P9 := Lib.hid ((P8.out.below a8).below hb)
  have O9 := Lib.hid (O8.out.below hb)
  have Q9 := Lib.hid ho9.rd
  have a9 : Below w9.heap.size w9 (w9.alloc (.cells #[.int .i64 (rvZ (rvB S7 a7 h7 L7 M7) a7), .int .i64 (rvZ (rvB S7 a7 h7 L7 M7) h7), .slice x9 (rvI (rvB S7 a7 h7 L7 M7) M7).length k9] 36)) := (Below.refl _ _).alloc (Nat.le_refl _) _
  have F9 := Lib.hid (RB.new w9 (rvZ (rvB S7 a7 h7 L7 M7) a7) (rvZ (rvB S7 a7 h7 L7 M7) h7) x9 (rvI (rvB S7 a7 h7 L7 M7) M7).length k9 36)
  clear hb ho9 a8 R8 B8 ra8 rb8 rc8 rd8 O8 hJ8 hL8 hM8 htn7 hI8 hG8 K8 U8 V8 X8 Y8 P8
  go_wp2_with fail
  refine (qData_any _ _ _ _ T2 T3 _ (by omega) hlq2.out (by rw [hp3.out, hp2.out]) (U9.out.below a9).1 (U9.out.below a9).2 (V9.out.below a9).1 (V9.out.below a9).2).mono ?_
  rintro e w10 ⟨rfl, hb⟩
  have B10 := Below.via' (Below.alloc' B9 _) hb
  have hI10 := Lib.hid ((hI9.out.below a9).below hb)
  have hG10 := Lib.hid ((hG9.out.below a9).below hb)
  have K10 := Lib.hid ((K9.out.below a9).below hb)
  have U10 := Lib.hid ((U9.out.below a9).below hb)
  have X10 := Lib.hid ((X9.out.below a9).below hb)
  have Y10 := Lib.hid ((Y9.out.below a9).below hb)
  have P10 := Lib.hid ((P9.out.below a9).below hb)
  have Q10 := Lib.hid ((Q9.out.below a9).below hb)
  have O10 := Lib.hid ((O9.out.below a9).below hb)
  have F10 := Lib.hid (F9.out.below hb)
  clear hb B9 a9 hI9 hG9 K9 U9 V9 X9 Y9 P9 Q9 O9 F9
  go_wp2_with fail
  refine (qData_any _ _ _ _ T5 T6 _ (by omega) hlq5.out (by rw [hp6.out, hp5.out]) X10.out.1 X10.out.2 Y10.out.1 Y10.out.2).mono ?_
  rintro e w11 ⟨rfl, hb⟩
  have B11 := Below.via' B10 hb
  have hI11 := Lib.hid (hI10.out.below hb)
  have hG11 := Lib.hid (hG10.out.below hb)
  have K11 := Lib.hid (K10.out.below hb)
  have U11 := Lib.hid (U10.out.below hb)
  have P11 := Lib.hid (P10.out.below hb)
  have Q11 := Lib.hid (Q10.out.below hb)
  have O11 := Lib.hid (O10.out.below hb)
  have F11 := Lib.hid (F10.out.below hb)
  obtain ⟨oa, ob, oc, od⟩ := O11.out
  obtain ⟨fa, fb, fc, fd⟩ := F11.out
  clear hb B10 hI10 hG10 K10 U10 X10 Y10 P10 Q10 O10 F10
  go_wp2_with fail
  refine (qRecord_any _ _ _ _ _ _ _ _ (by omega) P11.out Q11.out).mono ?_
  rintro e w12 ⟨rfl, hb⟩
  have B12 := Below.via' B11 hb
  have hI12 := Lib.hid (hI11.out.below hb)
  have hG12 := Lib.hid (hG11.out.below hb)
  have K12 := Lib.hid (K11.out.below hb)
  have U12 := Lib.hid (U11.out.below hb)
  clear hb B11 hI11 hG11 K11 U11 P11 Q11 O11 F11 oa ob oc od fa fb fc fd
  have hl5' : Hid (rrB S4 (pM T4) i4 = true → (T5.length : Int) = (T4.length : Int) - 1) := fun h => by
    rw [← pM_len T5, hp5.out, rr_len h, hlT4.out]
  cases hr1 : rrB S4 (pM T4) i4
  · cases hok : gdB S v L (pM T)
    · go_wp2_with fail
      go_ret
      exact ⟨rfl, B12⟩
    · obtain ⟨hig, hsG, hid, hln⟩ := gd_data hok
      have hln2 : T2.length = T.length := by rw [hlT.out, ← hln, ← hp2.out, pM_len]
      have he1 : ((T2.length : Int) == (T.length : Int)) = true := by rw [beq_iff_eq]; omega
      obtain ⟨ka, kb, kc⟩ := K12.out
      replace hig := Lib.hid hig
      replace hsG := Lib.hid hsG
      replace hid := Lib.hid hid
      replace hln := Lib.hid hln
      replace hln2 := Lib.hid hln2
      go_wp2_with fail
      refine (gs_yesg z y cz cy S v L _ hig.out hI12.out hG12.out hzn.out).mono ?_
      rintro e w13 ⟨u13, rfl, ho13, hb⟩
      have B13 := Below.via' B12 hb
      have U13 := Lib.hid (U12.out.below hb)
      obtain ⟨x13, k13, rfl, hk13, -⟩ := own_form ho13
      have hX13 := Lib.hid (sch_sing hsG.out hk13 (Rd.of_own ho13))
      clear hb ho13 ka kb kc
      go_wp2_with fail
      refine (id_yesg x13 x2' k13 k2 (gsL S v L) T2 _ hsG.out (by rw [hp2.out]; exact hid.out) hX13.out (U13.out.din (by rw [hp2.out]; exact hid.out))).mono ?_
      rintro e w14 ⟨rfl, hb⟩
      have B14 := Below.via' B13 hb
      clear hb
      go_wp2_with fail
      go_ret
      exact ⟨rfl, B14⟩

  · have hz5 := hl5'.out hr1
    have hf1 : ((T5.length : Int) == (T4.length : Int) - 1) = true := by rw [beq_iff_eq]; exact hz5
    have hf2 : ((T5.length : Int) != (T4.length : Int) - 1) = false := by show (!((T5.length : Int) == (T4.length : Int) - 1)) = false; rw [hf1]; rfl
    replace hz5 := Lib.hid hz5
    cases hok : gdB S v L (pM T)
    · go_wp2_with fail
      go_ret
      exact ⟨rfl, B12⟩
    · obtain ⟨hig, hsG, hid, hln⟩ := gd_data hok
      have hln2 : T2.length = T.length := by rw [hlT.out, ← hln, ← hp2.out, pM_len]
      have he1 : ((T2.length : Int) == (T.length : Int)) = true := by rw [beq_iff_eq]; omega
      obtain ⟨ka, kb, kc⟩ := K12.out
      replace hig := Lib.hid hig
      replace hsG := Lib.hid hsG
      replace hid := Lib.hid hid
      replace hln := Lib.hid hln
      replace hln2 := Lib.hid hln2
      go_wp2_with fail
      refine (gs_yesg z y cz cy S v L _ hig.out hI12.out hG12.out hzn.out).mono ?_
      rintro e w13 ⟨u13, rfl, ho13, hb⟩
      have B13 := Below.via' B12 hb
      have U13 := Lib.hid (U12.out.below hb)
      obtain ⟨x13, k13, rfl, hk13, -⟩ := own_form ho13
      have hX13 := Lib.hid (sch_sing hsG.out hk13 (Rd.of_own ho13))
      clear hb ho13 ka kb kc
      go_wp2_with fail
      refine (id_yesg x13 x2' k13 k2 (gsL S v L) T2 _ hsG.out (by rw [hp2.out]; exact hid.out) hX13.out (U13.out.din (by rw [hp2.out]; exact hid.out))).mono ?_
      rintro e w14 ⟨rfl, hb⟩
      have B14 := Below.via' B13 hb
      clear hb
      go_wp2_with fail
      go_ret
      exact ⟨rfl, B14⟩

set_option maxRecDepth 100000 in
theorem fnGroupedData_lifted (os : Os) (started : os.Started) (H : Type) (enc : TypeId × Value → H) :
    ReturnsInHanded {} Try.checked os 3 .any (Rows.fnGroupedDataSpec.pre6 enc Try.prog Try.f3 Rows.fnGroupedDataRow.domain false) (Rows.fnGroupedDataSpec.post enc Try.prog Try.f3 false true false false) := by
  refine returnsInHanded_of_change_sized (C := Try.checked) own started (by kernel_rfl) Try.func3
    (ChangeSpec.witness6 (enc := enc) (C := Try.checked) false ⟨#[], #[.slice none 0 0, .slice none 0 0], []⟩ 8 (by kernel_rfl) (by kernel_rfl) (by kernel_rfl) (by kernel_rfl)) ?_
  intro W base args ds gs before hval0 hW hcnd hwt _
  have hval : ∀ (j : Nat) t v, Try.f3.params[j]? = some t → args[j]? = some v → Value.okWide Try.prog W .any base t v := hval0
  have hW' := hW
  obtain ⟨p, q, hA0, hV, rfl, hfz, hnd⟩ := hW
  have hA : DataW.TrodAll enc Try.prog W 0 (fun _ => true) true Try.f3.params.toList args.toList ds p := hA0
  rw [Try.params3] at hA hval
  obtain ⟨v0, v1, d0, d1, p0, p1, rfl, rfl, rfl, h0, h1⟩ := trodAll_two hA
  have hb8 : Try.checked.prog.bytesOf 5 = 1 := by kernel_rfl
  have hw0 : ∀ elems spare, d0 = .slice elems spare → elems.length ≤ 140737488355327 := fun elems spare e => by
    have h1 := sized_slice hwt (j := 0) rfl (by rw [e]; rfl) Try.underlying22
    have h2 := reachBytes_lt
    rw [hb8] at h1
    omega
  have hw1 : ∀ elems spare, d1 = .slice elems spare → elems.length ≤ 140737488355327 := fun elems spare e => by
    have h1 := sized_slice hwt (j := 1) rfl (by rw [e]; rfl) Try.underlying22
    have h2 := reachBytes_lt
    rw [hb8] at h1
    omega
  obtain ⟨x1, n1, c1, rfl, hl1, hB1⟩ := open_byS (hval 0 _ _ rfl rfl) h0 hw0
  obtain ⟨x2, n2, c2, rfl, hl2, hB2⟩ := open_byS (hval 1 _ _ rfl rfl) h1 hw1
  refine (fnGroupedData_any x1 x2 n1 c1 n2 c2 W hB1 hB2 hl1 hl2).mono fun e W' ⟨he, hb⟩ => ?_
  subst he
  obtain ⟨rfl, rfl⟩ := trodVars_none hV
  exact ⟨_, rfl, law_post laidOut (by kernel_rfl) (by kernel_rfl) rfl Try.underlying4 (fun _ _ _ _ => rfl) hW' hb⟩

theorem fnGroupedData_holds : Rows.FnGroupedDataSaid :=
  OpenClaim.holds_of_wide 3 Try.f3 rfl rfl rfl rfl rfl rfl rfl ⟨rfl, rfl, rfl, rfl, rfl⟩ rfl rfl rfl rfl rfl (by kernel_rfl) Try.func3 (by kernel_rfl)
    (of_decide_eq_true (by kernel_rfl)) (by unfold Func.isWrapper; first | (rw [if_pos (by decide +kernel)]; kernel_rfl) | (rw [if_neg (by decide +kernel)]; exact ⟨rfl, rfl⟩))
    (fun os started H enc _ => fnGroupedData_lifted os started H enc)
end Go.Proofs.Ytelnbjhnjcbjoaa
