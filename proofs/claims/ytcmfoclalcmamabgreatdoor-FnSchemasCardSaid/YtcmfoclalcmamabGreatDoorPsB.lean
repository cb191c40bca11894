import Derived.Test.YtcmfoclalcmamabGreatDoorSchO
import Derived.Test.YtcmfoclalcmamabGreatDoorSchX
import Derived.Test.YtcmfoclalcmamabGreatDoorSchD
import Derived.Test.YtcmfoclalcmamabGreatDoorAtJ
import Derived.Test.YtcmfoclalcmamabGreatDoorAtM
import Derived.Test.YtcmfoclalcmamabGreatDoorPsA
import Derived.Test.YtcmfoclalcmamabGreatDoorOwR
import Derived.Test.YtcmfoclalcmamabGreatDoorDrwD
import Derived.Test.YtcmfoclalcmamabGreatDoorByS
import Derived.Test.YtcmfoclalcmamabGreatDoorTieP
import Derived.Lay
namespace Go.Proofs.YtcmfoclalcmamabGreatDoor
open Go.ChangeShapes Go.WideShapes Go.ChangeAt Go.RowKit
open Go.Joins
set_option maxRecDepth 100000

set_option maxHeartbeats 1000000 in
theorem iCA_yes (x : Option Addr) (cap : Nat) (S : List (ByteArray × Int)) (i : Int) (w : World) (h : SIn w x cap S) (hs : schB S = true) (h0 : 0 ≤ i) (h1 : i < cnZ S) :
    Calls Tryz.prog 7 #[.slice x S.length cap, .int .i64 i] w fun e w' => ∃ u, e = .returned (.tuple #[u, .bool true]) ∧ Ret w w' 3 1 u (atL S i).length (iC (atL S i)) := by
  have hm := h.1
  have hh := Lib.hid h
  have hsh := Lib.hid hs
  clear h hs
  go_enter Tryz.func7, Tryz.ntmps7
  go_wp2_with fail
  refine (isSch_x _ _ _ _ (hh.out.below (by exact (by repeat (first | exact Below.refl _ _ | assumption | refine Below.drew ?_ | refine below_drewN ?_ _ | refine Below.alloc' ?_ _ | (refine Below.setCell ?_ (by first | omega | (simp; done) | (simp; omega) | exact Below.size (by assumption) | exact Nat.le_trans (Below.size (by assumption)) (by simp)) _) | (refine Below.via' ?_ (by assumption)) | (refine Below.alloc ?_ (by first | omega | (simp; done) | (simp; omega) | exact Below.size (by assumption) | exact Nat.le_trans (Below.size (by assumption)) (by simp)) _) | (refine Below.via ?_ (by assumption) (by first | omega | (simp; done) | (simp; omega) | exact Below.size (by assumption) | exact Nat.le_trans (Below.size (by assumption)) (by simp)))))))).mono ?_
  rintro e w1 ⟨rfl, hb1⟩
  rw [hsh.out]
  go_wp2_with fail
  refine (countCombinations_any _ _ _ _ hsh.out hm (hh.out.rd.below (by exact (by repeat (first | exact Below.refl _ _ | assumption | refine Below.drew ?_ | refine below_drewN ?_ _ | refine Below.alloc' ?_ _ | (refine Below.setCell ?_ (by first | omega | (simp; done) | (simp; omega) | exact Below.size (by assumption) | exact Nat.le_trans (Below.size (by assumption)) (by simp)) _) | (refine Below.via' ?_ (by assumption)) | (refine Below.alloc ?_ (by first | omega | (simp; done) | (simp; omega) | exact Below.size (by assumption) | exact Nat.le_trans (Below.size (by assumption)) (by simp)) _) | (refine Below.via ?_ (by assumption) (by first | omega | (simp; done) | (simp; omega) | exact Below.size (by assumption) | exact Nat.le_trans (Below.size (by assumption)) (by simp)))))))).mono ?_
  rintro e w2 ⟨rfl, hb2⟩
  have B2 : Below w.heap.size w w2 := (by repeat (first | exact Below.refl _ _ | assumption | refine Below.drew ?_ | refine below_drewN ?_ _ | refine Below.alloc' ?_ _ | (refine Below.setCell ?_ (by first | omega | (simp; done) | (simp; omega) | exact Below.size (by assumption) | exact Nat.le_trans (Below.size (by assumption)) (by simp)) _) | (refine Below.via' ?_ (by assumption)) | (refine Below.alloc ?_ (by first | omega | (simp; done) | (simp; omega) | exact Below.size (by assumption) | exact Nat.le_trans (Below.size (by assumption)) (by simp)) _) | (refine Below.via ?_ (by assumption) (by first | omega | (simp; done) | (simp; omega) | exact Below.size (by assumption) | exact Nat.le_trans (Below.size (by assumption)) (by simp)))))
  go_wp2_with fail
  refine (combAt_any _ _ S _ _ (hh.out.below (by exact (by repeat (first | exact Below.refl _ _ | assumption | refine Below.drew ?_ | refine below_drewN ?_ _ | refine Below.alloc' ?_ _ | (refine Below.setCell ?_ (by first | omega | (simp; done) | (simp; omega) | exact Below.size (by assumption) | exact Nat.le_trans (Below.size (by assumption)) (by simp)) _) | (refine Below.via' ?_ (by assumption)) | (refine Below.alloc ?_ (by first | omega | (simp; done) | (simp; omega) | exact Below.size (by assumption) | exact Nat.le_trans (Below.size (by assumption)) (by simp)) _) | (refine Below.via ?_ (by assumption) (by first | omega | (simp; done) | (simp; omega) | exact Below.size (by assumption) | exact Nat.le_trans (Below.size (by assumption)) (by simp))))))) hsh.out h0 h1).mono ?_
  rintro e w3 ⟨u3, rfl, ho3, hb3⟩
  have ho3 := Lib.hid (own_more ho3 B2.size)
  go_wp2
  go_ret2
  exact ⟨_, rfl, ho3.out, (by repeat (first | exact Below.refl _ _ | assumption | refine Below.drew ?_ | refine below_drewN ?_ _ | refine Below.alloc' ?_ _ | (refine Below.setCell ?_ (by first | omega | (simp; done) | (simp; omega) | exact Below.size (by assumption) | exact Nat.le_trans (Below.size (by assumption)) (by simp)) _) | (refine Below.via' ?_ (by assumption)) | (refine Below.alloc ?_ (by first | omega | (simp; done) | (simp; omega) | exact Below.size (by assumption) | exact Nat.le_trans (Below.size (by assumption)) (by simp)) _) | (refine Below.via ?_ (by assumption) (by first | omega | (simp; done) | (simp; omega) | exact Below.size (by assumption) | exact Nat.le_trans (Below.size (by assumption)) (by simp)))))⟩

theorem iCA_x (x : Option Addr) (cap : Nat) (S : List (ByteArray × Int)) (i : Int) (w : World) (h : SIn w x cap S) :
    Calls Tryz.prog 7 #[.slice x S.length cap, .int .i64 i] w fun e w' => ∃ u, e = .returned (.tuple #[u, .bool (caB S i)]) ∧ Ret w w' 3 1 u (caL S i).length (iC (caL S i)) := by
  have hno : caB S i = false → ∀ (e : Ending) (w' : World), e = .returned (.tuple #[.slice none 0 0, .bool false]) ∧ Below w.heap.size w w' → ∃ u, e = .returned (.tuple #[u, .bool (caB S i)]) ∧ Ret w w' 3 1 u (caL S i).length (iC (caL S i)) := by
    rintro hb e w' ⟨rfl, hB⟩
    rw [hb, ca_no hb]
    exact ⟨_, rfl, World.ownsRow_nil _ _ _ _, hB⟩
  cases hs : schB S
  · exact (iCA_no1 x cap S i w h hs).mono (hno (ca_no1 hs))
  obtain ⟨n1, n2⟩ := cn_all hs
  by_cases h0 : i < 0
  · exact (iCA_no2 x cap S i w h hs h0).mono (hno (ca_no2 ((inB_no _ _ _).2 (by omega))))
  by_cases h1 : cnZ S ≤ i
  · exact (iCA_no3 x cap S i w h hs (by omega) h1).mono (hno (ca_no2 ((inB_no _ _ _).2 (by omega))))
  have hb := ca_get hs ((inB_iff i 0 (cnZ S - 1)).2 (by omega))
  rw [hb, ca_yes hb]
  exact iCA_yes x cap S i w h hs (by omega) (by omega)

theorem fit_i64 {S : List (ByteArray × Int)} {V : List Int} (hs : schB S = true) (hf : fitB S V = true) : ∀ n ∈ V, IsI64 n := by
  intro n hn
  obtain ⟨j, hj, rfl⟩ := List.getElem_of_mem hn
  have hl := fit_len hf
  have hjS : j < S.length := by omega
  obtain ⟨l1, l2⟩ := lvA_bd hs hjS
  obtain ⟨a, b⟩ := fit_get hf (at_nm hjS) (List.getElem?_eq_getElem hj)
  unfold IsI64
  omega
theorem sch_sin {w : World} {x : Option Addr} {c : Nat} {S : List (ByteArray × Int)} (hs : schB S = true) (hc : S.length ≤ c) (hr : Rd w x (vC S)) : SIn w x c S := by
  obtain ⟨h1, h2⟩ := schB_len hs
  refine ⟨by omega, hc, fun p hp => ?_, hr⟩
  have hv := schB_va hs hp
  unfold vaB nmB at hv
  simp only [Bool.and_eq_true, decide_eq_true_eq] at hv
  have hl := (lvB_iff _).1 hv.2
  exact ⟨by omega, by unfold IsI64; omega⟩
theorem sm_i64 {L : List Int} (h : SmI L) : ∀ n ∈ L, IsI64 n := fun n hn => by have := h n hn; unfold IsI64; omega
theorem nn_i64 {L : List Int} (h : NnI L) : ∀ n ∈ L, IsI64 n := fun n hn => by have := h n hn; unfold IsI64; omega
/-- The same calls where the answer is known to be yes. -/
theorem ci_at (x y : Option Addr) (c1 c2 : Nat) (S : List (ByteArray × Int)) (i : Int) (w : World) (hs : schB S = true) (h0 : 0 ≤ i) (h1 : i < cnZ S) (h : SIn w x c1 S) (hV : IIn w y (atL S i)) :
    Calls Tryz.prog 14 #[.slice x S.length c1, .slice y (atL S i).length c2] w fun e w' => e = .returned (.tuple #[.int .i64 i, .bool true]) ∧ Below w.heap.size w w' := by
  have hm := iCI_x x y c1 c2 S (atL S i) w h hV
  obtain ⟨a, b⟩ := ci_yes hs (at_fit hs h0)
  rw [a, b, at_ix hs h0 h1] at hm
  exact hm
theorem ci_fit (x y : Option Addr) (c1 c2 : Nat) (S : List (ByteArray × Int)) (V : List Int) (w : World) (hs : schB S = true) (hf : fitB S V = true) (h : SIn w x c1 S) (hV : IIn w y V) :
    Calls Tryz.prog 14 #[.slice x S.length c1, .slice y V.length c2] w fun e w' => (∃ n, e = .returned (.tuple #[.int .i64 n, .bool true])) ∧ Below w.heap.size w w' := by
  have hm := iCI_x x y c1 c2 S V w h hV
  rw [(ci_yes hs hf).1] at hm
  exact hm.mono fun e w' ⟨a, b⟩ => ⟨⟨_, a⟩, b⟩
theorem cc_yes (x : Option Addr) (c1 : Nat) (S : List (ByteArray × Int)) (w : World) (hs : schB S = true) (h : SIn w x c1 S) :
    Calls Tryz.prog 15 #[.slice x S.length c1] w fun e w' => e = .returned (.tuple #[.int .i64 (cnZ S), .bool true]) ∧ Below w.heap.size w w' := by
  have hm := iCC_x x c1 S w h
  rw [show ccN S = cnZ S from if_t hs, hs] at hm
  exact hm
theorem st_yes (x : Option Addr) (c1 : Nat) (S : List (ByteArray × Int)) (w : World) (hs : schB S = true) (h : SIn w x c1 S) :
    Calls Tryz.prog 16 #[.slice x S.length c1] w fun e w' => e = .returned (.tuple #[.string (stT S), .bool true]) ∧ Below w.heap.size w w' := by
  have hm := iST_x x c1 S w h
  rw [show stR S = stT S by unfold stR; rw [hs]; rfl, hs] at hm
  exact hm
theorem ps_yes (S : List (ByteArray × Int)) (w : World) (hs : schB S = true) (hL : LibV w) :
    Calls Tryz.prog 17 #[.string (stT S)] w fun e w' => ∃ g c, e = .returned (.tuple #[.slice (some ⟨g, 0, none⟩) S.length c, .bool true]) ∧ Rd w' (some ⟨g, 0, none⟩) (vC S) ∧ Below w.heap.size w w' := by
  have hz := stT_size hs S.length (Nat.le_refl _)
  rw [List.take_length] at hz
  have hl := schB_len hs
  refine (iPS_x (stT S) w (by omega) hL).mono ?_
  rintro e w' ⟨hb, ⟨T, g, c, hp, rfl, ho⟩ | ⟨hp, -⟩⟩
  · rw [prO_stT hs] at hp
    injection hp with hp
    subst hp
    exact ⟨g, c, rfl, Rd.of_own ho, hb⟩
  · rw [prO_stT hs] at hp
    cases hp
theorem vd_zero (x y z : Option Addr) (c1 c2 c3 : Nat) (S : List (ByteArray × Int)) (V : List Int) (w : World) (hs : schB S = true) (hf : fitB S V = true) (h : SIn w x c1 S) (hV : IIn w y V) (hV2 : IIn w z V) :
    Calls Tryz.prog 18 #[.slice x S.length c1, .slice y V.length c2, .slice z V.length c3] w fun e w' => e = .returned (.tuple #[.int .i64 0, .bool true]) ∧ Below w.heap.size w w' := by
  have hm := iVD_x x y z c1 c2 c3 S V V w h hV hV2
  obtain ⟨a, b⟩ := vd_yes hs hf hf
  rw [a, b, di_same] at hm
  exact hm
theorem gs_yesC (x y : Option Addr) (c1 c2 : Nat) (S : List (ByteArray × Int)) (v : Int) (G : List Int) (w : World) (hg : igB S v G = true) (h : SIn w x c1 S) (hG : IIn w y G) (hnil : x = none → c1 = 0) :
    Calls Tryz.prog 13 #[.slice x S.length c1, .agg #[.int .i64 v, .slice y G.length c2]] w fun e w' => ∃ u, e = .returned (.tuple #[u, .bool true]) ∧ w'.ownsRow w.heap.size 99 2 u (gsL S v G).length (vC (gsL S v G)) ∧ Below w.heap.size w w' := by
  have hm := iGS_x x y c1 c2 S v G w h hG hnil
  rw [hg] at hm
  exact hm

theorem ca_open {S : List (ByteArray × Int)} {i : Int} (h : caB S i = true) : schB S = true ∧ 0 ≤ i ∧ i < cnZ S := by
  unfold caB at h
  rw [Bool.and_eq_true, inB_iff] at h
  exact ⟨h.1, by omega, by omega⟩
theorem ci_atC (x y : Option Addr) (c1 c2 : Nat) (S : List (ByteArray × Int)) (i : Int) (w : World) (hok : caB S i = true) (h : SIn w x c1 S) (hV : Rd w y (iC (caL S i))) :
    Calls Tryz.prog 14 #[.slice x S.length c1, .slice y (caL S i).length c2] w fun e w' => e = .returned (.tuple #[.int .i64 i, .bool true]) ∧ Below w.heap.size w w' := by
  obtain ⟨hs, h0, h1⟩ := ca_open hok
  rw [ca_yes hok] at hV ⊢
  exact ci_at x y c1 c2 S i w hs h0 h1 h ⟨by rw [atL_len]; exact h.1, fit_i64 hs (at_fit hs h0), hV⟩
theorem vd_zeroC (x y : Option Addr) (c1 c2 : Nat) (S : List (ByteArray × Int)) (i : Int) (w : World) (hok : caB S i = true) (h : SIn w x c1 S) (hV : Rd w y (iC (caL S i))) :
    Calls Tryz.prog 18 #[.slice x S.length c1, .slice y (caL S i).length c2, .slice y (caL S i).length c2] w fun e w' => e = .returned (.tuple #[.int .i64 0, .bool true]) ∧ Below w.heap.size w w' := by
  obtain ⟨hs, h0, h1⟩ := ca_open hok
  rw [ca_yes hok] at hV ⊢
  exact vd_zero x y y c1 c2 c2 S _ w hs (at_fit hs h0) h ⟨by rw [atL_len]; exact h.1, fit_i64 hs (at_fit hs h0), hV⟩ ⟨by rw [atL_len]; exact h.1, fit_i64 hs (at_fit hs h0), hV⟩
set_option maxHeartbeats 8000000 in
theorem fnSchemas_any (x1 x2 : Option Addr) (n1 c1 n2 c2 : Nat) (w : World) (hL0 : LibV w) (hB1 : ByRd w x1 n1) (hB2 : ByRd w x2 n2) (hl1 : n1 ≤ 140737488355327) (hl2 : n2 ≤ 140737488355327) :
    Calls Tryz.prog 3 #[.slice x1 n1 c1, .slice x2 n2 c2] w fun e w' => e = .returned (.bool true) ∧ Below w.heap.size w w' := by
  have hX1 := Lib.hid hB1.low
  have hX2 := Lib.hid hB2.low
  have hD1 := Lib.hid hB1
  have hD2 := Lib.hid hB2
  have hL := Lib.hid hL0
  clear hB1 hB2 hL0
  by_cases hg : (1048576 : Int) < (n1 : Int) + (n2 : Int)
  · go_enter Tryz.func3, Tryz.ntmps3
    go_wp2_with fail
    go_ret
    exact ⟨rfl, (by repeat (first | exact Below.refl _ _ | assumption | refine Below.drew ?_ | refine below_drewN ?_ _ | refine Below.alloc' ?_ _ | (refine Below.setCell ?_ (by first | omega | (simp; done) | (simp; omega) | exact Below.size (by assumption) | exact Nat.le_trans (Below.size (by assumption)) (by simp)) _) | (refine Below.via' ?_ (by assumption)) | (refine Below.alloc ?_ (by first | omega | (simp; done) | (simp; omega) | exact Below.size (by assumption) | exact Nat.le_trans (Below.size (by assumption)) (by simp)) _) | (refine Below.via ?_ (by assumption) (by first | omega | (simp; done) | (simp; omega) | exact Below.size (by assumption) | exact Nat.le_trans (Below.size (by assumption)) (by simp)))))⟩
  go_enter Tryz.func3, Tryz.ntmps3
  go_wp2_with fail
  refine (drawCA_any x1 n1 c1 _ hX1.out hD1.out).mono ?_
  rintro e w1 ⟨S, z, cz, i, rfl, hD, hcz, i1, i2, hS, B1⟩
  have hI1 : Hid (SIn w1 z cz S) := ⟨hD.sin.1, hcz, hD.sin.2, hS⟩
  have hl6 := caL_len S i
  clear hD hS
  go_wp2_with fail
  refine (iCA_x z cz S i _ hI1.out).mono ?_
  rintro e w2 ⟨u2, rfl, ho2, hb⟩
  have B2 := Below.via' B1 hb
  have hI2 := Lib.hid (hI1.out.below hb)
  obtain ⟨x2', k2, rfl, -, -⟩ := own_form ho2
  have V2 := Lib.hid (Rd.of_own ho2)
  clear hb ho2 hI1 B1
  go_wp2_with fail
  refine (sCA_x z cz S i _ hI2.out).mono ?_
  rintro e w3 ⟨u3, rfl, ho3, hb⟩
  have B3 := Below.via' B2 hb
  have hI3 := Lib.hid (hI2.out.below hb)
  have V3 := Lib.hid (V2.out.below hb)
  obtain ⟨x3', k3, rfl, -, -⟩ := own_form ho3
  have W3 := Lib.hid (Rd.of_own ho3)
  clear hb ho3 hI2 V2 B2
  go_wp2_with fail
  refine (drawGV_any x2 n2 c2 _ (fun h0 c off e => Nat.lt_of_lt_of_le (hX2.out h0 c off e) B3.size) (hD2.out.below B3)).mono ?_
  rintro e w4 ⟨T, y4, cy4, v, L, g4, cg4, M, t4, ct4, rfl, hDT, hcy, hyn, v1, v2, hNL, hL10, hSM, hM8, hct, htn, hT, hLr, hMr, hb⟩
  have B4 := Below.via' B3 hb
  have hI4 := Lib.hid (hI3.out.below hb)
  have V4 := Lib.hid (V3.out.below hb)
  have W4 := Lib.hid (W3.out.below hb)
  have hT4 : Hid (SIn w4 y4 cy4 T) := ⟨hDT.sin.1, hcy, hDT.sin.2, hT⟩
  have hG4 : Hid (IIn w4 g4 L) := ⟨by omega, nn_i64 hNL, hLr⟩
  have hM4 : Hid (IIn w4 t4 M) := ⟨by omega, sm_i64 hSM, hMr⟩
  replace hyn := Lib.hid hyn
  replace htn := Lib.hid htn
  clear hb hDT hNL hSM hT hLr hMr hI3 V3 W3 B3
  have hl10 : (gwL T v L M).length ≤ 10 := by unfold gwL; split <;> simp <;> omega
  have a4 : Below w4.heap.size w4 (w4.alloc (.cells #[.int .i64 v, .slice g4 L.length cg4] 30)) := (Below.refl _ _).alloc (Nat.le_refl _) _
  have K4 := GB.new w4 v g4 L.length cg4 30
  go_wp2_with fail
  refine (iGW_x y4 g4 t4 cy4 cg4 ct4 T v L M _ (hT4.out.below a4) (hG4.out.below a4) (hM4.out.below a4) hct htn.out).mono ?_
  rintro e w5 ⟨u5, rfl, ho5, hb⟩
  have B5 := Below.via' (Below.alloc' B4 _) hb
  have hI5 := Lib.hid ((hI4.out.below a4).below hb)
  have V5 := Lib.hid ((V4.out.below a4).below hb)
  have W5 := Lib.hid ((W4.out.below a4).below hb)
  have hT5 := Lib.hid ((hT4.out.below a4).below hb)
  have hG5 := Lib.hid ((hG4.out.below a4).below hb)
  have hM5 := Lib.hid ((hM4.out.below a4).below hb)
  obtain ⟨ka5, kb5, kc5⟩ := K4.below hb
  obtain ⟨x5, k5, rfl, -, -⟩ := own_form ho5
  have U5 := Lib.hid (Rd.of_own ho5)
  clear hb ho5 a4 K4 hI4 V4 W4 hT4 hG4 hM4 B4
  go_wp2_with fail
  refine (sGW_x y4 g4 t4 cy4 cg4 ct4 T v L M _ hT5.out hG5.out hM5.out hct htn.out).mono ?_
  rintro e w6 ⟨u6, rfl, ho6, hb⟩
  have B6 := Below.via' B5 hb
  have hI6 := Lib.hid (hI5.out.below hb)
  have V6 := Lib.hid (V5.out.below hb)
  have W6 := Lib.hid (W5.out.below hb)
  have hT6 := Lib.hid (hT5.out.below hb)
  have hG6 := Lib.hid (hG5.out.below hb)
  have U6 := Lib.hid (U5.out.below hb)
  have K6 := Lib.hid (GB.below ⟨ka5, kb5, kc5⟩ hb)
  obtain ⟨x6, k6, rfl, -, -⟩ := own_form ho6
  have Z6 := Lib.hid (Rd.of_own ho6)
  clear hb ho6 ka5 kb5 kc5 hI5 V5 W5 hT5 hG5 hM5 U5 B5
  go_wp2_with fail
  refine (qInts_any _ _ _ _ (caL S i) _ (by omega) V6.out W6.out).mono ?_
  rintro e w7 ⟨rfl, hb⟩
  have B7 := Below.via' B6 hb
  have hI7 := Lib.hid (hI6.out.below hb)
  have V7 := Lib.hid (V6.out.below hb)
  have hT7 := Lib.hid (hT6.out.below hb)
  have hG7 := Lib.hid (hG6.out.below hb)
  have U7 := Lib.hid (U6.out.below hb)
  have Z7 := Lib.hid (Z6.out.below hb)
  have K7 := Lib.hid (K6.out.below hb)
  clear hb hI6 V6 W6 hT6 hG6 U6 Z6 K6 B6
  go_wp2_with fail
  refine (qInts_any _ _ _ _ (gwL T v L M) _ (by omega) U7.out Z7.out).mono ?_
  rintro e w8 ⟨rfl, hb⟩
  have B8 := Below.via' B7 hb
  have hI8 := Lib.hid (hI7.out.below hb)
  have V8 := Lib.hid (V7.out.below hb)
  have hT8 := Lib.hid (hT7.out.below hb)
  have hG8 := Lib.hid (hG7.out.below hb)
  have U8 := Lib.hid (U7.out.below hb)
  have K8 := Lib.hid (K7.out.below hb)
  clear hb hI7 V7 hT7 hG7 U7 Z7 K7 B7
  cases hone : gwB T v L M
  · all_goals
    cases hok : caB S i
    · go_wp2_with fail
      go_ret
      exact ⟨rfl, B8⟩
    · obtain ⟨hs, h0, hlt⟩ := ca_open hok
      replace hs := Lib.hid hs
      go_wp2_with fail
      refine (ci_atC z x2' cz k2 S i _ hok hI8.out V8.out).mono ?_
      rintro e w11 ⟨rfl, hb⟩
      have B11 := Below.via' B8 hb
      have hI11 := Lib.hid (hI8.out.below hb)
      have V11 := Lib.hid (V8.out.below hb)
      clear hb
      go_wp2_with fail
      refine (cc_yes z cz S _ hs.out hI11.out).mono ?_
      rintro e w12 ⟨rfl, hb⟩
      have B12 := Below.via' B11 hb
      have hI12 := Lib.hid (hI11.out.below hb)
      have V12 := Lib.hid (V11.out.below hb)
      clear hb B11 hI11 V11
      go_wp2_with fail
      refine (st_yes z cz S _ hs.out hI12.out).mono ?_
      rintro e w13 ⟨rfl, hb⟩
      have B13 := Below.via' B12 hb
      have hI13 := Lib.hid (hI12.out.below hb)
      have V13 := Lib.hid (V12.out.below hb)
      clear hb B12 hI12 V12
      go_wp2_with fail
      refine (ps_yes S _ hs.out (hL.out.below B13)).mono ?_
      rintro e w14 ⟨g14, c14, rfl, hP, hb⟩
      have B14 := Below.via' B13 hb
      have hI14 := Lib.hid (hI13.out.below hb)
      have V14 := Lib.hid (V13.out.below hb)
      replace hP := Lib.hid hP
      clear hb B13 hI13 V13
      go_wp2_with fail
      refine (vd_zeroC z x2' cz k2 S i _ hok hI14.out V14.out).mono ?_
      rintro e w15 ⟨rfl, hb⟩
      have B15 := Below.via' B14 hb
      have hI15 := Lib.hid (hI14.out.below hb)
      have P15 := Lib.hid (hP.out.below hb)
      clear hb B14 hI14 V14 hP
      go_wp2_with fail
      refine (qSchema_any _ _ _ _ S _ hI15.out.1 P15.out hI15.out.rd).mono ?_
      rintro e w16 ⟨rfl, hb⟩
      have B16 := Below.via' B15 hb
      clear hb
      go_wp2_with fail
      go_ret
      exact ⟨rfl, B16⟩
  · obtain ⟨hsT, hgv, hig, hft⟩ := gw_fits hone
    have hsG := Lib.hid (gs_schema hsT hgv)
    obtain ⟨ka8, kb8, kc8⟩ := K8.out
    replace hsT := Lib.hid hsT
    replace hgv := Lib.hid hgv
    replace hig := Lib.hid hig
    replace hft := Lib.hid hft
    go_wp2_with fail
    refine (gs_yesC y4 g4 cy4 cg4 T v L _ hig.out hT8.out hG8.out hyn.out).mono ?_
    rintro e w9 ⟨u9, rfl, ho9, hb⟩
    have B9 := Below.via' B8 hb
    have hI9 := Lib.hid (hI8.out.below hb)
    have V9 := Lib.hid (V8.out.below hb)
    have U9 := Lib.hid (U8.out.below hb)
    obtain ⟨x9, k9, rfl, hk9, -⟩ := own_form ho9
    have hX9 := Lib.hid (sch_sin hsG.out hk9 (Rd.of_own ho9))
    clear hb ho9 ka8 kb8 kc8 K8 hI8 V8 hT8 hG8 U8 B8
    go_wp2_with fail
    refine (ci_fit x9 x5 k9 k5 (gsL T v L) (gwL T v L M) _ hsG.out hft.out hX9.out ⟨by omega, fit_i64 hsG.out hft.out, U9.out⟩).mono ?_
    rintro e w10 ⟨⟨n10, rfl⟩, hb⟩
    have B10 := Below.via' B9 hb
    have hI10 := Lib.hid (hI9.out.below hb)
    have V10 := Lib.hid (V9.out.below hb)
    clear hb hI9 V9 U9 hX9 B9
    cases hok : caB S i
    · go_wp2_with fail
      go_ret
      exact ⟨rfl, B10⟩
    · obtain ⟨hs, h0, hlt⟩ := ca_open hok
      replace hs := Lib.hid hs
      go_wp2_with fail
      refine (ci_atC z x2' cz k2 S i _ hok hI10.out V10.out).mono ?_
      rintro e w11 ⟨rfl, hb⟩
      have B11 := Below.via' B10 hb
      have hI11 := Lib.hid (hI10.out.below hb)
      have V11 := Lib.hid (V10.out.below hb)
      clear hb
      go_wp2_with fail
      refine (cc_yes z cz S _ hs.out hI11.out).mono ?_
      rintro e w12 ⟨rfl, hb⟩
      have B12 := Below.via' B11 hb
      have hI12 := Lib.hid (hI11.out.below hb)
      have V12 := Lib.hid (V11.out.below hb)
      clear hb B11 hI11 V11
      go_wp2_with fail
      refine (st_yes z cz S _ hs.out hI12.out).mono ?_
      rintro e w13 ⟨rfl, hb⟩
      have B13 := Below.via' B12 hb
      have hI13 := Lib.hid (hI12.out.below hb)
      have V13 := Lib.hid (V12.out.below hb)
      clear hb B12 hI12 V12
      go_wp2_with fail
      refine (ps_yes S _ hs.out (hL.out.below B13)).mono ?_
      rintro e w14 ⟨g14, c14, rfl, hP, hb⟩
      have B14 := Below.via' B13 hb
      have hI14 := Lib.hid (hI13.out.below hb)
      have V14 := Lib.hid (V13.out.below hb)
      replace hP := Lib.hid hP
      clear hb B13 hI13 V13
      go_wp2_with fail
      refine (vd_zeroC z x2' cz k2 S i _ hok hI14.out V14.out).mono ?_
      rintro e w15 ⟨rfl, hb⟩
      have B15 := Below.via' B14 hb
      have hI15 := Lib.hid (hI14.out.below hb)
      have P15 := Lib.hid (hP.out.below hb)
      clear hb B14 hI14 V14 hP
      go_wp2_with fail
      refine (qSchema_any _ _ _ _ S _ hI15.out.1 P15.out hI15.out.rd).mono ?_
      rintro e w16 ⟨rfl, hb⟩
      have B16 := Below.via' B15 hb
      clear hb
      go_wp2_with fail
      go_ret
      exact ⟨rfl, B16⟩

set_option maxRecDepth 100000 in
theorem fnSchemas_lifted (os : Os) (started : os.Started) (H : Type) (enc : TypeId × Value → H) :
    ReturnsInHanded {} Tryz.checked os 3 .any (fun w args => (Rows.fnSchemasSpec.pre enc Tryz.prog Tryz.f3 [] false w args ∧ laidMetH Tryz.prog Rows.fnSchemasRow.laid w) ∧ sizedMet enc Tryz.prog Tryz.f3 (OpenSpec.ofChange Rows.fnSchemasSpec) false w args)
      (Rows.fnSchemasSpec.post enc Tryz.prog Tryz.f3 false true false false) := by
  refine handed_and_shape (C := Tryz.checked) (X := fun w _ => laidMetH Tryz.prog Rows.fnSchemasRow.laid w) (fun _ _ _ hh h => h.of_heap hh) own started (by kernel_rfl) Tryz.func3
    (ChangeSpec.witness_shaped (enc := enc) (C := Tryz.checked) (os := os) (X := fun w _ => laidMetH Tryz.prog Rows.fnSchemasRow.laid w) false (World.laidAll Tryz.prog os Rows.fnSchemasRow.laid) #[.slice none 0 0, .slice none 0 0] 8 (World.laidAll_os _ _ _) (World.shaped_of_ZipB (by kernel_rfl) (by kernel_rfl)) (by kernel_rfl) (by kernel_rfl) (by kernel_rfl) (by rw [MakeChecks.laidMetH_plain _ _ _ (by kernel_rfl)]; exact laidMet_laidAll _ (by kernel_rfl) (by kernel_rfl))) ?_
  intro W base args ds gs before hval0 hW hwt hL hshape
  have hval : ∀ (j : Nat) t v, Tryz.f3.params[j]? = some t → args[j]? = some v → Value.okWide Tryz.prog W .any base t v := hval0
  have hW' := hW
  obtain ⟨p, q, hA0, hV, rfl, hfz, hnd⟩ := hW
  have hA : DataW.TrodAll enc Tryz.prog W 0 (fun _ => true) true Tryz.f3.params.toList args.toList ds p := hA0
  rw [Tryz.params3] at hA hval
  rw [MakeChecks.laidMetH_plain _ _ _ (by kernel_rfl)] at hL
  have hLr := laidMet.tail (laidMet.tail (laidMet.tail (laidMet.tail hL)))
  have hLV := libV_of hLr (laidMet.tail hLr) hshape
  obtain ⟨v0, v1, d0, d1, p0, p1, rfl, rfl, rfl, h0, h1⟩ := trodAll_two hA
  have hb8 : Tryz.checked.prog.bytesOf 5 = 1 := by kernel_rfl
  have hw0 : ∀ elems spare, d0 = .slice elems spare → elems.length ≤ 140737488355327 := fun elems spare e => by
    have h1 := sized_slice hwt (j := 0) rfl (by rw [e]; rfl) Tryz.underlying22
    have h2 := reachBytes_lt
    rw [hb8] at h1
    omega
  have hw1 : ∀ elems spare, d1 = .slice elems spare → elems.length ≤ 140737488355327 := fun elems spare e => by
    have h1 := sized_slice hwt (j := 1) rfl (by rw [e]; rfl) Tryz.underlying22
    have h2 := reachBytes_lt
    rw [hb8] at h1
    omega
  obtain ⟨x1, n1, c1, rfl, hl1, hB1⟩ := open_byS (hval 0 _ _ rfl rfl) h0 hw0
  obtain ⟨x2, n2, c2, rfl, hl2, hB2⟩ := open_byS (hval 1 _ _ rfl rfl) h1 hw1
  refine (fnSchemas_any x1 x2 n1 c1 n2 c2 W hLV hB1 hB2 hl1 hl2).mono fun e W' ⟨he, hb⟩ => ?_
  subst he
  obtain ⟨rfl, rfl⟩ := trodVars_none hV
  exact ⟨_, rfl, law_post laidOut (by kernel_rfl) (by kernel_rfl) rfl Tryz.underlying4 (fun _ _ _ _ => rfl) hW' hb⟩

theorem fnSchemas_row : Rows.FnSchemasSaid :=
  OpenClaim.holds_of_wide 3 Tryz.f3 rfl rfl rfl rfl rfl rfl rfl ⟨rfl, rfl, rfl, rfl, rfl⟩ rfl rfl rfl rfl rfl (by kernel_rfl) Tryz.func3 (by kernel_rfl)
    (of_decide_eq_true (by kernel_rfl)) (by unfold Func.isWrapper; first | (rw [if_pos (by decide +kernel)]; kernel_rfl) | (rw [if_neg (by decide +kernel)]; exact ⟨rfl, rfl⟩))
    (fun os started H enc _ => fnSchemas_lifted os started H enc)

theorem fnSchemas_holds : Rows.FnSchemasCardSaid :=
  Claim7.holds_tied_plain_at .later [] _ true _ _
    fnSchemas_row (fun _ h => by cases h) (by kernel_rfl) (fun _ h => by cases h) fnSchemas_row_tie rfl ⟨rfl, rfl⟩ (by kernel_rfl) rfl
    (fun f fn hf hfn => by
      obtain rfl : f = 3 := Option.some.inj ((show Tryz.prog.funcNamed "loop.example/g00908/laws.FnSchemas" = some 3 by kernel_rfl).symm.trans hf) |>.symm
      obtain rfl : fn = Tryz.f3 := (Option.some.inj (Tryz.func3.symm.trans hfn)).symm
      exact ⟨by kernel_rfl, fun j t ht => by
        have hm : t ∈ Tryz.f3.params.toList := Array.mem_toList_iff.2 (Array.mem_of_getElem? ht)
        have hall : (Tryz.f3.params.toList.all fun u => !Tryz.prog.wantsStandIn u) = true := by kernel_rfl
        exact (show Tryz.prog.wantsStandIn t = false by simpa using List.all_eq_true.1 hall t hm)⟩)
    (by kernel_rfl)

end Go.Proofs.YtcmfoclalcmamabGreatDoor
