import Derived.Test.YtpmbenedeakieaaPqT
import Derived.Test.YtpmbenedeakieaaPqG
import Derived.Deep.MidRow
import Derived.Deep.RegionHeld
namespace Go.Proofs.Ytpmbenedeakieaa
open Go.RowKit
set_option maxRecDepth 100000

set_option maxHeartbeats 2000000 in
theorem gcount_any (p y z g v : Option Addr) (n c k2 c2 k3 c3 c4 c5 : Nat) (l m : Int) (A : List Int) (S : List (ByteArray × Int)) (w : World) (hs : PtS S) (hA : A.length ≤ 30) (hS : Rd w v (vC S)) :
    Calls Try.prog 76 #[.agg #[.slice p n c, .int .i64 l, .slice y k2 c2, .slice z k3 c3, .int .i64 m, .slice g A.length c4, .slice v S.length c5]] w fun e w' => e = .returned (.int .i64 ((A.length : Int) * cnZ S)) ∧ Below w.heap.size w w' := by
  have hc := pt_cn hs
  have q0 : 0 ≤ (A.length : Int) * cnZ S ∧ (A.length : Int) * cnZ S ≤ 30 * 262144 := ⟨Int.mul_nonneg (by omega) (by omega), Int.mul_le_mul (by omega) hc.2 (by omega) (by omega)⟩
  have q1 : IntKind.i64.wrap ((A.length : Int) * cnZ S) = (A.length : Int) * cnZ S := IntWalk.i64_in _ (by omega)
  have hSh := Lib.hid hS
  have hsh := Lib.hid hs
  clear hS hs q0
  go_enter Try.func76, Try.ntmps76
  go_wp2
  go_region_held3 (fun w' => Below ((w.alloc (.cells #[.slice p n c, .int .i64 l, .slice y k2 c2, .slice z k3 c3, .int .i64 m, .slice g A.length c4, .slice v S.length c5] 104))).heap.size ((w.alloc (.cells #[.slice p n c, .int .i64 l, .slice y k2 c2, .slice z k3 c3, .int .i64 m, .slice g A.length c4, .slice v S.length c5] 104))) w' ∧ (∀ b o, b < ((w.alloc (.cells #[.slice p n c, .int .i64 l, .slice y k2 c2, .slice z k3 c3, .int .i64 m, .slice g A.length c4, .slice v S.length c5] 104))).heap.size → w'.cell? ⟨b, o, none⟩ = ((w.alloc (.cells #[.slice p n c, .int .i64 l, .slice y k2 c2, .slice z k3 c3, .int .i64 m, .slice g A.length c4, .slice v S.length c5] 104))).cell? ⟨b, o, none⟩)) (first | exact keep_of (Below.refl _ _) | ((try go_split_ands); exact keep_of (by repeat (first | exact Below.refl _ _ | assumption | refine Below.drew ?_ | refine below_drewN ?_ _ | refine Below.alloc' ?_ _ | (refine Below.setCell ?_ (by first | omega | (simp; done) | (simp; omega) | exact Below.size (by assumption) | exact Nat.le_trans (Below.size (by assumption)) (by simp)) _) | (refine Below.via' ?_ (by assumption)) | (refine Below.alloc ?_ (by first | omega | (simp; done) | (simp; omega) | exact Below.size (by assumption) | exact Nat.le_trans (Below.size (by assumption)) (by simp)) _) | (refine Below.via ?_ (by assumption) (by first | omega | (simp; done) | (simp; omega) | exact Below.size (by assumption) | exact Nat.le_trans (Below.size (by assumption)) (by simp))))))) ((go_at_call 122; refine (countComb_p _ _ S _ hsh.out (hSh.out.below (by exact (by repeat (first | exact Below.refl _ _ | assumption | refine Below.drew ?_ | refine below_drewN ?_ _ | refine Below.alloc' ?_ _ | (refine Below.setCell ?_ (by first | omega | (simp; done) | (simp; omega) | exact Below.size (by assumption) | exact Nat.le_trans (Below.size (by assumption)) (by simp)) _) | (refine Below.via' ?_ (by assumption)) | (refine Below.alloc ?_ (by first | omega | (simp; done) | (simp; omega) | exact Below.size (by assumption) | exact Nat.le_trans (Below.size (by assumption)) (by simp)) _) | (refine Below.via ?_ (by assumption) (by first | omega | (simp; done) | (simp; omega) | exact Below.size (by assumption) | exact Nat.le_trans (Below.size (by assumption)) (by simp)))))))).mono ?_; rintro e w1 ⟨rfl, hb1⟩)); rename_i hH; obtain ⟨hb1, hcl1⟩ := hH; have hz1 := hb1.size; (try simp at hz1); (try (have hly1 := Nat.lt_of_succ_le hz1)); (try (have hlx1 := Nat.lt_of_succ_lt hly1)); (try (have hlw1 := Nat.lt_of_succ_lt hlx1)); (try (have hle1 := Nat.le_of_lt hly1)); (try (have hya1 : w.heap.size < w1.heap.size := by omega)); (try (have hyb1 : w.heap.size + 1 < w1.heap.size := by omega)); (try (have hyc1 : w.heap.size + 1 + 1 < w1.heap.size := by omega)); (try (have hyd1 : wa.heap.size < w1.heap.size := by omega))
  go_wp2
  go_ret
  exact ⟨rfl, (by repeat (first | exact Below.refl _ _ | assumption | refine Below.drew ?_ | refine below_drewN ?_ _ | refine Below.alloc' ?_ _ | (refine Below.setCell ?_ (by first | omega | (simp; done) | (simp; omega) | exact Below.size (by assumption) | exact Nat.le_trans (Below.size (by assumption)) (by simp)) _) | (refine Below.via' ?_ (by assumption)) | (refine Below.alloc ?_ (by first | omega | (simp; done) | (simp; omega) | exact Below.size (by assumption) | exact Nat.le_trans (Below.size (by assumption)) (by simp)) _) | (refine Below.via ?_ (by assumption) (by first | omega | (simp; done) | (simp; omega) | exact Below.size (by assumption) | exact Nat.le_trans (Below.size (by assumption)) (by simp)))))⟩

set_option maxHeartbeats 4000000 in
theorem uCount_any (p y x z : Option Addr) (c c1 c2 c3 : Nat) (P : List Int) (S : List (ByteArray × Int)) (l m : Int) (F W : List Int) (w : World) (hg : geB P = true) (hs : schB S = true) (hr : rsB S F = true) (hP : IIn w p P) (hS : SIn w y c1 S) (hF : IIn w x F) :
    Calls Try.prog 70 #[.agg #[.slice p P.length c], .slice y S.length c1, .agg #[.int .i64 l, .slice x F.length c2, .slice z W.length c3, .int .i64 m]] w fun e w' => e = .returned (.int .i64 (tcZ P S l F)) ∧ Below w.heap.size w w' := by
  have hb := tc_bd (l := l) hg hs hr
  have q1 : IntKind.i64.wrap (((lvL P l).length : Int) * cnZ (tbS S F)) = ((lvL P l).length : Int) * cnZ (tbS S F) := IntWalk.i64_in _ (by unfold tcZ at hb; omega)
  have hpt := Lib.hid (tbS_ok hs hr)
  have hip := Lib.hid (inP_of hs hr rfl)
  have hPh := Lib.hid hP
  have hSh := Lib.hid hS.rd
  have hFh := Lib.hid hF
  have hgh := Lib.hid hg
  clear hP hS hF hs hg hb
  have p1 := Lib.hid (QB.new w p P.length c 33)
  have p2 := Lib.hid (TQ.new (w.alloc (.cells #[.slice p P.length c] 33)) l x F.length c2 z W.length c3 m 37)
  obtain ⟨w0, hw0⟩ : ∃ w0, w0 = (w.alloc (.cells #[.slice p P.length c] 33)).alloc (.cells #[.int .i64 l, .slice x F.length c2, .slice z W.length c3, .int .i64 m] 37) := ⟨_, rfl⟩
  have B0 : Below w.heap.size w w0 := by rw [hw0]; exact (by repeat (first | exact Below.refl _ _ | assumption | refine Below.drew ?_ | refine below_drewN ?_ _ | refine Below.alloc' ?_ _ | (refine Below.setCell ?_ (by first | omega | (simp; done) | (simp; omega) | exact Below.size (by assumption) | exact Nat.le_trans (Below.size (by assumption)) (by simp)) _) | (refine Below.via' ?_ (by assumption)) | (refine Below.alloc ?_ (by first | omega | (simp; done) | (simp; omega) | exact Below.size (by assumption) | exact Nat.le_trans (Below.size (by assumption)) (by simp)) _) | (refine Below.via ?_ (by assumption) (by first | omega | (simp; done) | (simp; omega) | exact Below.size (by assumption) | exact Nat.le_trans (Below.size (by assumption)) (by simp)))))
  have g0 : Hid (QB w0 w.heap.size p P.length c) := by
    rw [hw0]
    exact p1.out.below (show Below (w.alloc (.cells #[.slice p P.length c] 33)).heap.size (w.alloc (.cells #[.slice p P.length c] 33)) _ from (by repeat (first | exact Below.refl _ _ | assumption | refine Below.drew ?_ | refine below_drewN ?_ _ | refine Below.alloc' ?_ _ | (refine Below.setCell ?_ (by first | omega | (simp; done) | (simp; omega) | exact Below.size (by assumption) | exact Nat.le_trans (Below.size (by assumption)) (by simp)) _) | (refine Below.via' ?_ (by assumption)) | (refine Below.alloc ?_ (by first | omega | (simp; done) | (simp; omega) | exact Below.size (by assumption) | exact Nat.le_trans (Below.size (by assumption)) (by simp)) _) | (refine Below.via ?_ (by assumption) (by first | omega | (simp; done) | (simp; omega) | exact Below.size (by assumption) | exact Nat.le_trans (Below.size (by assumption)) (by simp))))))
  have t0 : Hid (TQ w0 (w.heap.size + 1) l x F.length c2 z W.length c3 m) := by
    have h0 := p2.out
    rw [World.size_alloc, ← hw0] at h0
    exact h0
  have z0 : w0.heap.size = w.heap.size + 1 + 1 := by rw [hw0]; simp
  clear p1 p2
  go_enter Try.func70, Try.ntmps70
  go_wp2
  rw [← hw0]
  replace hw0 := Lib.hid hw0
  replace z0 := Lib.hid z0
  obtain ⟨ka, kb, kc⟩ := g0.out
  obtain ⟨ta, tb, tc, td, te⟩ := t0.out
  go_region_held3 (fun w' => Below (w0).heap.size (w0) w' ∧ (∀ b o, b < (w0).heap.size → w'.cell? ⟨b, o, none⟩ = (w0).cell? ⟨b, o, none⟩)) (first | exact keep_of (Below.refl _ _) | ((try go_split_ands); exact keep_of (by repeat (first | exact Below.refl _ _ | assumption | refine Below.drew ?_ | refine below_drewN ?_ _ | refine Below.alloc' ?_ _ | (refine Below.setCell ?_ (by first | omega | (simp; done) | (simp; omega) | exact Below.size (by assumption) | exact Nat.le_trans (Below.size (by assumption)) (by simp)) _) | (refine Below.via' ?_ (by assumption)) | (refine Below.alloc ?_ (by first | omega | (simp; done) | (simp; omega) | exact Below.size (by assumption) | exact Nat.le_trans (Below.size (by assumption)) (by simp)) _) | (refine Below.via ?_ (by assumption) (by first | omega | (simp; done) | (simp; omega) | exact Below.size (by assumption) | exact Nat.le_trans (Below.size (by assumption)) (by simp))))))) (first | (go_at_call 73; refine (gLevel_any _ _ P l _ hgh.out (hPh.out.below (by exact (by repeat (first | exact Below.refl _ _ | assumption | refine Below.drew ?_ | refine below_drewN ?_ _ | refine Below.alloc' ?_ _ | (refine Below.setCell ?_ (by first | omega | (simp; done) | (simp; omega) | exact Below.size (by assumption) | exact Nat.le_trans (Below.size (by assumption)) (by simp)) _) | (refine Below.via' ?_ (by assumption)) | (refine Below.alloc ?_ (by first | omega | (simp; done) | (simp; omega) | exact Below.size (by assumption) | exact Nat.le_trans (Below.size (by assumption)) (by simp)) _) | (refine Below.via ?_ (by assumption) (by first | omega | (simp; done) | (simp; omega) | exact Below.size (by assumption) | exact Nat.le_trans (Below.size (by assumption)) (by simp)))))))).mono ?_; rintro e w1 ⟨v1, rfl, ho1, hb1⟩; obtain ⟨x1, n1, rfl, -, -⟩ := (OwR.of ho1).form; clear ho1) | (go_at_call 71; refine (sPart_any _ _ _ _ S F _ hip.out (hSh.out.below (by exact (by repeat (first | exact Below.refl _ _ | assumption | refine Below.drew ?_ | refine below_drewN ?_ _ | refine Below.alloc' ?_ _ | (refine Below.setCell ?_ (by first | omega | (simp; done) | (simp; omega) | exact Below.size (by assumption) | exact Nat.le_trans (Below.size (by assumption)) (by simp)) _) | (refine Below.via' ?_ (by assumption)) | (refine Below.alloc ?_ (by first | omega | (simp; done) | (simp; omega) | exact Below.size (by assumption) | exact Nat.le_trans (Below.size (by assumption)) (by simp)) _) | (refine Below.via ?_ (by assumption) (by first | omega | (simp; done) | (simp; omega) | exact Below.size (by assumption) | exact Nat.le_trans (Below.size (by assumption)) (by simp))))))) (hFh.out.2.2.below (by exact (by repeat (first | exact Below.refl _ _ | assumption | refine Below.drew ?_ | refine below_drewN ?_ _ | refine Below.alloc' ?_ _ | (refine Below.setCell ?_ (by first | omega | (simp; done) | (simp; omega) | exact Below.size (by assumption) | exact Nat.le_trans (Below.size (by assumption)) (by simp)) _) | (refine Below.via' ?_ (by assumption)) | (refine Below.alloc ?_ (by first | omega | (simp; done) | (simp; omega) | exact Below.size (by assumption) | exact Nat.le_trans (Below.size (by assumption)) (by simp)) _) | (refine Below.via ?_ (by assumption) (by first | omega | (simp; done) | (simp; omega) | exact Below.size (by assumption) | exact Nat.le_trans (Below.size (by assumption)) (by simp)))))))).mono ?_; rintro e w2 ⟨v2, rfl, ho2, hb2⟩; obtain ⟨x2, n2, rfl, -, -⟩ := (OwR.of ho2).form; (have hr2 := Lib.hid (Rd.of_own ho2)); clear ho2) | (go_at_call 72; refine (sCount_p _ _ (tbS S F) _ hpt.out (hr2.out.below (by exact (by repeat (first | exact Below.refl _ _ | assumption | refine Below.drew ?_ | refine below_drewN ?_ _ | refine Below.alloc' ?_ _ | (refine Below.setCell ?_ (by first | omega | (simp; done) | (simp; omega) | exact Below.size (by assumption) | exact Nat.le_trans (Below.size (by assumption)) (by simp)) _) | (refine Below.via' ?_ (by assumption)) | (refine Below.alloc ?_ (by first | omega | (simp; done) | (simp; omega) | exact Below.size (by assumption) | exact Nat.le_trans (Below.size (by assumption)) (by simp)) _) | (refine Below.via ?_ (by assumption) (by first | omega | (simp; done) | (simp; omega) | exact Below.size (by assumption) | exact Nat.le_trans (Below.size (by assumption)) (by simp)))))))).mono ?_; rintro e w3 ⟨rfl, hb3⟩)); rename_i hH; obtain ⟨hb3, hcl3⟩ := hH; have hz3 := hb3.size; (try simp at hz3); (try (have hly3 := Nat.lt_of_succ_le hz3)); (try (have hlx3 := Nat.lt_of_succ_lt hly3)); (try (have hlw3 := Nat.lt_of_succ_lt hlx3)); (try (have hle3 := Nat.le_of_lt hly3)); (try (have hya3 : w.heap.size < w3.heap.size := by omega)); (try (have hyb3 : w.heap.size + 1 < w3.heap.size := by omega)); (try (have hyc3 : w.heap.size + 1 + 1 < w3.heap.size := by omega)); (try (have hyd3 : wa.heap.size < w3.heap.size := by omega))
  go_wp2
  go_ret
  exact ⟨rfl, Below.via' B0 (by assumption)⟩
end Go.Proofs.Ytpmbenedeakieaa

namespace Go.Proofs.Ytpmbenedeakieaa
open Go.RowKit
set_option maxRecDepth 100000

set_option maxHeartbeats 4000000 in
theorem uGood_any (p y x z : Option Addr) (c c1 c2 c3 : Nat) (P : List Int) (S : List (ByteArray × Int)) (l m : Int) (F W : List Int) (w : World) (hP : IIn w p P) (hS : SIn w y c1 S) (hT : TIn w x z F W) :
    Calls Try.prog 62 #[.agg #[.slice p P.length c], .slice y S.length c1, .agg #[.int .i64 l, .slice x F.length c2, .slice z W.length c3, .int .i64 m]] w fun e w' => e = .returned (.bool (tgB P S l F W m)) ∧ Below w.heap.size w w' := by
  have hm := hS.1
  have hPh := Lib.hid hP
  have hSh := Lib.hid hS
  have hFh := Lib.hid hT.1
  have hWh := Lib.hid hT.2
  clear hP hS hT
  have p1 := Lib.hid (QB.new w p P.length c 33)
  have p2 := Lib.hid (TQ.new (w.alloc (.cells #[.slice p P.length c] 33)) l x F.length c2 z W.length c3 m 37)
  obtain ⟨w0, hw0⟩ : ∃ w0, w0 = (w.alloc (.cells #[.slice p P.length c] 33)).alloc (.cells #[.int .i64 l, .slice x F.length c2, .slice z W.length c3, .int .i64 m] 37) := ⟨_, rfl⟩
  have B0 : Below w.heap.size w w0 := by rw [hw0]; exact (by repeat (first | exact Below.refl _ _ | assumption | refine Below.drew ?_ | refine below_drewN ?_ _ | refine Below.alloc' ?_ _ | (refine Below.setCell ?_ (by first | omega | (simp; done) | (simp; omega) | exact Below.size (by assumption) | exact Nat.le_trans (Below.size (by assumption)) (by simp)) _) | (refine Below.via' ?_ (by assumption)) | (refine Below.alloc ?_ (by first | omega | (simp; done) | (simp; omega) | exact Below.size (by assumption) | exact Nat.le_trans (Below.size (by assumption)) (by simp)) _) | (refine Below.via ?_ (by assumption) (by first | omega | (simp; done) | (simp; omega) | exact Below.size (by assumption) | exact Nat.le_trans (Below.size (by assumption)) (by simp)))))
  have g0 : Hid (QB w0 w.heap.size p P.length c) := by
    rw [hw0]
    exact p1.out.below (show Below (w.alloc (.cells #[.slice p P.length c] 33)).heap.size (w.alloc (.cells #[.slice p P.length c] 33)) _ from (by repeat (first | exact Below.refl _ _ | assumption | refine Below.drew ?_ | refine below_drewN ?_ _ | refine Below.alloc' ?_ _ | (refine Below.setCell ?_ (by first | omega | (simp; done) | (simp; omega) | exact Below.size (by assumption) | exact Nat.le_trans (Below.size (by assumption)) (by simp)) _) | (refine Below.via' ?_ (by assumption)) | (refine Below.alloc ?_ (by first | omega | (simp; done) | (simp; omega) | exact Below.size (by assumption) | exact Nat.le_trans (Below.size (by assumption)) (by simp)) _) | (refine Below.via ?_ (by assumption) (by first | omega | (simp; done) | (simp; omega) | exact Below.size (by assumption) | exact Nat.le_trans (Below.size (by assumption)) (by simp))))))
  have t0 : Hid (TQ w0 (w.heap.size + 1) l x F.length c2 z W.length c3 m) := by
    have h0 := p2.out
    rw [World.size_alloc, ← hw0] at h0
    exact h0
  have z0 : w0.heap.size = w.heap.size + 1 + 1 := by rw [hw0]; simp
  clear p1 p2
  go_enter Try.func62, Try.ntmps62
  go_wp2_with fail
  rw [← hw0]
  replace hw0 := Lib.hid hw0
  replace z0 := Lib.hid z0
  refine (gGood_any _ _ P _ (hPh.out.below B0)).mono ?_
  rintro e w1 ⟨rfl, hb1⟩
  have B1 : Below w.heap.size w w1 := Below.via' B0 hb1
  have g1 := Lib.hid (g0.out.below hb1)
  have t1 := Lib.hid (t0.out.below hb1)
  obtain ⟨ka1, kb1, kc1⟩ := g1.out
  obtain ⟨ta1, tb1, tc1, td1, te1⟩ := t1.out
  try clear ka0 kb0 kc0 ta0 tb0 tc0 td0 te0
  clear hb1
  cases hg : geB P
  · skip
    go_wp2
    go_ret
    exact ⟨ret_bool (tg_no (fun h => by rw [h.g] at hg; cases hg)).symm, B1⟩
  have hgh := Lib.hid hg
  clear hg
  go_wp2_with fail
  refine (sGood_x _ _ _ _ (hSh.out.below B1)).mono ?_
  rintro e w2 ⟨rfl, hb2⟩
  have B2 : Below w.heap.size w w2 := Below.via' B1 hb2
  have g2 := Lib.hid (g1.out.below hb2)
  have t2 := Lib.hid (t1.out.below hb2)
  obtain ⟨ka2, kb2, kc2⟩ := g2.out
  obtain ⟨ta2, tb2, tc2, td2, te2⟩ := t2.out
  try clear ka1 kb1 kc1 ta1 tb1 tc1 td1 te1
  clear hb2
  cases hs : schB S
  · skip
    go_wp2
    go_ret
    exact ⟨ret_bool (tg_no (fun h => by rw [h.s] at hs; cases hs)).symm, B2⟩
  have hsh := Lib.hid hs
  have h6 := (schB_len hs).2
  clear hs
  go_wp2_with fail
  refine (gLevel_any _ _ P l _ hgh.out (hPh.out.below B2)).mono ?_
  rintro e w3 ⟨v3, rfl, ho3, hb3⟩
  obtain ⟨x3, n3, rfl, -, -⟩ := (OwR.of ho3).form
  have B3 : Below w.heap.size w w3 := Below.via' B2 hb3
  have g3 := Lib.hid (g2.out.below hb3)
  have t3 := Lib.hid (t2.out.below hb3)
  obtain ⟨ka3, kb3, kc3⟩ := g3.out
  obtain ⟨ta3, tb3, tc3, td3, te3⟩ := t3.out
  clear ka2 kb2 kc2 ta2 tb2 tc2 td2 te2 hb3 ho3
  by_cases hv0 : (lvL P l).length = 0
  · have hv1 : (((lvL P l).length : Int) == 0) = true := by rw [beq_iff_eq]; omega
    replace hv0 := Lib.hid hv0
    go_wp2
    go_ret
    exact ⟨ret_bool (tg_no (fun h => by have := h.v; have := hv0.out; omega)).symm, B3⟩
  have hv1 : (((lvL P l).length : Int) == 0) = false := by rw [beq_eq_false_iff_ne]; omega
  replace hv0 := Lib.hid hv0
  go_wp2_with fail
  refine (l1Rising_any _ _ S F _ hm (hFh.out.below B3)).mono ?_
  rintro e w4 ⟨rfl, hb4⟩
  have B4 : Below w.heap.size w w4 := Below.via' B3 hb4
  have g4 := Lib.hid (g3.out.below hb4)
  have t4 := Lib.hid (t3.out.below hb4)
  obtain ⟨ka4, kb4, kc4⟩ := g4.out
  obtain ⟨ta4, tb4, tc4, td4, te4⟩ := t4.out
  try clear ka3 kb3 kc3 ta3 tb3 tc3 td3 te3
  clear hb4
  clear hv1
  cases hr : rsB S F
  · skip
    go_wp2
    go_ret
    exact ⟨ret_bool (tg_no (fun h => by rw [h.r] at hr; cases hr)).symm, B4⟩
  have hrh := Lib.hid hr
  clear hr
  go_wp2_with fail
  refine (uWhere_any _ _ _ _ S W _ hsh.out hm (hSh.out.rd.below B4) (hWh.out.below B4)).mono ?_
  rintro e w5 ⟨rfl, hb5⟩
  have B5 : Below w.heap.size w w5 := Below.via' B4 hb5
  have g5 := Lib.hid (g4.out.below hb5)
  have t5 := Lib.hid (t4.out.below hb5)
  obtain ⟨ka5, kb5, kc5⟩ := g5.out
  obtain ⟨ta5, tb5, tc5, td5, te5⟩ := t5.out
  try clear ka4 kb4 kc4 ta4 tb4 tc4 td4 te4
  clear hb5
  cases hw : twB S W
  · skip
    go_wp2
    go_ret
    exact ⟨ret_bool (tg_no (fun h => by rw [h.w] at hw; cases hw)).symm, B5⟩
  have hwh := Lib.hid hw
  clear hw
  have q1 : IntKind.i64.wrap ((S.length : Int) - 1) = (S.length : Int) - 1 := IntWalk.i64_in _ (by omega)
  cases hin : inB m (-1) ((S.length : Int) - 1)
  · go_wp2_with (go_at_call 69; refine (l1In_any _ _ _ _).mono ?_; rintro e w6 ⟨rfl, rfl⟩)
    go_ret
    exact ⟨ret_bool (tg_no (fun h => by have := (inB_no _ _ _).1 hin; have := h.m0; have := h.m1; omega)).symm, B5⟩
  have hinh := Lib.hid ((inB_iff _ _ _).1 hin)
  go_wp2_with fail
  refine (l1In_any _ _ _ _).mono ?_
  rintro e w6 ⟨rfl, rfl⟩
  rw [hin]
  replace hin := Lib.hid hin
  go_wp2_with fail
  refine (uCount_any _ _ _ _ _ _ _ _ P S l m F W _ hgh.out hsh.out hrh.out (hPh.out.below B5) (hSh.out.below B5) (hFh.out.below B5)).mono ?_
  rintro e w7 ⟨rfl, hb7⟩
  have hv := Lib.hid (show decide (tcZ P S l F ≤ 600) = tgB P S l F W m by
    by_cases hc : tcZ P S l F ≤ 600
    · rw [decide_eq_true hc, tg_iff.2 ⟨hgh.out, hsh.out, hrh.out, hwh.out, by have := hinh.out; omega, by have := hinh.out; omega, by have := hv0.out; omega, hc⟩]
    · rw [decide_eq_false hc, tg_no (fun h => hc h.c)])
  go_wp2
  go_ret
  exact ⟨ret_bool hv.out, Below.via' B5 hb7⟩
end Go.Proofs.Ytpmbenedeakieaa

namespace Go.Proofs.Ytpmbenedeakieaa
open Go.RowKit
set_option maxRecDepth 100000

theorem ite_go {c : Bool} {A B : Prop} (h : c = true) (a : A) : if c = true then A else B := by rw [if_pos h]; exact a
theorem setCell_grownT (W : World) (b o : Nat) (v : Value) : W.grownBy (W.setCell ⟨b, o, none⟩ v) (some b) :=
  ⟨rfl, rfl, rfl, by simp [World.setCell], fun k _ hne => Below.heap_setCell _ _ _ _ (fun e => hne (by rw [e]))⟩
theorem setCells_grown (g : Nat) : ∀ (vs : List Value) (o : Nat) (w : World), w.grownBy (w.setCells g o vs) (some g)
  | [], _, _ => ⟨rfl, rfl, rfl, Nat.le_refl _, fun _ _ _ => rfl⟩
  | v :: r, o, w => (setCell_grownT w g o v).trans (setCells_grown g r (o + 1) (w.setCell ⟨g, o, none⟩ v))
theorem setCells_size (g o : Nat) (vs : List Value) (w : World) : w.heap.size ≤ (w.setCells g o vs).heap.size := (setCells_grown g vs o w).size
theorem there_wb {w : World} {g : Nat} {t : TypeId} {cs : Array Value} (h : Wb w g t cs) : w.there g 0 cs.size := fun j hj => by
  rw [Nat.zero_add]
  refine ⟨?_, h.free j⟩
  rw [h.read j, Array.getElem?_eq_getElem hj]
  rfl
theorem there7 {w : World} {g : Nat} {t : TypeId} {cs : Array Value} (h : Wb w g t cs) (hc : cs.size = 7) : w.there g 0 7 := hc ▸ there_wb h
theorem rd_setCellT {w : World} {x : Option Addr} {xs : List Value} (h : Rd w x xs) (b o : Nat) (v : Value) (hne : ∀ k off, x = some ⟨k, off, none⟩ → k ≠ b) : Rd (w.setCell ⟨b, o, none⟩ v) x xs :=
  h.off (Off.of_grown (lo := b) (hi := b + 1) (setCell_grownT w b o v) (fun k hk => by injection hk with hk; omega)) (fun k off e => by have := hne k off e; omega)
/-- Seven cells of a block. -/
def G7 (w : World) (g : Nat) (a0 a1 a2 a3 a4 a5 a6 : Value) : Prop :=
  w.cell? ⟨g, 0, none⟩ = some a0 ∧ w.cell? ⟨g, 1, none⟩ = some a1 ∧ w.cell? ⟨g, 2, none⟩ = some a2 ∧ w.cell? ⟨g, 3, none⟩ = some a3 ∧ w.cell? ⟨g, 4, none⟩ = some a4 ∧ w.cell? ⟨g, 5, none⟩ = some a5 ∧ w.cell? ⟨g, 6, none⟩ = some a6 ∧ g < w.heap.size
theorem G7.below {w w' : World} {g : Nat} {a0 a1 a2 a3 a4 a5 a6 : Value} (h : G7 w g a0 a1 a2 a3 a4 a5 a6) (hb : Below w.heap.size w w') : G7 w' g a0 a1 a2 a3 a4 a5 a6 := by
  obtain ⟨h0, h1, h2, h3, h4, h5, h6, hl⟩ := h
  exact ⟨(hb.cell (p := ⟨g, 0, none⟩) hl).trans h0, (hb.cell (p := ⟨g, 1, none⟩) hl).trans h1, (hb.cell (p := ⟨g, 2, none⟩) hl).trans h2, (hb.cell (p := ⟨g, 3, none⟩) hl).trans h3, (hb.cell (p := ⟨g, 4, none⟩) hl).trans h4, (hb.cell (p := ⟨g, 5, none⟩) hl).trans h5, (hb.cell (p := ⟨g, 6, none⟩) hl).trans h6, Nat.lt_of_lt_of_le hl hb.size⟩
theorem g7_of_wb {w : World} {g : Nat} {t : TypeId} {a0 a1 a2 a3 a4 a5 a6 : Value} (h : Wb w g t #[a0, a1, a2, a3, a4, a5, a6]) : G7 w g a0 a1 a2 a3 a4 a5 a6 :=
  ⟨(h.read 0).trans rfl, (h.read 1).trans rfl, (h.read 2).trans rfl, (h.read 3).trans rfl, (h.read 4).trans rfl, (h.read 5).trans rfl, (h.read 6).trans rfl, h.inside⟩
theorem g7_set {w : World} {g : Nat} {t : TypeId} {cs : Array Value} (h : Wb w g t cs) (hc : cs.size = 7) (a0 a1 a2 a3 a4 a5 a6 : Value) : G7 (w.setCells g 0 [a0, a1, a2, a3, a4, a5, a6]) g a0 a1 a2 a3 a4 a5 a6 := by
  have ht := there_wb h
  rw [hc] at ht
  have hr := World.rangeAt_setCells_same w g 0 [a0, a1, a2, a3, a4, a5, a6] ht
  have key : ∀ j v, [a0, a1, a2, a3, a4, a5, a6][j]? = some v → (w.setCells g 0 [a0, a1, a2, a3, a4, a5, a6]).cell? ⟨g, j, none⟩ = some v := fun j v hv => by
    have := hr j v hv
    rwa [Nat.zero_add] at this
  exact ⟨key 0 _ rfl, key 1 _ rfl, key 2 _ rfl, key 3 _ rfl, key 4 _ rfl, key 5 _ rfl, key 6 _ rfl, Nat.lt_of_lt_of_le h.inside (setCells_size _ _ _ _)⟩
/-- What stands behind the store. -/
theorem gd_end {W X : World} {g lo1 hi1 lo2 hi2 n1 c1 n2 c2 : Nat} {x1 x2 : Option Addr} {L : List Value} {M : List Value} {t1 t2 : TypeId} {s1 s2 : Nat} (vs : List Value) (hB : Below W.heap.size W X) (hg : W.heap.size ≤ g)
    (hA : OwR X lo1 hi1 t1 s1 (.slice x1 n1 c1) n1 L) (h1 : g < lo1 ∨ hi1 ≤ g) (hV : OwR X lo2 hi2 t2 s2 (.slice x2 n2 c2) n2 M) (h2 : g < lo2 ∨ hi2 ≤ g) :
    Below W.heap.size W (X.setCells g 0 vs) ∧ Rd (X.setCells g 0 vs) x1 L ∧ Rd (X.setCells g 0 vs) x2 M := by
  have hk := setCells_grown g vs 0 X
  refine ⟨hB.grown hk hB.size (fun k hk => by injection hk with hk; omega), (hA.keep hk (fun k hk => by injection hk with hk; omega)).rd, (hV.keep hk (fun k hk => by injection hk with hk; omega)).rd⟩
end Go.Proofs.Ytpmbenedeakieaa
