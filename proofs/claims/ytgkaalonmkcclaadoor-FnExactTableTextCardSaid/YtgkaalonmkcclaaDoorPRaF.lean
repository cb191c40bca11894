import Derived.Test.YtgkaalonmkcclaaDoorPRaE
import Derived.Deep.MidRow
import Derived.Deep.RegionHeld
import Derived.Deep.DeepCutAuto
namespace Go.Proofs.YtgkaalonmkcclaaDoor
open Go.RowKit
set_option maxRecDepth 100000

theorem ty_bad {P : List Int} {M : List RV} {i : Nat} {r : RV} (h : M[i]? = some r) (k : (lfL P).contains r.1 = false) : tyB P M = false := by
  unfold tyB
  rw [List.all_eq_false]
  exact ⟨r, List.mem_of_getElem? h, by rw [k]; decide⟩
theorem ty_all {P : List Int} {M : List RV} (h : ∀ j, j < M.length → ∃ r, M[j]? = some r ∧ (lfL P).contains r.1 = true) : tyB P M = true := by
  unfold tyB
  rw [List.all_eq_true]
  intro r hr
  obtain ⟨j, hj, e⟩ := List.getElem_of_mem hr
  obtain ⟨r2, h1, h2⟩ := h j hj
  rw [List.getElem?_eq_getElem hj, e] at h1
  cases h1
  exact h2
theorem sel_i64 {p : Nat → Bool} {k : Nat} (hk : k ≤ 1000) : ∀ n ∈ selK p k, IsI64 n := by
  intro n hn
  obtain ⟨i, rfl, hi, -⟩ := sel_mem.1 hn
  unfold IsI64
  omega
theorem iin_sel {w : World} {x : Option Addr} {p : Nat → Bool} {k : Nat} (hk : k ≤ 1000) (h : Rd w x (iC (selK p k))) : IIn w x (selK p k) := ⟨by have := sel_len p k; omega, sel_i64 hk, h⟩
end Go.Proofs.YtgkaalonmkcclaaDoor

namespace Go.Proofs.YtgkaalonmkcclaaDoor
open Go.RowKit
set_option maxRecDepth 100000

set_option maxHeartbeats 2000000 in
theorem gcount_any (p y z g v : Option Addr) (n c k2 c2 k3 c3 c4 c5 : Nat) (l m : Int) (A : List Int) (S : List (ByteArray × Int)) (w : World) (hs : PtS S) (hA : A.length ≤ 30) (hS : Rd w v (vC S)) :
    Calls Tryd.prog 32 #[.agg #[.slice p n c, .int .i64 l, .slice y k2 c2, .slice z k3 c3, .int .i64 m, .slice g A.length c4, .slice v S.length c5]] w fun e w' => e = .returned (.int .i64 ((A.length : Int) * cnZ S)) ∧ Below w.heap.size w w' := by
  have hc := pt_cn hs
  have q0 : 0 ≤ (A.length : Int) * cnZ S ∧ (A.length : Int) * cnZ S ≤ 30 * 262144 := ⟨Int.mul_nonneg (by omega) (by omega), Int.mul_le_mul (by omega) hc.2 (by omega) (by omega)⟩
  have q1 : IntKind.i64.wrap ((A.length : Int) * cnZ S) = (A.length : Int) * cnZ S := IntWalk.i64_in _ (by omega)
  have hSh := Lib.hid hS
  have hsh := Lib.hid hs
  clear hS hs q0
  go_enter Tryd.func32, Tryd.ntmps32
  go_wp2
  go_region_held3 (fun w' => Below ((w.alloc (.cells #[.slice p n c, .int .i64 l, .slice y k2 c2, .slice z k3 c3, .int .i64 m, .slice g A.length c4, .slice v S.length c5] 60))).heap.size ((w.alloc (.cells #[.slice p n c, .int .i64 l, .slice y k2 c2, .slice z k3 c3, .int .i64 m, .slice g A.length c4, .slice v S.length c5] 60))) w' ∧ (∀ b o, b < ((w.alloc (.cells #[.slice p n c, .int .i64 l, .slice y k2 c2, .slice z k3 c3, .int .i64 m, .slice g A.length c4, .slice v S.length c5] 60))).heap.size → w'.cell? ⟨b, o, none⟩ = ((w.alloc (.cells #[.slice p n c, .int .i64 l, .slice y k2 c2, .slice z k3 c3, .int .i64 m, .slice g A.length c4, .slice v S.length c5] 60))).cell? ⟨b, o, none⟩)) (first | exact keep_of (Below.refl _ _) | ((try go_split_ands); exact keep_of (by repeat (first | exact Below.refl _ _ | assumption | refine Below.drew ?_ | refine below_drewN ?_ _ | refine Below.alloc' ?_ _ | (refine Below.setCell ?_ (by first | omega | (simp; done) | (simp; omega) | exact Below.size (by assumption) | exact Nat.le_trans (Below.size (by assumption)) (by simp)) _) | (refine Below.via' ?_ (by assumption)) | (refine Below.alloc ?_ (by first | omega | (simp; done) | (simp; omega) | exact Below.size (by assumption) | exact Nat.le_trans (Below.size (by assumption)) (by simp)) _) | (refine Below.via ?_ (by assumption) (by first | omega | (simp; done) | (simp; omega) | exact Below.size (by assumption) | exact Nat.le_trans (Below.size (by assumption)) (by simp))))))) ((go_at_call 56; refine (countComb_p _ _ S _ hsh.out (hSh.out.below (by exact (by repeat (first | exact Below.refl _ _ | assumption | refine Below.drew ?_ | refine below_drewN ?_ _ | refine Below.alloc' ?_ _ | (refine Below.setCell ?_ (by first | omega | (simp; done) | (simp; omega) | exact Below.size (by assumption) | exact Nat.le_trans (Below.size (by assumption)) (by simp)) _) | (refine Below.via' ?_ (by assumption)) | (refine Below.alloc ?_ (by first | omega | (simp; done) | (simp; omega) | exact Below.size (by assumption) | exact Nat.le_trans (Below.size (by assumption)) (by simp)) _) | (refine Below.via ?_ (by assumption) (by first | omega | (simp; done) | (simp; omega) | exact Below.size (by assumption) | exact Nat.le_trans (Below.size (by assumption)) (by simp)))))))).mono ?_; rintro e w1 ⟨rfl, hb1⟩)); rename_i hH; obtain ⟨hb1, hcl1⟩ := hH; have hz1 := hb1.size; (try simp at hz1); (try (have hly1 := Nat.lt_of_succ_le hz1)); (try (have hlx1 := Nat.lt_of_succ_lt hly1)); (try (have hlw1 := Nat.lt_of_succ_lt hlx1)); (try (have hle1 := Nat.le_of_lt hly1)); (try (have hya1 : w.heap.size < w1.heap.size := by omega)); (try (have hyb1 : w.heap.size + 1 < w1.heap.size := by omega)); (try (have hyc1 : w.heap.size + 1 + 1 < w1.heap.size := by omega)); (try (have hyd1 : wa.heap.size < w1.heap.size := by omega))
  go_wp2
  go_ret
  exact ⟨rfl, (by repeat (first | exact Below.refl _ _ | assumption | refine Below.drew ?_ | refine below_drewN ?_ _ | refine Below.alloc' ?_ _ | (refine Below.setCell ?_ (by first | omega | (simp; done) | (simp; omega) | exact Below.size (by assumption) | exact Nat.le_trans (Below.size (by assumption)) (by simp)) _) | (refine Below.via' ?_ (by assumption)) | (refine Below.alloc ?_ (by first | omega | (simp; done) | (simp; omega) | exact Below.size (by assumption) | exact Nat.le_trans (Below.size (by assumption)) (by simp)) _) | (refine Below.via ?_ (by assumption) (by first | omega | (simp; done) | (simp; omega) | exact Below.size (by assumption) | exact Nat.le_trans (Below.size (by assumption)) (by simp)))))⟩

set_option maxHeartbeats 4000000 in
theorem uCount_any (p y x z : Option Addr) (c c1 c2 c3 : Nat) (P : List Int) (S : List (ByteArray × Int)) (l m : Int) (F W : List Int) (w : World) (hg : geB P = true) (hs : schB S = true) (hr : rsB S F = true) (hP : IIn w p P) (hS : SIn w y c1 S) (hF : IIn w x F) :
    Calls Tryd.prog 29 #[.agg #[.slice p P.length c], .slice y S.length c1, .agg #[.int .i64 l, .slice x F.length c2, .slice z W.length c3, .int .i64 m]] w fun e w' => e = .returned (.int .i64 (tcZ P S l F)) ∧ Below w.heap.size w w' := by
  have hb := tc_bd (l := l) hg hs hr
  have q1 : IntKind.i64.wrap (((lvL P l).length : Int) * cnZ (tbS S F)) = ((lvL P l).length : Int) * cnZ (tbS S F) := IntWalk.i64_in _ (by unfold tcZ at hb; omega)
  have hpt := Lib.hid (tbS_ok hs hr)
  have hip := Lib.hid (inP_of hs hr rfl)
  have hPh := Lib.hid hP
  have hSh := Lib.hid hS.rd
  have hFh := Lib.hid hF
  have hgh := Lib.hid hg
  clear hP hS hF hs hg hb
  have p1 := Lib.hid (QB.new w p P.length c 33)
  have p2 := Lib.hid (TQ.new (w.alloc (.cells #[.slice p P.length c] 33)) l x F.length c2 z W.length c3 m 37)
  obtain ⟨w0, hw0⟩ : ∃ w0, w0 = (w.alloc (.cells #[.slice p P.length c] 33)).alloc (.cells #[.int .i64 l, .slice x F.length c2, .slice z W.length c3, .int .i64 m] 37) := ⟨_, rfl⟩
  have B0 : Below w.heap.size w w0 := by rw [hw0]; exact (by repeat (first | exact Below.refl _ _ | assumption | refine Below.drew ?_ | refine below_drewN ?_ _ | refine Below.alloc' ?_ _ | (refine Below.setCell ?_ (by first | omega | (simp; done) | (simp; omega) | exact Below.size (by assumption) | exact Nat.le_trans (Below.size (by assumption)) (by simp)) _) | (refine Below.via' ?_ (by assumption)) | (refine Below.alloc ?_ (by first | omega | (simp; done) | (simp; omega) | exact Below.size (by assumption) | exact Nat.le_trans (Below.size (by assumption)) (by simp)) _) | (refine Below.via ?_ (by assumption) (by first | omega | (simp; done) | (simp; omega) | exact Below.size (by assumption) | exact Nat.le_trans (Below.size (by assumption)) (by simp)))))
  have g0 : Hid (QB w0 w.heap.size p P.length c) := by
    rw [hw0]
    exact p1.out.below (show Below (w.alloc (.cells #[.slice p P.length c] 33)).heap.size (w.alloc (.cells #[.slice p P.length c] 33)) _ from (by repeat (first | exact Below.refl _ _ | assumption | refine Below.drew ?_ | refine below_drewN ?_ _ | refine Below.alloc' ?_ _ | (refine Below.setCell ?_ (by first | omega | (simp; done) | (simp; omega) | exact Below.size (by assumption) | exact Nat.le_trans (Below.size (by assumption)) (by simp)) _) | (refine Below.via' ?_ (by assumption)) | (refine Below.alloc ?_ (by first | omega | (simp; done) | (simp; omega) | exact Below.size (by assumption) | exact Nat.le_trans (Below.size (by assumption)) (by simp)) _) | (refine Below.via ?_ (by assumption) (by first | omega | (simp; done) | (simp; omega) | exact Below.size (by assumption) | exact Nat.le_trans (Below.size (by assumption)) (by simp))))))
  have t0 : Hid (TQ w0 (w.heap.size + 1) l x F.length c2 z W.length c3 m) := by
    have h0 := p2.out
    rw [World.size_alloc, ← hw0] at h0
    exact h0
  have z0 : w0.heap.size = w.heap.size + 1 + 1 := by rw [hw0]; simp
  clear p1 p2
  go_enter Tryd.func29, Tryd.ntmps29
  go_wp2
  rw [← hw0]
  replace hw0 := Lib.hid hw0
  replace z0 := Lib.hid z0
  obtain ⟨ka, kb, kc⟩ := g0.out
  obtain ⟨ta, tb, tc, td, te⟩ := t0.out
  go_region_held3 (fun w' => Below (w0).heap.size (w0) w' ∧ (∀ b o, b < (w0).heap.size → w'.cell? ⟨b, o, none⟩ = (w0).cell? ⟨b, o, none⟩)) (first | exact keep_of (Below.refl _ _) | ((try go_split_ands); exact keep_of (by repeat (first | exact Below.refl _ _ | assumption | refine Below.drew ?_ | refine below_drewN ?_ _ | refine Below.alloc' ?_ _ | (refine Below.setCell ?_ (by first | omega | (simp; done) | (simp; omega) | exact Below.size (by assumption) | exact Nat.le_trans (Below.size (by assumption)) (by simp)) _) | (refine Below.via' ?_ (by assumption)) | (refine Below.alloc ?_ (by first | omega | (simp; done) | (simp; omega) | exact Below.size (by assumption) | exact Nat.le_trans (Below.size (by assumption)) (by simp)) _) | (refine Below.via ?_ (by assumption) (by first | omega | (simp; done) | (simp; omega) | exact Below.size (by assumption) | exact Nat.le_trans (Below.size (by assumption)) (by simp))))))) (first | (go_at_call 36; refine (gLevel_any _ _ P l _ hgh.out (hPh.out.below (by exact (by repeat (first | exact Below.refl _ _ | assumption | refine Below.drew ?_ | refine below_drewN ?_ _ | refine Below.alloc' ?_ _ | (refine Below.setCell ?_ (by first | omega | (simp; done) | (simp; omega) | exact Below.size (by assumption) | exact Nat.le_trans (Below.size (by assumption)) (by simp)) _) | (refine Below.via' ?_ (by assumption)) | (refine Below.alloc ?_ (by first | omega | (simp; done) | (simp; omega) | exact Below.size (by assumption) | exact Nat.le_trans (Below.size (by assumption)) (by simp)) _) | (refine Below.via ?_ (by assumption) (by first | omega | (simp; done) | (simp; omega) | exact Below.size (by assumption) | exact Nat.le_trans (Below.size (by assumption)) (by simp)))))))).mono ?_; rintro e w1 ⟨v1, rfl, ho1, hb1⟩; obtain ⟨x1, n1, rfl, -, -⟩ := (OwR.of ho1).form; clear ho1) | (go_at_call 48; refine (sPart_any _ _ _ _ S F _ hip.out (hSh.out.below (by exact (by repeat (first | exact Below.refl _ _ | assumption | refine Below.drew ?_ | refine below_drewN ?_ _ | refine Below.alloc' ?_ _ | (refine Below.setCell ?_ (by first | omega | (simp; done) | (simp; omega) | exact Below.size (by assumption) | exact Nat.le_trans (Below.size (by assumption)) (by simp)) _) | (refine Below.via' ?_ (by assumption)) | (refine Below.alloc ?_ (by first | omega | (simp; done) | (simp; omega) | exact Below.size (by assumption) | exact Nat.le_trans (Below.size (by assumption)) (by simp)) _) | (refine Below.via ?_ (by assumption) (by first | omega | (simp; done) | (simp; omega) | exact Below.size (by assumption) | exact Nat.le_trans (Below.size (by assumption)) (by simp))))))) (hFh.out.2.2.below (by exact (by repeat (first | exact Below.refl _ _ | assumption | refine Below.drew ?_ | refine below_drewN ?_ _ | refine Below.alloc' ?_ _ | (refine Below.setCell ?_ (by first | omega | (simp; done) | (simp; omega) | exact Below.size (by assumption) | exact Nat.le_trans (Below.size (by assumption)) (by simp)) _) | (refine Below.via' ?_ (by assumption)) | (refine Below.alloc ?_ (by first | omega | (simp; done) | (simp; omega) | exact Below.size (by assumption) | exact Nat.le_trans (Below.size (by assumption)) (by simp)) _) | (refine Below.via ?_ (by assumption) (by first | omega | (simp; done) | (simp; omega) | exact Below.size (by assumption) | exact Nat.le_trans (Below.size (by assumption)) (by simp)))))))).mono ?_; rintro e w2 ⟨v2, rfl, ho2, hb2⟩; obtain ⟨x2, n2, rfl, -, -⟩ := (OwR.of ho2).form; (have hr2 := Lib.hid (Rd.of_own ho2)); clear ho2) | (go_at_call 47; refine (sCount_p _ _ (tbS S F) _ hpt.out (hr2.out.below (by exact (by repeat (first | exact Below.refl _ _ | assumption | refine Below.drew ?_ | refine below_drewN ?_ _ | refine Below.alloc' ?_ _ | (refine Below.setCell ?_ (by first | omega | (simp; done) | (simp; omega) | exact Below.size (by assumption) | exact Nat.le_trans (Below.size (by assumption)) (by simp)) _) | (refine Below.via' ?_ (by assumption)) | (refine Below.alloc ?_ (by first | omega | (simp; done) | (simp; omega) | exact Below.size (by assumption) | exact Nat.le_trans (Below.size (by assumption)) (by simp)) _) | (refine Below.via ?_ (by assumption) (by first | omega | (simp; done) | (simp; omega) | exact Below.size (by assumption) | exact Nat.le_trans (Below.size (by assumption)) (by simp)))))))).mono ?_; rintro e w3 ⟨rfl, hb3⟩)); rename_i hH; obtain ⟨hb3, hcl3⟩ := hH; have hz3 := hb3.size; (try simp at hz3); (try (have hly3 := Nat.lt_of_succ_le hz3)); (try (have hlx3 := Nat.lt_of_succ_lt hly3)); (try (have hlw3 := Nat.lt_of_succ_lt hlx3)); (try (have hle3 := Nat.le_of_lt hly3)); (try (have hya3 : w.heap.size < w3.heap.size := by omega)); (try (have hyb3 : w.heap.size + 1 < w3.heap.size := by omega)); (try (have hyc3 : w.heap.size + 1 + 1 < w3.heap.size := by omega)); (try (have hyd3 : wa.heap.size < w3.heap.size := by omega))
  go_wp2
  go_ret
  exact ⟨rfl, Below.via' B0 (by assumption)⟩
end Go.Proofs.YtgkaalonmkcclaaDoor

namespace Go.Proofs.YtgkaalonmkcclaaDoor
open Go.RowKit
set_option maxRecDepth 100000

set_option maxHeartbeats 4000000 in
theorem uGood_any (p y x z : Option Addr) (c c1 c2 c3 : Nat) (P : List Int) (S : List (ByteArray × Int)) (l m : Int) (F W : List Int) (w : World) (hP : IIn w p P) (hS : SIn w y c1 S) (hT : TIn w x z F W) :
    Calls Tryd.prog 20 #[.agg #[.slice p P.length c], .slice y S.length c1, .agg #[.int .i64 l, .slice x F.length c2, .slice z W.length c3, .int .i64 m]] w fun e w' => e = .returned (.bool (tgB P S l F W m)) ∧ Below w.heap.size w w' := by
  have hm := hS.1
  have hPh := Lib.hid hP
  have hSh := Lib.hid hS
  have hFh := Lib.hid hT.1
  have hWh := Lib.hid hT.2
  clear hP hS hT
  have p1 := Lib.hid (QB.new w p P.length c 33)
  have p2 := Lib.hid (TQ.new (w.alloc (.cells #[.slice p P.length c] 33)) l x F.length c2 z W.length c3 m 37)
  obtain ⟨w0, hw0⟩ : ∃ w0, w0 = (w.alloc (.cells #[.slice p P.length c] 33)).alloc (.cells #[.int .i64 l, .slice x F.length c2, .slice z W.length c3, .int .i64 m] 37) := ⟨_, rfl⟩
  have B0 : Below w.heap.size w w0 := by rw [hw0]; exact (by repeat (first | exact Below.refl _ _ | assumption | refine Below.drew ?_ | refine below_drewN ?_ _ | refine Below.alloc' ?_ _ | (refine Below.setCell ?_ (by first | omega | (simp; done) | (simp; omega) | exact Below.size (by assumption) | exact Nat.le_trans (Below.size (by assumption)) (by simp)) _) | (refine Below.via' ?_ (by assumption)) | (refine Below.alloc ?_ (by first | omega | (simp; done) | (simp; omega) | exact Below.size (by assumption) | exact Nat.le_trans (Below.size (by assumption)) (by simp)) _) | (refine Below.via ?_ (by assumption) (by first | omega | (simp; done) | (simp; omega) | exact Below.size (by assumption) | exact Nat.le_trans (Below.size (by assumption)) (by simp)))))
  have g0 : Hid (QB w0 w.heap.size p P.length c) := by
    rw [hw0]
    exact p1.out.below (show Below (w.alloc (.cells #[.slice p P.length c] 33)).heap.size (w.alloc (.cells #[.slice p P.length c] 33)) _ from (by repeat (first | exact Below.refl _ _ | assumption | refine Below.drew ?_ | refine below_drewN ?_ _ | refine Below.alloc' ?_ _ | (refine Below.setCell ?_ (by first | omega | (simp; done) | (simp; omega) | exact Below.size (by assumption) | exact Nat.le_trans (Below.size (by assumption)) (by simp)) _) | (refine Below.via' ?_ (by assumption)) | (refine Below.alloc ?_ (by first | omega | (simp; done) | (simp; omega) | exact Below.size (by assumption) | exact Nat.le_trans (Below.size (by assumption)) (by simp)) _) | (refine Below.via ?_ (by assumption) (by first | omega | (simp; done) | (simp; omega) | exact Below.size (by assumption) | exact Nat.le_trans (Below.size (by assumption)) (by simp))))))
  have t0 : Hid (TQ w0 (w.heap.size + 1) l x F.length c2 z W.length c3 m) := by
    have h0 := p2.out
    rw [World.size_alloc, ← hw0] at h0
    exact h0
  have z0 : w0.heap.size = w.heap.size + 1 + 1 := by rw [hw0]; simp
  clear p1 p2
  go_enter Tryd.func20, Tryd.ntmps20
  go_wp2_with fail
  rw [← hw0]
  replace hw0 := Lib.hid hw0
  replace z0 := Lib.hid z0
  refine (gGood_any _ _ P _ (hPh.out.below B0)).mono ?_
  rintro e w1 ⟨rfl, hb1⟩
  have B1 : Below w.heap.size w w1 := Below.via' B0 hb1
  have g1 := Lib.hid (g0.out.below hb1)
  have t1 := Lib.hid (t0.out.below hb1)
  obtain ⟨ka1, kb1, kc1⟩ := g1.out
  obtain ⟨ta1, tb1, tc1, td1, te1⟩ := t1.out
  try clear ka0 kb0 kc0 ta0 tb0 tc0 td0 te0
  clear hb1
  cases hg : geB P
  · skip
    go_wp2
    go_ret
    exact ⟨ret_bool (tg_no (fun h => by rw [h.g] at hg; cases hg)).symm, B1⟩
  have hgh := Lib.hid hg
  clear hg
  go_wp2_with fail
  refine (sGood_x _ _ _ _ (hSh.out.below B1)).mono ?_
  rintro e w2 ⟨rfl, hb2⟩
  have B2 : Below w.heap.size w w2 := Below.via' B1 hb2
  have g2 := Lib.hid (g1.out.below hb2)
  have t2 := Lib.hid (t1.out.below hb2)
  obtain ⟨ka2, kb2, kc2⟩ := g2.out
  obtain ⟨ta2, tb2, tc2, td2, te2⟩ := t2.out
  try clear ka1 kb1 kc1 ta1 tb1 tc1 td1 te1
  clear hb2
  cases hs : schB S
  · skip
    go_wp2
    go_ret
    exact ⟨ret_bool (tg_no (fun h => by rw [h.s] at hs; cases hs)).symm, B2⟩
  have hsh := Lib.hid hs
  have h6 := (schB_len hs).2
  clear hs
  go_wp2_with fail
  refine (gLevel_any _ _ P l _ hgh.out (hPh.out.below B2)).mono ?_
  rintro e w3 ⟨v3, rfl, ho3, hb3⟩
  obtain ⟨x3, n3, rfl, -, -⟩ := (OwR.of ho3).form
  have B3 : Below w.heap.size w w3 := Below.via' B2 hb3
  have g3 := Lib.hid (g2.out.below hb3)
  have t3 := Lib.hid (t2.out.below hb3)
  obtain ⟨ka3, kb3, kc3⟩ := g3.out
  obtain ⟨ta3, tb3, tc3, td3, te3⟩ := t3.out
  clear ka2 kb2 kc2 ta2 tb2 tc2 td2 te2 hb3 ho3
  by_cases hv0 : (lvL P l).length = 0
  · have hv1 : (((lvL P l).length : Int) == 0) = true := by rw [beq_iff_eq]; omega
    replace hv0 := Lib.hid hv0
    go_wp2
    go_ret
    exact ⟨ret_bool (tg_no (fun h => by have := h.v; have := hv0.out; omega)).symm, B3⟩
  have hv1 : (((lvL P l).length : Int) == 0) = false := by rw [beq_eq_false_iff_ne]; omega
  replace hv0 := Lib.hid hv0
  go_wp2_with fail
  refine (l1Rising_any _ _ S F _ hm (hFh.out.below B3)).mono ?_
  rintro e w4 ⟨rfl, hb4⟩
  have B4 : Below w.heap.size w w4 := Below.via' B3 hb4
  have g4 := Lib.hid (g3.out.below hb4)
  have t4 := Lib.hid (t3.out.below hb4)
  obtain ⟨ka4, kb4, kc4⟩ := g4.out
  obtain ⟨ta4, tb4, tc4, td4, te4⟩ := t4.out
  try clear ka3 kb3 kc3 ta3 tb3 tc3 td3 te3
  clear hb4
  clear hv1
  cases hr : rsB S F
  · skip
    go_wp2
    go_ret
    exact ⟨ret_bool (tg_no (fun h => by rw [h.r] at hr; cases hr)).symm, B4⟩
  have hrh := Lib.hid hr
  clear hr
  go_wp2_with fail
  refine (uWhere_any _ _ _ _ S W _ hsh.out hm (hSh.out.rd.below B4) (hWh.out.below B4)).mono ?_
  rintro e w5 ⟨rfl, hb5⟩
  have B5 : Below w.heap.size w w5 := Below.via' B4 hb5
  have g5 := Lib.hid (g4.out.below hb5)
  have t5 := Lib.hid (t4.out.below hb5)
  obtain ⟨ka5, kb5, kc5⟩ := g5.out
  obtain ⟨ta5, tb5, tc5, td5, te5⟩ := t5.out
  try clear ka4 kb4 kc4 ta4 tb4 tc4 td4 te4
  clear hb5
  cases hw : twB S W
  · skip
    go_wp2
    go_ret
    exact ⟨ret_bool (tg_no (fun h => by rw [h.w] at hw; cases hw)).symm, B5⟩
  have hwh := Lib.hid hw
  clear hw
  have q1 : IntKind.i64.wrap ((S.length : Int) - 1) = (S.length : Int) - 1 := IntWalk.i64_in _ (by omega)
  cases hin : inB m (-1) ((S.length : Int) - 1)
  · go_wp2_with (go_at_call 28; refine (l1In_any _ _ _ _).mono ?_; rintro e w6 ⟨rfl, rfl⟩)
    go_ret
    exact ⟨ret_bool (tg_no (fun h => by have := (inB_no _ _ _).1 hin; have := h.m0; have := h.m1; omega)).symm, B5⟩
  have hinh := Lib.hid ((inB_iff _ _ _).1 hin)
  go_wp2_with fail
  refine (l1In_any _ _ _ _).mono ?_
  rintro e w6 ⟨rfl, rfl⟩
  rw [hin]
  replace hin := Lib.hid hin
  go_wp2_with fail
  refine (uCount_any _ _ _ _ _ _ _ _ P S l m F W _ hgh.out hsh.out hrh.out (hPh.out.below B5) (hSh.out.below B5) (hFh.out.below B5)).mono ?_
  rintro e w7 ⟨rfl, hb7⟩
  have hv := Lib.hid (show decide (tcZ P S l F ≤ 600) = tgB P S l F W m by
    by_cases hc : tcZ P S l F ≤ 600
    · rw [decide_eq_true hc, tg_iff.2 ⟨hgh.out, hsh.out, hrh.out, hwh.out, by have := hinh.out; omega, by have := hinh.out; omega, by have := hv0.out; omega, hc⟩]
    · rw [decide_eq_false hc, tg_no (fun h => hc h.c)])
  go_wp2
  go_ret
  exact ⟨ret_bool hv.out, Below.via' B5 hb7⟩
end Go.Proofs.YtgkaalonmkcclaaDoor

namespace Go.Proofs.YtgkaalonmkcclaaDoor
open Go.RowKit
set_option maxRecDepth 100000

theorem ite_go {c : Bool} {A B : Prop} (h : c = true) (a : A) : if c = true then A else B := by rw [if_pos h]; exact a
theorem setCell_grownT (W : World) (b o : Nat) (v : Value) : W.grownBy (W.setCell ⟨b, o, none⟩ v) (some b) :=
  ⟨rfl, rfl, rfl, by simp [World.setCell], fun k _ hne => Below.heap_setCell _ _ _ _ (fun e => hne (by rw [e]))⟩
theorem setCells_grown (g : Nat) : ∀ (vs : List Value) (o : Nat) (w : World), w.grownBy (w.setCells g o vs) (some g)
  | [], _, _ => ⟨rfl, rfl, rfl, Nat.le_refl _, fun _ _ _ => rfl⟩
  | v :: r, o, w => (setCell_grownT w g o v).trans (setCells_grown g r (o + 1) (w.setCell ⟨g, o, none⟩ v))
theorem setCells_size (g o : Nat) (vs : List Value) (w : World) : w.heap.size ≤ (w.setCells g o vs).heap.size := (setCells_grown g vs o w).size
theorem there_wb {w : World} {g : Nat} {t : TypeId} {cs : Array Value} (h : Wb w g t cs) : w.there g 0 cs.size := fun j hj => by
  rw [Nat.zero_add]
  refine ⟨?_, h.free j⟩
  rw [h.read j, Array.getElem?_eq_getElem hj]
  rfl
theorem there7 {w : World} {g : Nat} {t : TypeId} {cs : Array Value} (h : Wb w g t cs) (hc : cs.size = 7) : w.there g 0 7 := hc ▸ there_wb h
theorem rd_setCellT {w : World} {x : Option Addr} {xs : List Value} (h : Rd w x xs) (b o : Nat) (v : Value) (hne : ∀ k off, x = some ⟨k, off, none⟩ → k ≠ b) : Rd (w.setCell ⟨b, o, none⟩ v) x xs :=
  h.off (Off.of_grown (lo := b) (hi := b + 1) (setCell_grownT w b o v) (fun k hk => by injection hk with hk; omega)) (fun k off e => by have := hne k off e; omega)
/-- Seven cells of a block. -/
def G7 (w : World) (g : Nat) (a0 a1 a2 a3 a4 a5 a6 : Value) : Prop :=
  w.cell? ⟨g, 0, none⟩ = some a0 ∧ w.cell? ⟨g, 1, none⟩ = some a1 ∧ w.cell? ⟨g, 2, none⟩ = some a2 ∧ w.cell? ⟨g, 3, none⟩ = some a3 ∧ w.cell? ⟨g, 4, none⟩ = some a4 ∧ w.cell? ⟨g, 5, none⟩ = some a5 ∧ w.cell? ⟨g, 6, none⟩ = some a6 ∧ g < w.heap.size
theorem G7.below {w w' : World} {g : Nat} {a0 a1 a2 a3 a4 a5 a6 : Value} (h : G7 w g a0 a1 a2 a3 a4 a5 a6) (hb : Below w.heap.size w w') : G7 w' g a0 a1 a2 a3 a4 a5 a6 := by
  obtain ⟨h0, h1, h2, h3, h4, h5, h6, hl⟩ := h
  exact ⟨(hb.cell (p := ⟨g, 0, none⟩) hl).trans h0, (hb.cell (p := ⟨g, 1, none⟩) hl).trans h1, (hb.cell (p := ⟨g, 2, none⟩) hl).trans h2, (hb.cell (p := ⟨g, 3, none⟩) hl).trans h3, (hb.cell (p := ⟨g, 4, none⟩) hl).trans h4, (hb.cell (p := ⟨g, 5, none⟩) hl).trans h5, (hb.cell (p := ⟨g, 6, none⟩) hl).trans h6, Nat.lt_of_lt_of_le hl hb.size⟩
theorem g7_of_wb {w : World} {g : Nat} {t : TypeId} {a0 a1 a2 a3 a4 a5 a6 : Value} (h : Wb w g t #[a0, a1, a2, a3, a4, a5, a6]) : G7 w g a0 a1 a2 a3 a4 a5 a6 :=
  ⟨(h.read 0).trans rfl, (h.read 1).trans rfl, (h.read 2).trans rfl, (h.read 3).trans rfl, (h.read 4).trans rfl, (h.read 5).trans rfl, (h.read 6).trans rfl, h.inside⟩
theorem g7_set {w : World} {g : Nat} {t : TypeId} {cs : Array Value} (h : Wb w g t cs) (hc : cs.size = 7) (a0 a1 a2 a3 a4 a5 a6 : Value) : G7 (w.setCells g 0 [a0, a1, a2, a3, a4, a5, a6]) g a0 a1 a2 a3 a4 a5 a6 := by
  have ht := there_wb h
  rw [hc] at ht
  have hr := World.rangeAt_setCells_same w g 0 [a0, a1, a2, a3, a4, a5, a6] ht
  have key : ∀ j v, [a0, a1, a2, a3, a4, a5, a6][j]? = some v → (w.setCells g 0 [a0, a1, a2, a3, a4, a5, a6]).cell? ⟨g, j, none⟩ = some v := fun j v hv => by
    have := hr j v hv
    rwa [Nat.zero_add] at this
  exact ⟨key 0 _ rfl, key 1 _ rfl, key 2 _ rfl, key 3 _ rfl, key 4 _ rfl, key 5 _ rfl, key 6 _ rfl, Nat.lt_of_lt_of_le h.inside (setCells_size _ _ _ _)⟩
/-- What stands behind the store. -/
theorem gd_end {W X : World} {g lo1 hi1 lo2 hi2 n1 c1 n2 c2 : Nat} {x1 x2 : Option Addr} {L : List Value} {M : List Value} {t1 t2 : TypeId} {s1 s2 : Nat} (vs : List Value) (hB : Below W.heap.size W X) (hg : W.heap.size ≤ g)
    (hA : OwR X lo1 hi1 t1 s1 (.slice x1 n1 c1) n1 L) (h1 : g < lo1 ∨ hi1 ≤ g) (hV : OwR X lo2 hi2 t2 s2 (.slice x2 n2 c2) n2 M) (h2 : g < lo2 ∨ hi2 ≤ g) :
    Below W.heap.size W (X.setCells g 0 vs) ∧ Rd (X.setCells g 0 vs) x1 L ∧ Rd (X.setCells g 0 vs) x2 M := by
  have hk := setCells_grown g vs 0 X
  refine ⟨hB.grown hk hB.size (fun k hk => by injection hk with hk; omega), (hA.keep hk (fun k hk => by injection hk with hk; omega)).rd, (hV.keep hk (fun k hk => by injection hk with hk; omega)).rd⟩
end Go.Proofs.YtgkaalonmkcclaaDoor

namespace Go.Proofs.YtgkaalonmkcclaaDoor
open Go.RowKit
set_option maxRecDepth 100000

/-- What gridOf gives. -/
def GdPost (p x z : Option Addr) (c c2 c3 : Nat) (P : List Int) (S : List (ByteArray × Int)) (l : Int) (F W : List Int) (m : Int) (w : World) (e : Ending) (w' : World) : Prop :=
  Below w.heap.size w w' ∧ ((¬ TgP P S l F W m ∧ e = .returned (.tuple #[.agg #[.slice none 0 0, .int .i64 0, .slice none 0 0, .slice none 0 0, .int .i64 0, .slice none 0 0, .slice none 0 0], .bool false])) ∨
    (TgP P S l F W m ∧ ∃ ga ca va, e = .returned (.tuple #[.agg #[.slice p P.length c, .int .i64 l, .slice x F.length c2, .slice z W.length c3, .int .i64 m, .slice ga (lvL P l).length ca, .slice (some ⟨va, 0, none⟩) (tbS S F).length (tbS S F).length], .bool true]) ∧
      IIn w' ga (lvL P l) ∧ Rd w' (some ⟨va, 0, none⟩) (vC (tbS S F)) ∧ va < w'.heap.size))
set_option maxHeartbeats 16000000 in
theorem gridOf_any (p y x z : Option Addr) (c c1 c2 c3 : Nat) (P : List Int) (S : List (ByteArray × Int)) (l m : Int) (F W : List Int) (w : World) (hP : IIn w p P) (hS : SIn w y c1 S) (hT : TIn w x z F W) :
    Calls Tryd.prog 31 #[.agg #[.slice p P.length c], .slice y S.length c1, .agg #[.int .i64 l, .slice x F.length c2, .slice z W.length c3, .int .i64 m]] w (GdPost p x z c c2 c3 P S l F W m w) := by
  have hm := hS.1
  have hPh := Lib.hid hP
  have hSh := Lib.hid hS
  have hFh := Lib.hid hT.1
  have hWh := Lib.hid hT.2
  clear hP hS hT
  have p1 := Lib.hid (QB.new w p P.length c 33)
  have p2 := Lib.hid (TQ.new (w.alloc (.cells #[.slice p P.length c] 33)) l x F.length c2 z W.length c3 m 37)
  have p3 := Lib.hid (Wb.new ((w.alloc (.cells #[.slice p P.length c] 33)).alloc (.cells #[.int .i64 l, .slice x F.length c2, .slice z W.length c3, .int .i64 m] 37)) 60 #[.slice none 0 0, .int .i64 0, .slice none 0 0, .slice none 0 0, .int .i64 0, .slice none 0 0, .slice none 0 0])
  obtain ⟨w0, hw0⟩ : ∃ w0, w0 = ((w.alloc (.cells #[.slice p P.length c] 33)).alloc (.cells #[.int .i64 l, .slice x F.length c2, .slice z W.length c3, .int .i64 m] 37)).alloc (.cells #[.slice none 0 0, .int .i64 0, .slice none 0 0, .slice none 0 0, .int .i64 0, .slice none 0 0, .slice none 0 0] 60) := ⟨_, rfl⟩
  have B0 : Below w.heap.size w w0 := by rw [hw0]; exact (by repeat (first | exact Below.refl _ _ | assumption | refine Below.drew ?_ | refine below_drewN ?_ _ | refine Below.alloc' ?_ _ | (refine Below.setCell ?_ (by first | omega | (simp; done) | (simp; omega) | exact Below.size (by assumption) | exact Nat.le_trans (Below.size (by assumption)) (by simp)) _) | (refine Below.via' ?_ (by assumption)) | (refine Below.alloc ?_ (by first | omega | (simp; done) | (simp; omega) | exact Below.size (by assumption) | exact Nat.le_trans (Below.size (by assumption)) (by simp)) _) | (refine Below.via ?_ (by assumption) (by first | omega | (simp; done) | (simp; omega) | exact Below.size (by assumption) | exact Nat.le_trans (Below.size (by assumption)) (by simp)))))
  have g0 : Hid (QB w0 w.heap.size p P.length c) := by
    rw [hw0]
    exact p1.out.below (show Below (w.alloc (.cells #[.slice p P.length c] 33)).heap.size (w.alloc (.cells #[.slice p P.length c] 33)) _ from (by repeat (first | exact Below.refl _ _ | assumption | refine Below.drew ?_ | refine below_drewN ?_ _ | refine Below.alloc' ?_ _ | (refine Below.setCell ?_ (by first | omega | (simp; done) | (simp; omega) | exact Below.size (by assumption) | exact Nat.le_trans (Below.size (by assumption)) (by simp)) _) | (refine Below.via' ?_ (by assumption)) | (refine Below.alloc ?_ (by first | omega | (simp; done) | (simp; omega) | exact Below.size (by assumption) | exact Nat.le_trans (Below.size (by assumption)) (by simp)) _) | (refine Below.via ?_ (by assumption) (by first | omega | (simp; done) | (simp; omega) | exact Below.size (by assumption) | exact Nat.le_trans (Below.size (by assumption)) (by simp))))))
  have t0 : Hid (TQ w0 (w.heap.size + 1) l x F.length c2 z W.length c3 m) := by
    rw [hw0]
    have h0 := p2.out.below (show Below ((w.alloc (.cells #[.slice p P.length c] 33)).alloc (.cells #[.int .i64 l, .slice x F.length c2, .slice z W.length c3, .int .i64 m] 37)).heap.size ((w.alloc (.cells #[.slice p P.length c] 33)).alloc (.cells #[.int .i64 l, .slice x F.length c2, .slice z W.length c3, .int .i64 m] 37)) (((w.alloc (.cells #[.slice p P.length c] 33)).alloc (.cells #[.int .i64 l, .slice x F.length c2, .slice z W.length c3, .int .i64 m] 37)).alloc (.cells #[.slice none 0 0, .int .i64 0, .slice none 0 0, .slice none 0 0, .int .i64 0, .slice none 0 0, .slice none 0 0] 60)) from (by repeat (first | exact Below.refl _ _ | assumption | refine Below.drew ?_ | refine below_drewN ?_ _ | refine Below.alloc' ?_ _ | (refine Below.setCell ?_ (by first | omega | (simp; done) | (simp; omega) | exact Below.size (by assumption) | exact Nat.le_trans (Below.size (by assumption)) (by simp)) _) | (refine Below.via' ?_ (by assumption)) | (refine Below.alloc ?_ (by first | omega | (simp; done) | (simp; omega) | exact Below.size (by assumption) | exact Nat.le_trans (Below.size (by assumption)) (by simp)) _) | (refine Below.via ?_ (by assumption) (by first | omega | (simp; done) | (simp; omega) | exact Below.size (by assumption) | exact Nat.le_trans (Below.size (by assumption)) (by simp))))))
    rw [World.size_alloc] at h0
    exact h0
  have r0 : Hid (Wb w0 (w.heap.size + 1 + 1) 60 #[.slice none 0 0, .int .i64 0, .slice none 0 0, .slice none 0 0, .int .i64 0, .slice none 0 0, .slice none 0 0]) := by
    have h0 := p3.out
    rw [World.size_alloc, World.size_alloc, ← hw0] at h0
    exact h0
  have z0 : w0.heap.size = w.heap.size + 1 + 1 + 1 := by rw [hw0]; simp
  clear p1 p2 p3
  go_enter Tryd.func31, Tryd.ntmps31
  go_wp2_with fail
  rw [← hw0]
  replace hw0 := Lib.hid hw0
  have z0h := Lib.hid z0
  refine (iGeo_any _ _ P _ (hPh.out.below B0)).mono ?_
  rintro e w1 ⟨rfl, hb1⟩
  have s1 : w.heap.size + 1 + 1 < w1.heap.size := by have := hb1.size; omega
  clear z0
  have B1 : Below w.heap.size w w1 := Below.via' B0 hb1
  have g1 := Lib.hid (g0.out.below hb1)
  have t1 := Lib.hid (t0.out.below hb1)
  have r1 := Lib.hid (r0.out.kept hb1)
  obtain ⟨ka1, kb1, kc1⟩ := g1.out
  obtain ⟨ta1, tb1, tc1, td1, te1⟩ := t1.out
  have y1_0 := (r1.out.read 0).trans rfl
  have y1_1 := (r1.out.read 1).trans rfl
  have y1_2 := (r1.out.read 2).trans rfl
  have y1_3 := (r1.out.read 3).trans rfl
  have y1_4 := (r1.out.read 4).trans rfl
  have y1_5 := (r1.out.read 5).trans rfl
  have y1_6 := (r1.out.read 6).trans rfl
  have v1_0 := r1.out.free 0
  have v1_1 := r1.out.free 1
  have v1_2 := r1.out.free 2
  have v1_3 := r1.out.free 3
  have v1_4 := r1.out.free 4
  have v1_5 := r1.out.free 5
  have v1_6 := r1.out.free 6
  try clear ka0 kb0 kc0 ta0 tb0 tc0 td0 te0 y0_0 y0_1 y0_2 y0_3 y0_4 y0_5 y0_6 v0_0 v0_1 v0_2 v0_3 v0_4 v0_5 v0_6
  clear hb1
  cases hg : geB P
  · skip
    go_wp2
    refine bodyPost_ret (v := .tuple #[.agg #[.slice none 0 0, .int .i64 0, .slice none 0 0, .slice none 0 0, .int .i64 0, .slice none 0 0, .slice none 0 0], .bool false]) (by simp [results, Tryd.results31, go_sem, *]) rfl ⟨?_, Or.inl ⟨fun h => ?_, rfl⟩⟩
    · repeat (refine Below.setCell ?_ (by simp; try omega) _)
      exact B1
    · rw [h.g] at hg; cases hg
  have hgh := Lib.hid hg
  clear hg
  go_wp2_with fail
  refine (isSch_x _ _ _ _ (hSh.out.below B1)).mono ?_
  rintro e w2 ⟨rfl, hb2⟩
  have s2 : w.heap.size + 1 + 1 < w2.heap.size := Nat.lt_of_lt_of_le s1 hb2.size
  clear s1
  have B2 : Below w.heap.size w w2 := Below.via' B1 hb2
  have g2 := Lib.hid (g1.out.below hb2)
  have t2 := Lib.hid (t1.out.below hb2)
  have r2 := Lib.hid (r1.out.kept hb2)
  obtain ⟨ka2, kb2, kc2⟩ := g2.out
  obtain ⟨ta2, tb2, tc2, td2, te2⟩ := t2.out
  have y2_0 := (r2.out.read 0).trans rfl
  have y2_1 := (r2.out.read 1).trans rfl
  have y2_2 := (r2.out.read 2).trans rfl
  have y2_3 := (r2.out.read 3).trans rfl
  have y2_4 := (r2.out.read 4).trans rfl
  have y2_5 := (r2.out.read 5).trans rfl
  have y2_6 := (r2.out.read 6).trans rfl
  have v2_0 := r2.out.free 0
  have v2_1 := r2.out.free 1
  have v2_2 := r2.out.free 2
  have v2_3 := r2.out.free 3
  have v2_4 := r2.out.free 4
  have v2_5 := r2.out.free 5
  have v2_6 := r2.out.free 6
  try clear ka1 kb1 kc1 ta1 tb1 tc1 td1 te1 y1_0 y1_1 y1_2 y1_3 y1_4 y1_5 y1_6 v1_0 v1_1 v1_2 v1_3 v1_4 v1_5 v1_6
  clear hb2
  cases hs : schB S
  · skip
    go_wp2
    refine bodyPost_ret (v := .tuple #[.agg #[.slice none 0 0, .int .i64 0, .slice none 0 0, .slice none 0 0, .int .i64 0, .slice none 0 0, .slice none 0 0], .bool false]) (by simp [results, Tryd.results31, go_sem, *]) rfl ⟨?_, Or.inl ⟨fun h => ?_, rfl⟩⟩
    · repeat (refine Below.setCell ?_ (by simp; try omega) _)
      exact B2
    · rw [h.s] at hs; cases hs
  have hsh := Lib.hid hs
  have h6 := (schB_len hs).2
  clear hs
  go_wp2_with fail
  refine (areVariablesOf_any _ _ _ _ S F _ hm (hFh.out.below B2)).mono ?_
  rintro e w3 ⟨rfl, rfl⟩
  cases hr : rsB S F
  · skip
    go_wp2
    refine bodyPost_ret (v := .tuple #[.agg #[.slice none 0 0, .int .i64 0, .slice none 0 0, .slice none 0 0, .int .i64 0, .slice none 0 0, .slice none 0 0], .bool false]) (by simp [results, Tryd.results31, go_sem, *]) rfl ⟨?_, Or.inl ⟨fun h => ?_, rfl⟩⟩
    · repeat (refine Below.setCell ?_ (by simp; try omega) _)
      exact B2
    · rw [h.r] at hr; cases hr
  have hrh := Lib.hid hr
  clear hr
  go_wp2_with fail
  refine (areCond_any _ _ _ _ S W _ hsh.out hm (hSh.out.rd.below B2) (hWh.out.below B2)).mono ?_
  rintro e w4 ⟨rfl, hb4⟩
  have s4 : w.heap.size + 1 + 1 < w4.heap.size := Nat.lt_of_lt_of_le s2 hb4.size
  clear s2
  have B4 : Below w.heap.size w w4 := Below.via' B2 hb4
  have g4 := Lib.hid (g2.out.below hb4)
  have t4 := Lib.hid (t2.out.below hb4)
  have r4 := Lib.hid (r2.out.kept hb4)
  obtain ⟨ka4, kb4, kc4⟩ := g4.out
  obtain ⟨ta4, tb4, tc4, td4, te4⟩ := t4.out
  have y4_0 := (r4.out.read 0).trans rfl
  have y4_1 := (r4.out.read 1).trans rfl
  have y4_2 := (r4.out.read 2).trans rfl
  have y4_3 := (r4.out.read 3).trans rfl
  have y4_4 := (r4.out.read 4).trans rfl
  have y4_5 := (r4.out.read 5).trans rfl
  have y4_6 := (r4.out.read 6).trans rfl
  have v4_0 := r4.out.free 0
  have v4_1 := r4.out.free 1
  have v4_2 := r4.out.free 2
  have v4_3 := r4.out.free 3
  have v4_4 := r4.out.free 4
  have v4_5 := r4.out.free 5
  have v4_6 := r4.out.free 6
  try clear ka2 kb2 kc2 ta2 tb2 tc2 td2 te2 y2_0 y2_1 y2_2 y2_3 y2_4 y2_5 y2_6 v2_0 v2_1 v2_2 v2_3 v2_4 v2_5 v2_6
  clear hb4
  cases hw : twB S W
  · skip
    go_wp2
    refine bodyPost_ret (v := .tuple #[.agg #[.slice none 0 0, .int .i64 0, .slice none 0 0, .slice none 0 0, .int .i64 0, .slice none 0 0, .slice none 0 0], .bool false]) (by simp [results, Tryd.results31, go_sem, *]) rfl ⟨?_, Or.inl ⟨fun h => ?_, rfl⟩⟩
    · repeat (refine Below.setCell ?_ (by simp; try omega) _)
      exact B4
    · rw [h.w] at hw; cases hw
  have hwh := Lib.hid hw
  clear hw
  by_cases hm0 : m < -1
  · skip
    go_wp2
    refine bodyPost_ret (v := .tuple #[.agg #[.slice none 0 0, .int .i64 0, .slice none 0 0, .slice none 0 0, .int .i64 0, .slice none 0 0, .slice none 0 0], .bool false]) (by simp [results, Tryd.results31, go_sem, *]) rfl ⟨?_, Or.inl ⟨fun h => ?_, rfl⟩⟩
    · repeat (refine Below.setCell ?_ (by simp; try omega) _)
      exact B4
    · have := h.m0; omega
  by_cases hm1 : (S.length : Int) ≤ m
  · skip
    go_wp2
    refine bodyPost_ret (v := .tuple #[.agg #[.slice none 0 0, .int .i64 0, .slice none 0 0, .slice none 0 0, .int .i64 0, .slice none 0 0, .slice none 0 0], .bool false]) (by simp [results, Tryd.results31, go_sem, *]) rfl ⟨?_, Or.inl ⟨fun h => ?_, rfl⟩⟩
    · repeat (refine Below.setCell ?_ (by simp; try omega) _)
      exact B4
    · have := h.m1; omega
  have hip := Lib.hid (inP_of hsh.out hrh.out rfl)
  have hpt := Lib.hid (tbS_ok hsh.out hrh.out)
  have hl30 := (ge_len hgh.out).2
  have hlv := Lib.hid (lv_aw P l)
  have s4a : w.heap.size < w4.heap.size := by omega
  have s4b : w.heap.size + 1 < w4.heap.size := by omega
  go_upto_region 5 with fail
  go_cut [8] (fun s8 wx => ∃ g ga ca va, s8 = .pointer (some ⟨g, 0, none⟩) ∧ G7 wx g (.slice p P.length c) (.int .i64 l) (.slice x F.length c2) (.slice z W.length c3) (.int .i64 m) (.slice ga (lvL P l).length ca) (.slice (some ⟨va, 0, none⟩) (tbS S F).length (tbS S F).length) ∧ Rd wx ga (iC (lvL P l)) ∧ Rd wx (some ⟨va, 0, none⟩) (vC (tbS S F)) ∧ va < wx.heap.size ∧ (∀ k off, ga = some ⟨k, off, none⟩ → w4.heap.size ≤ k) ∧ w4.heap.size ≤ va ∧ Below w4.heap.size w4 wx)
  case first =>
      clear y4_0 y4_1 y4_2 y4_3 y4_4 y4_5 y4_6 v4_0 v4_1 v4_2 v4_3 v4_4 v4_5 v4_6 hm0 hm1 kb4 kc4 h6
      refine wp_region_held_drew (S := fun X => Below w4.heap.size w4 X) (by kernel_rfl) (Below.drew (Below.refl _ _)) (fun hH => ?_)
      refine wpAnyH_take (i := 0) (v := ?_) rfl (by kernel_rfl) (by kernel_rfl) (by kernel_rfl) (fun _ _ _ h => h) (Or.inl ⟨by rfl, ?_⟩) (by assumption) ?_; rotate_left; · (intro wz hz; (have f0 := (hz.cell (p := ⟨w.heap.size, 0, none⟩) s4a).trans ka4; have f1 := (hz.cell (p := ⟨w.heap.size + 1, 0, none⟩) s4b).trans ta4; have f2 := (hz.cell (p := ⟨w.heap.size + 1, 1, none⟩) s4b).trans tb4; have f3 := (hz.cell (p := ⟨w.heap.size + 1, 2, none⟩) s4b).trans tc4; have f4 := (hz.cell (p := ⟨w.heap.size + 1, 3, none⟩) s4b).trans td4); clear hz; go_simp; try with_reducible rfl); (try simp only [Act.put, List.getElem_toArray, List.getElem_cons_succ, List.getElem_cons_zero, List.setIfInBounds_toArray, List.set_cons_zero, List.set_cons_succ])
      refine wpAnyH_take (i := 1) (v := ?_) rfl (by kernel_rfl) (by kernel_rfl) (by kernel_rfl) (fun _ _ _ h => h) (Or.inl ⟨by rfl, ?_⟩) (by assumption) ?_; rotate_left; · (intro wz hz; (have f0 := (hz.cell (p := ⟨w.heap.size, 0, none⟩) s4a).trans ka4; have f1 := (hz.cell (p := ⟨w.heap.size + 1, 0, none⟩) s4b).trans ta4; have f2 := (hz.cell (p := ⟨w.heap.size + 1, 1, none⟩) s4b).trans tb4; have f3 := (hz.cell (p := ⟨w.heap.size + 1, 2, none⟩) s4b).trans tc4; have f4 := (hz.cell (p := ⟨w.heap.size + 1, 3, none⟩) s4b).trans td4); clear hz; go_simp; try with_reducible rfl); (try simp only [Act.put, List.getElem_toArray, List.getElem_cons_succ, List.getElem_cons_zero, List.setIfInBounds_toArray, List.set_cons_zero, List.set_cons_succ])
      refine wpAnyH_take (i := 2) (v := ?_) rfl (by kernel_rfl) (by kernel_rfl) (by kernel_rfl) (fun _ _ _ h => h) (Or.inl ⟨by rfl, ?_⟩) (by assumption) ?_; rotate_left; · (intro wz hz; (have f0 := (hz.cell (p := ⟨w.heap.size, 0, none⟩) s4a).trans ka4; have f1 := (hz.cell (p := ⟨w.heap.size + 1, 0, none⟩) s4b).trans ta4; have f2 := (hz.cell (p := ⟨w.heap.size + 1, 1, none⟩) s4b).trans tb4; have f3 := (hz.cell (p := ⟨w.heap.size + 1, 2, none⟩) s4b).trans tc4; have f4 := (hz.cell (p := ⟨w.heap.size + 1, 3, none⟩) s4b).trans td4); clear hz; go_simp; try with_reducible rfl); (try simp only [Act.put, List.getElem_toArray, List.getElem_cons_succ, List.getElem_cons_zero, List.setIfInBounds_toArray, List.set_cons_zero, List.set_cons_succ])
      refine wpAnyH_take (i := 4) (v := ?_) rfl (by kernel_rfl) (by kernel_rfl) (by kernel_rfl) (fun _ _ _ h => h) (Or.inl ⟨by rfl, ?_⟩) (by assumption) ?_; rotate_left; · (intro wz hz; (have f0 := (hz.cell (p := ⟨w.heap.size, 0, none⟩) s4a).trans ka4; have f1 := (hz.cell (p := ⟨w.heap.size + 1, 0, none⟩) s4b).trans ta4; have f2 := (hz.cell (p := ⟨w.heap.size + 1, 1, none⟩) s4b).trans tb4; have f3 := (hz.cell (p := ⟨w.heap.size + 1, 2, none⟩) s4b).trans tc4; have f4 := (hz.cell (p := ⟨w.heap.size + 1, 3, none⟩) s4b).trans td4); clear hz; go_simp; try with_reducible rfl); (try simp only [Act.put, List.getElem_toArray, List.getElem_cons_succ, List.getElem_cons_zero, List.setIfInBounds_toArray, List.set_cons_zero, List.set_cons_succ])
      refine wpAnyH_take (i := 5) (v := ?_) rfl (by kernel_rfl) (by kernel_rfl) (by kernel_rfl) (fun _ _ _ h => h) (Or.inl ⟨by rfl, ?_⟩) (by assumption) ?_; rotate_left; · (intro wz hz; (have f0 := (hz.cell (p := ⟨w.heap.size, 0, none⟩) s4a).trans ka4; have f1 := (hz.cell (p := ⟨w.heap.size + 1, 0, none⟩) s4b).trans ta4; have f2 := (hz.cell (p := ⟨w.heap.size + 1, 1, none⟩) s4b).trans tb4; have f3 := (hz.cell (p := ⟨w.heap.size + 1, 2, none⟩) s4b).trans tc4; have f4 := (hz.cell (p := ⟨w.heap.size + 1, 3, none⟩) s4b).trans td4); clear hz; go_simp; try with_reducible rfl); (try simp only [Act.put, List.getElem_toArray, List.getElem_cons_succ, List.getElem_cons_zero, List.setIfInBounds_toArray, List.set_cons_zero, List.set_cons_succ])
      refine wpAnyH_take (i := 7) (v := ?_) rfl (by kernel_rfl) (by kernel_rfl) (by kernel_rfl) (fun _ _ _ h => h) (Or.inl ⟨by rfl, ?_⟩) (by assumption) ?_; rotate_left; · (intro wz hz; (have f0 := (hz.cell (p := ⟨w.heap.size, 0, none⟩) s4a).trans ka4; have f1 := (hz.cell (p := ⟨w.heap.size + 1, 0, none⟩) s4b).trans ta4; have f2 := (hz.cell (p := ⟨w.heap.size + 1, 1, none⟩) s4b).trans tb4; have f3 := (hz.cell (p := ⟨w.heap.size + 1, 2, none⟩) s4b).trans tc4; have f4 := (hz.cell (p := ⟨w.heap.size + 1, 3, none⟩) s4b).trans td4); clear hz; go_simp; try with_reducible rfl); (try simp only [Act.put, List.getElem_toArray, List.getElem_cons_succ, List.getElem_cons_zero, List.setIfInBounds_toArray, List.set_cons_zero, List.set_cons_succ])
      refine wpAnyH_take (i := 8) (v := ?_) rfl (by kernel_rfl) (by kernel_rfl) (by kernel_rfl) (fun _ _ _ h => h) (Or.inl ⟨by rfl, ?_⟩) (by assumption) ?_; rotate_left; · (intro wz hz; (have f0 := (hz.cell (p := ⟨w.heap.size, 0, none⟩) s4a).trans ka4; have f1 := (hz.cell (p := ⟨w.heap.size + 1, 0, none⟩) s4b).trans ta4; have f2 := (hz.cell (p := ⟨w.heap.size + 1, 1, none⟩) s4b).trans tb4; have f3 := (hz.cell (p := ⟨w.heap.size + 1, 2, none⟩) s4b).trans tc4; have f4 := (hz.cell (p := ⟨w.heap.size + 1, 3, none⟩) s4b).trans td4); clear hz; go_simp; try with_reducible rfl); (try simp only [Act.put, List.getElem_toArray, List.getElem_cons_succ, List.getElem_cons_zero, List.setIfInBounds_toArray, List.set_cons_zero, List.set_cons_succ])
      refine wpAnyH_take (i := 9) (v := ?_) rfl (by kernel_rfl) (by kernel_rfl) (by kernel_rfl) (fun _ _ _ h => h) (Or.inl ⟨by rfl, ?_⟩) (by assumption) ?_; rotate_left; · (intro wz hz; (have f0 := (hz.cell (p := ⟨w.heap.size, 0, none⟩) s4a).trans ka4; have f1 := (hz.cell (p := ⟨w.heap.size + 1, 0, none⟩) s4b).trans ta4; have f2 := (hz.cell (p := ⟨w.heap.size + 1, 1, none⟩) s4b).trans tb4; have f3 := (hz.cell (p := ⟨w.heap.size + 1, 2, none⟩) s4b).trans tc4; have f4 := (hz.cell (p := ⟨w.heap.size + 1, 3, none⟩) s4b).trans td4); clear hz; go_simp; try with_reducible rfl); (try simp only [Act.put, List.getElem_toArray, List.getElem_cons_succ, List.getElem_cons_zero, List.setIfInBounds_toArray, List.set_cons_zero, List.set_cons_succ])
      refine wpAnyH_ready (rs := [3, 12]) (by kernel_rfl) (by simp) (AllReadyH.cons rfl (fun K hK => ?_) (AllReadyH.cons rfl (fun K hK => ?_) AllReadyH.nil))
      go_simp
      refine (depthsOf_any _ _ P _ hgh.out (hPh.out.below (Below.via' B4 hH))).mono ?_
      rintro e w5 ⟨v5, rfl, ho5, hb5⟩
      obtain ⟨x5, n5, rfl, -, -⟩ := (OwR.of ho5).form
      have hr5 := Lib.hid (Rd.of_own ho5)
      refine hK.out _ _ (Below.via' hH hb5) (fun h5 => ?_)
      clear hK K ho5
      (try simp only [Act.put, List.getElem_toArray, List.getElem_cons_succ, List.getElem_cons_zero, List.setIfInBounds_toArray, List.set_cons_zero, List.set_cons_succ])
      refine wpAnyH_ready (rs := [6, 12]) (by kernel_rfl) (by simp) (AllReadyH.cons rfl (fun K hK => ?_) (AllReadyH.cons rfl (fun K hK => ?_) AllReadyH.nil))
      go_simp
      refine (areasWith_any x5 n5 (dpL P) l _ (by rw [dpL_len]; omega) (hr5.out.below (by exact (by repeat (first | exact Below.refl _ _ | assumption | refine Below.drew ?_ | refine below_drewN ?_ _ | refine Below.alloc' ?_ _ | (refine Below.setCell ?_ (by first | omega | (simp; done) | (simp; omega) | exact Below.size (by assumption) | exact Nat.le_trans (Below.size (by assumption)) (by simp)) _) | (refine Below.via' ?_ (by assumption)) | (refine Below.alloc ?_ (by first | omega | (simp; done) | (simp; omega) | exact Below.size (by assumption) | exact Nat.le_trans (Below.size (by assumption)) (by simp)) _) | (refine Below.via ?_ (by assumption) (by first | omega | (simp; done) | (simp; omega) | exact Below.size (by assumption) | exact Nat.le_trans (Below.size (by assumption)) (by simp)))))))).mono ?_
      rintro e w6 ⟨v6, rfl, ho6, hb6⟩
      rw [hlv.out] at ho6
      (try simp only [World.size_alloc] at ho6)
      obtain ⟨x6, n6, rfl, -, -⟩ := (OwR.of ho6).form
      have hA6 := Lib.hid (OwR.of ho6)
      refine hK.out _ _ (Below.via' h5 hb6) (fun h6 => ?_)
      clear hK K ho6
      (try simp only [Act.put, List.getElem_toArray, List.getElem_cons_succ, List.getElem_cons_zero, List.setIfInBounds_toArray, List.set_cons_zero, List.set_cons_succ])
      refine wpAnyH_ready (rs := [10, 12]) (by kernel_rfl) (by simp) (AllReadyH.cons rfl (fun K hK => ?_) (AllReadyH.cons rfl (fun K hK => ?_) AllReadyH.nil))
      go_simp
      refine (elemsV_any _ _ _ _ S F _ hip.out (hSh.out.rd.below (Below.via' B4 h6)) (hFh.out.2.2.below (Below.via' B4 h6))).mono ?_
      rintro e w7 ⟨rfl, ho7, hb7⟩
      (try simp only [World.size_alloc] at ho7)
      have hV7 := Lib.hid (OwR.of ho7)
      have hl7 := (hV7.out.2 _ rfl).2
      refine hK.out _ _ (Below.via' h6 hb7) (fun h7 => ?_)
      clear hK K ho7
      (try simp only [Act.put, List.getElem_toArray, List.getElem_cons_succ, List.getElem_cons_zero, List.setIfInBounds_toArray, List.set_cons_zero, List.set_cons_succ])
      refine wpAnyH_take (i := 11) (v := ?_) rfl (by kernel_rfl) (by kernel_rfl) (by kernel_rfl) (fun _ _ _ h => h) (Or.inl ⟨by rfl, ?_⟩) (by assumption) ?_; rotate_left; · (intro wz hz; (skip); clear hz; go_simp; try with_reducible rfl); (try simp only [Act.put, List.getElem_toArray, List.getElem_cons_succ, List.getElem_cons_zero, List.setIfInBounds_toArray, List.set_cons_zero, List.set_cons_succ])
      refine wpAnyH_ready (rs := [12]) (by kernel_rfl) (by simp) (AllReadyH.cons rfl (fun K hK => ?_) AllReadyH.nil)
      go_simp
      refine hK.out _ _ (Below.alloc' h7 _) (fun h8 => ?_)
      clear hK K
      (try simp only [Act.put, List.getElem_toArray, List.getElem_cons_succ, List.getElem_cons_zero, List.setIfInBounds_toArray, List.set_cons_zero, List.set_cons_succ])
      have e7 := h7.size
      have e76 := hb7.size
      have e65 := hb6.size
      refine wpAnyH_ready (rs := [13]) (by kernel_rfl) (by simp) (AllReadyH.cons rfl (fun K hK => ?_) AllReadyH.nil)
      refine ite_go (by rfl) ?_
      refine wp_store_mid 60 (.tmp 8) (.tmp 54) rfl (w7.heap.size) 0 _ rfl rfl (there7 (Wb.new w7 60 #[.slice none 0 0, .int .i64 0, .slice none 0 0, .slice none 0 0, .int .i64 0, .slice none 0 0, .slice none 0 0]) rfl) (by kernel_rfl) (by rw [Array.all_eq_true_iff_forall_mem]; intro v hv; simp at hv; rcases hv with rfl | rfl | rfl | rfl | rfl | rfl | rfl <;> rfl) ?_
      refine hK.out _ _ (gd_end _ h8 (by omega) ((hA6.out.below hb7).below (Below.alloc' (Below.refl _ _) _)) (by (right; omega)) (hV7.out.below (Below.alloc' (Below.refl _ _) _)) (by (right; omega))).1 (fun hH9 => ?_)
      clear hK K
      refine wpAnyH_done (by kernel_rfl) ?_ _
      go_wp2_with fail
      go_meet
      refine ⟨_, x6, n6, _, rfl, (by rw [tbS_len]; exact g7_set (Wb.new w7 60 #[.slice none 0 0, .int .i64 0, .slice none 0 0, .slice none 0 0, .int .i64 0, .slice none 0 0, .slice none 0 0]) rfl _ _ _ _ _ _ _), (gd_end _ h8 (by omega) ((hA6.out.below hb7).below (Below.alloc' (Below.refl _ _) _)) (by (right; omega)) (hV7.out.below (Below.alloc' (Below.refl _ _) _)) (by (right; omega))).2.1, (gd_end _ h8 (by omega) ((hA6.out.below hb7).below (Below.alloc' (Below.refl _ _) _)) (by (right; omega)) (hV7.out.below (Below.alloc' (Below.refl _ _) _)) (by (right; omega))).2.2, Nat.lt_of_lt_of_le ?_ (setCells_size _ _ _ _), (fun k off e => by have h0 := (OwR.inr hA6.out k off e).1; have h1 := h5.size; first | omega | (simp at h0; omega)), (by have h0 := (OwR.inr hV7.out _ _ rfl).1; have h1 := h6.size; first | omega | (simp at h0; omega)), hH9⟩
      (simp; omega)
      go_simp
      refine hK.out _ _ (Below.alloc' h6 _) (fun h6b => ?_)
      clear hK K
      (try simp only [Act.put, List.getElem_toArray, List.getElem_cons_succ, List.getElem_cons_zero, List.setIfInBounds_toArray, List.set_cons_zero, List.set_cons_succ])
      refine wpAnyH_ready (rs := [10]) (by kernel_rfl) (by simp) (AllReadyH.cons rfl (fun K hK => ?_) AllReadyH.nil)
      go_simp
      refine (elemsV_any _ _ _ _ S F _ hip.out (hSh.out.rd.below (Below.via' B4 h6b)) (hFh.out.2.2.below (Below.via' B4 h6b))).mono ?_
      rintro e w7 ⟨rfl, ho7, hb7⟩
      (try simp only [World.size_alloc] at ho7)
      have hV7 := Lib.hid (OwR.of ho7)
      have hl7 := (hV7.out.2 _ rfl).2
      refine hK.out _ _ (Below.via' h6b hb7) (fun h7 => ?_)
      clear hK K ho7
      (try simp only [Act.put, List.getElem_toArray, List.getElem_cons_succ, List.getElem_cons_zero, List.setIfInBounds_toArray, List.set_cons_zero, List.set_cons_succ])
      refine wpAnyH_take (i := 11) (v := ?_) rfl (by kernel_rfl) (by kernel_rfl) (by kernel_rfl) (fun _ _ _ h => h) (Or.inl ⟨by rfl, ?_⟩) (by assumption) ?_; rotate_left; · (intro wz hz; (skip); clear hz; go_simp; try with_reducible rfl); (try simp only [Act.put, List.getElem_toArray, List.getElem_cons_succ, List.getElem_cons_zero, List.setIfInBounds_toArray, List.set_cons_zero, List.set_cons_succ])
      have e6 := h6.size
      refine wpAnyH_ready (rs := [13]) (by kernel_rfl) (by simp) (AllReadyH.cons rfl (fun K hK => ?_) AllReadyH.nil)
      refine ite_go (by rfl) ?_
      refine wp_store_mid 60 (.tmp 8) (.tmp 54) rfl (w6.heap.size) 0 _ rfl rfl (there7 ((Wb.new w6 60 #[.slice none 0 0, .int .i64 0, .slice none 0 0, .slice none 0 0, .int .i64 0, .slice none 0 0, .slice none 0 0]).kept hb7) rfl) (by kernel_rfl) (by rw [Array.all_eq_true_iff_forall_mem]; intro v hv; simp at hv; rcases hv with rfl | rfl | rfl | rfl | rfl | rfl | rfl <;> rfl) ?_
      refine hK.out _ _ (gd_end _ h7 (by omega) ((hA6.out.below (Below.alloc' (Below.refl _ _) _)).below hb7) (by (right; omega)) hV7.out (by (left; simp))).1 (fun hH9 => ?_)
      clear hK K
      refine wpAnyH_done (by kernel_rfl) ?_ _
      go_wp2_with fail
      go_meet
      refine ⟨_, x6, n6, _, rfl, (by rw [tbS_len]; exact g7_set ((Wb.new w6 60 #[.slice none 0 0, .int .i64 0, .slice none 0 0, .slice none 0 0, .int .i64 0, .slice none 0 0, .slice none 0 0]).kept hb7) rfl _ _ _ _ _ _ _), (gd_end _ h7 (by omega) ((hA6.out.below (Below.alloc' (Below.refl _ _) _)).below hb7) (by (right; omega)) hV7.out (by (left; simp))).2.1, (gd_end _ h7 (by omega) ((hA6.out.below (Below.alloc' (Below.refl _ _) _)).below hb7) (by (right; omega)) hV7.out (by (left; simp))).2.2, Nat.lt_of_lt_of_le ?_ (setCells_size _ _ _ _), (fun k off e => by have h0 := (OwR.inr hA6.out k off e).1; have h1 := h5.size; first | omega | (simp at h0; omega)), (by have h0 := (OwR.inr hV7.out _ _ rfl).1; have h1 := h6.size; first | omega | (simp at h0; omega)), hH9⟩
      exact hl7
      go_simp
      refine hK.out _ _ (Below.alloc' h5 _) (fun h5b => ?_)
      clear hK K
      (try simp only [Act.put, List.getElem_toArray, List.getElem_cons_succ, List.getElem_cons_zero, List.setIfInBounds_toArray, List.set_cons_zero, List.set_cons_succ])
      refine wpAnyH_ready (rs := [6]) (by kernel_rfl) (by simp) (AllReadyH.cons rfl (fun K hK => ?_) AllReadyH.nil)
      go_simp
      refine (areasWith_any x5 n5 (dpL P) l _ (by rw [dpL_len]; omega) (hr5.out.below (by exact (by repeat (first | exact Below.refl _ _ | assumption | refine Below.drew ?_ | refine below_drewN ?_ _ | refine Below.alloc' ?_ _ | (refine Below.setCell ?_ (by first | omega | (simp; done) | (simp; omega) | exact Below.size (by assumption) | exact Nat.le_trans (Below.size (by assumption)) (by simp)) _) | (refine Below.via' ?_ (by assumption)) | (refine Below.alloc ?_ (by first | omega | (simp; done) | (simp; omega) | exact Below.size (by assumption) | exact Nat.le_trans (Below.size (by assumption)) (by simp)) _) | (refine Below.via ?_ (by assumption) (by first | omega | (simp; done) | (simp; omega) | exact Below.size (by assumption) | exact Nat.le_trans (Below.size (by assumption)) (by simp)))))))).mono ?_
      rintro e w6 ⟨v6, rfl, ho6, hb6⟩
      rw [hlv.out] at ho6
      (try simp only [World.size_alloc] at ho6)
      obtain ⟨x6, n6, rfl, -, -⟩ := (OwR.of ho6).form
      have hA6 := Lib.hid (OwR.of ho6)
      refine hK.out _ _ (Below.via' h5b hb6) (fun h6 => ?_)
      clear hK K ho6
      (try simp only [Act.put, List.getElem_toArray, List.getElem_cons_succ, List.getElem_cons_zero, List.setIfInBounds_toArray, List.set_cons_zero, List.set_cons_succ])
      refine wpAnyH_ready (rs := [10]) (by kernel_rfl) (by simp) (AllReadyH.cons rfl (fun K hK => ?_) AllReadyH.nil)
      go_simp
      refine (elemsV_any _ _ _ _ S F _ hip.out (hSh.out.rd.below (Below.via' B4 h6)) (hFh.out.2.2.below (Below.via' B4 h6))).mono ?_
      rintro e w7 ⟨rfl, ho7, hb7⟩
      (try simp only [World.size_alloc] at ho7)
      have hV7 := Lib.hid (OwR.of ho7)
      have hl7 := (hV7.out.2 _ rfl).2
      refine hK.out _ _ (Below.via' h6 hb7) (fun h7 => ?_)
      clear hK K ho7
      (try simp only [Act.put, List.getElem_toArray, List.getElem_cons_succ, List.getElem_cons_zero, List.setIfInBounds_toArray, List.set_cons_zero, List.set_cons_succ])
      refine wpAnyH_take (i := 11) (v := ?_) rfl (by kernel_rfl) (by kernel_rfl) (by kernel_rfl) (fun _ _ _ h => h) (Or.inl ⟨by rfl, ?_⟩) (by assumption) ?_; rotate_left; · (intro wz hz; (skip); clear hz; go_simp; try with_reducible rfl); (try simp only [Act.put, List.getElem_toArray, List.getElem_cons_succ, List.getElem_cons_zero, List.setIfInBounds_toArray, List.set_cons_zero, List.set_cons_succ])
      have e5 := h5.size
      have e6 := hb6.size
      rw [World.size_alloc] at e6
      refine wpAnyH_ready (rs := [13]) (by kernel_rfl) (by simp) (AllReadyH.cons rfl (fun K hK => ?_) AllReadyH.nil)
      refine ite_go (by rfl) ?_
      refine wp_store_mid 60 (.tmp 8) (.tmp 54) rfl (w5.heap.size) 0 _ rfl rfl (there7 (((Wb.new w5 60 #[.slice none 0 0, .int .i64 0, .slice none 0 0, .slice none 0 0, .int .i64 0, .slice none 0 0, .slice none 0 0]).kept hb6).kept hb7) rfl) (by kernel_rfl) (by rw [Array.all_eq_true_iff_forall_mem]; intro v hv; simp at hv; rcases hv with rfl | rfl | rfl | rfl | rfl | rfl | rfl <;> rfl) ?_
      refine hK.out _ _ (gd_end _ h7 (by omega) (hA6.out.below hb7) (by (left; simp)) hV7.out (by (left; omega))).1 (fun hH9 => ?_)
      clear hK K
      refine wpAnyH_done (by kernel_rfl) ?_ _
      go_wp2_with fail
      go_meet
      refine ⟨_, x6, n6, _, rfl, (by rw [tbS_len]; exact g7_set (((Wb.new w5 60 #[.slice none 0 0, .int .i64 0, .slice none 0 0, .slice none 0 0, .int .i64 0, .slice none 0 0, .slice none 0 0]).kept hb6).kept hb7) rfl _ _ _ _ _ _ _), (gd_end _ h7 (by omega) (hA6.out.below hb7) (by (left; simp)) hV7.out (by (left; omega))).2.1, (gd_end _ h7 (by omega) (hA6.out.below hb7) (by (left; simp)) hV7.out (by (left; omega))).2.2, Nat.lt_of_lt_of_le ?_ (setCells_size _ _ _ _), (fun k off e => by have h0 := (OwR.inr hA6.out k off e).1; have h1 := h5.size; first | omega | (simp at h0; omega)), (by have h0 := (OwR.inr hV7.out _ _ rfl).1; have h1 := h6.size; first | omega | (simp at h0; omega)), hH9⟩
      exact hl7
      go_simp
      refine hK.out _ _ (Below.alloc' hH _) (fun h4b => ?_)
      clear hK K
      (try simp only [Act.put, List.getElem_toArray, List.getElem_cons_succ, List.getElem_cons_zero, List.setIfInBounds_toArray, List.set_cons_zero, List.set_cons_succ])
      refine wpAnyH_ready (rs := [3]) (by kernel_rfl) (by simp) (AllReadyH.cons rfl (fun K hK => ?_) AllReadyH.nil)
      go_simp
      refine (depthsOf_any _ _ P _ hgh.out (hPh.out.below (Below.via' B4 h4b))).mono ?_
      rintro e w5 ⟨v5, rfl, ho5, hb5⟩
      obtain ⟨x5, n5, rfl, -, -⟩ := (OwR.of ho5).form
      have hr5 := Lib.hid (Rd.of_own ho5)
      refine hK.out _ _ (Below.via' h4b hb5) (fun h5 => ?_)
      clear hK K ho5
      (try simp only [Act.put, List.getElem_toArray, List.getElem_cons_succ, List.getElem_cons_zero, List.setIfInBounds_toArray, List.set_cons_zero, List.set_cons_succ])
      refine wpAnyH_ready (rs := [6]) (by kernel_rfl) (by simp) (AllReadyH.cons rfl (fun K hK => ?_) AllReadyH.nil)
      go_simp
      refine (areasWith_any x5 n5 (dpL P) l _ (by rw [dpL_len]; omega) (hr5.out.below (by exact (by repeat (first | exact Below.refl _ _ | assumption | refine Below.drew ?_ | refine below_drewN ?_ _ | refine Below.alloc' ?_ _ | (refine Below.setCell ?_ (by first | omega | (simp; done) | (simp; omega) | exact Below.size (by assumption) | exact Nat.le_trans (Below.size (by assumption)) (by simp)) _) | (refine Below.via' ?_ (by assumption)) | (refine Below.alloc ?_ (by first | omega | (simp; done) | (simp; omega) | exact Below.size (by assumption) | exact Nat.le_trans (Below.size (by assumption)) (by simp)) _) | (refine Below.via ?_ (by assumption) (by first | omega | (simp; done) | (simp; omega) | exact Below.size (by assumption) | exact Nat.le_trans (Below.size (by assumption)) (by simp)))))))).mono ?_
      rintro e w6 ⟨v6, rfl, ho6, hb6⟩
      rw [hlv.out] at ho6
      (try simp only [World.size_alloc] at ho6)
      obtain ⟨x6, n6, rfl, -, -⟩ := (OwR.of ho6).form
      have hA6 := Lib.hid (OwR.of ho6)
      refine hK.out _ _ (Below.via' h5 hb6) (fun h6 => ?_)
      clear hK K ho6
      (try simp only [Act.put, List.getElem_toArray, List.getElem_cons_succ, List.getElem_cons_zero, List.setIfInBounds_toArray, List.set_cons_zero, List.set_cons_succ])
      refine wpAnyH_ready (rs := [10]) (by kernel_rfl) (by simp) (AllReadyH.cons rfl (fun K hK => ?_) AllReadyH.nil)
      go_simp
      refine (elemsV_any _ _ _ _ S F _ hip.out (hSh.out.rd.below (Below.via' B4 h6)) (hFh.out.2.2.below (Below.via' B4 h6))).mono ?_
      rintro e w7 ⟨rfl, ho7, hb7⟩
      (try simp only [World.size_alloc] at ho7)
      have hV7 := Lib.hid (OwR.of ho7)
      have hl7 := (hV7.out.2 _ rfl).2
      refine hK.out _ _ (Below.via' h6 hb7) (fun h7 => ?_)
      clear hK K ho7
      (try simp only [Act.put, List.getElem_toArray, List.getElem_cons_succ, List.getElem_cons_zero, List.setIfInBounds_toArray, List.set_cons_zero, List.set_cons_succ])
      refine wpAnyH_take (i := 11) (v := ?_) rfl (by kernel_rfl) (by kernel_rfl) (by kernel_rfl) (fun _ _ _ h => h) (Or.inl ⟨by rfl, ?_⟩) (by assumption) ?_; rotate_left; · (intro wz hz; (skip); clear hz; go_simp; try with_reducible rfl); (try simp only [Act.put, List.getElem_toArray, List.getElem_cons_succ, List.getElem_cons_zero, List.setIfInBounds_toArray, List.set_cons_zero, List.set_cons_succ])
      have gw4 : Wb (World.drew (w4.alloc (.cells #[.slice none 0 0, .int .i64 0, .slice none 0 0, .slice none 0 0, .int .i64 0, .slice none 0 0, .slice none 0 0] 60))) w4.heap.size 60 #[.slice none 0 0, .int .i64 0, .slice none 0 0, .slice none 0 0, .int .i64 0, .slice none 0 0, .slice none 0 0] := Wb.new w4 60 #[.slice none 0 0, .int .i64 0, .slice none 0 0, .slice none 0 0, .int .i64 0, .slice none 0 0, .slice none 0 0]
      have e5 : (w4.alloc (.cells #[.slice none 0 0, .int .i64 0, .slice none 0 0, .slice none 0 0, .int .i64 0, .slice none 0 0, .slice none 0 0] 60)).heap.size ≤ w5.heap.size := hb5.size
      rw [World.size_alloc] at e5
      have e6 := hb6.size
      refine wpAnyH_ready (rs := [13]) (by kernel_rfl) (by simp) (AllReadyH.cons rfl (fun K hK => ?_) AllReadyH.nil)
      refine ite_go (by rfl) ?_
      refine wp_store_mid 60 (.tmp 8) (.tmp 54) rfl (w4.heap.size) 0 _ rfl rfl (there7 (((gw4.kept hb5).kept hb6).kept hb7) rfl) (by kernel_rfl) (by rw [Array.all_eq_true_iff_forall_mem]; intro v hv; simp at hv; rcases hv with rfl | rfl | rfl | rfl | rfl | rfl | rfl <;> rfl) ?_
      refine hK.out _ _ (gd_end _ h7 (by omega) (hA6.out.below hb7) (by (left; omega)) hV7.out (by (left; omega))).1 (fun hH9 => ?_)
      clear hK K
      refine wpAnyH_done (by kernel_rfl) ?_ _
      go_wp2_with fail
      go_meet
      refine ⟨_, x6, n6, _, rfl, (by rw [tbS_len]; exact g7_set (((gw4.kept hb5).kept hb6).kept hb7) rfl _ _ _ _ _ _ _), (gd_end _ h7 (by omega) (hA6.out.below hb7) (by (left; omega)) hV7.out (by (left; omega))).2.1, (gd_end _ h7 (by omega) (hA6.out.below hb7) (by (left; omega)) hV7.out (by (left; omega))).2.2, Nat.lt_of_lt_of_le ?_ (setCells_size _ _ _ _), (fun k off e => by have h0 := (OwR.inr hA6.out k off e).1; have h1 := h5.size; first | omega | (simp at h0; omega)), (by have h0 := (OwR.inr hV7.out _ _ rfl).1; have h1 := h6.size; first | omega | (simp at h0; omega)), hH9⟩
      exact hl7
  obtain ⟨g, ga, ca, va, rfl, hG, hAr, hVr, hvl, hga, hva, hb5⟩ := hcut
  obtain ⟨w5, rfl⟩ : ∃ u : World, u = wc := ⟨_, rfl⟩
  have s5 : w.heap.size + 1 + 1 < w5.heap.size := Nat.lt_of_lt_of_le s4 hb5.size
  have hGh := Lib.hid hG
  have hAh := Lib.hid hAr
  have hVh := Lib.hid hVr
  have hgah := Lib.hid hga
  clear s4a s4b hG hAr hVr hga
  have B5 : Below w.heap.size w w5 := Below.via' B4 hb5
  have g5 := Lib.hid (g4.out.below hb5)
  have t5 := Lib.hid (t4.out.below hb5)
  have r5 := Lib.hid (r4.out.kept hb5)
  obtain ⟨ka5, kb5, kc5⟩ := g5.out
  obtain ⟨ta5, tb5, tc5, td5, te5⟩ := t5.out
  have y5_0 := (r5.out.read 0).trans rfl
  have y5_1 := (r5.out.read 1).trans rfl
  have y5_2 := (r5.out.read 2).trans rfl
  have y5_3 := (r5.out.read 3).trans rfl
  have y5_4 := (r5.out.read 4).trans rfl
  have y5_5 := (r5.out.read 5).trans rfl
  have y5_6 := (r5.out.read 6).trans rfl
  have v5_0 := r5.out.free 0
  have v5_1 := r5.out.free 1
  have v5_2 := r5.out.free 2
  have v5_3 := r5.out.free 3
  have v5_4 := r5.out.free 4
  have v5_5 := r5.out.free 5
  have v5_6 := r5.out.free 6
  try clear ka4 kb4 kc4 ta4 tb4 tc4 td4 te4 y4_0 y4_1 y4_2 y4_3 y4_4 y4_5 y4_6 v4_0 v4_1 v4_2 v4_3 v4_4 v4_5 v4_6
  clear hb5
  obtain ⟨i0, i1, i2, i3, i4, i5, i6, il⟩ := hGh.out
  by_cases hv0 : (lvL P l).length = 0
  · have hv1 : (((lvL P l).length : Int) == 0) = true := by rw [beq_iff_eq]; omega
    replace hv0 := Lib.hid hv0
    go_wp2
    refine bodyPost_ret (v := .tuple #[.agg #[.slice none 0 0, .int .i64 0, .slice none 0 0, .slice none 0 0, .int .i64 0, .slice none 0 0, .slice none 0 0], .bool false]) (by simp [results, Tryd.results31, go_sem, *]) rfl ⟨?_, Or.inl ⟨fun h => ?_, rfl⟩⟩
    · repeat (refine Below.setCell ?_ (by simp; try omega) _)
      exact B5
    · have := h.v; have := hv0.out; omega
  have hv1 : (((lvL P l).length : Int) == 0) = false := by rw [beq_eq_false_iff_ne]; omega
  have hl29 := lvL_len P l
  replace hv0 := Lib.hid hv0
  go_wp2_with fail
  refine (gcount_any _ _ _ _ _ _ _ _ _ _ _ _ _ _ _ (lvL P l) (tbS S F) _ hpt.out (by omega) hVh.out).mono ?_
  rintro e w6 ⟨rfl, hb6⟩
  have s6 : w.heap.size + 1 + 1 < w6.heap.size := Nat.lt_of_lt_of_le s5 hb6.size
  have e65 := hb6.size
  obtain ⟨j0, j1, j2, j3, j4, j5, j6, jl⟩ := hGh.out.below hb6
  have hA6 := Lib.hid (hAh.out.below hb6)
  have hV6 := Lib.hid (hVh.out.below hb6)
  clear i0 i1 i2 i3 i4 i5 i6 il
  have B6 : Below w.heap.size w w6 := Below.via' B5 hb6
  have g6 := Lib.hid (g5.out.below hb6)
  have t6 := Lib.hid (t5.out.below hb6)
  have r6 := Lib.hid (r5.out.kept hb6)
  obtain ⟨ka6, kb6, kc6⟩ := g6.out
  obtain ⟨ta6, tb6, tc6, td6, te6⟩ := t6.out
  have y6_0 := (r6.out.read 0).trans rfl
  have y6_1 := (r6.out.read 1).trans rfl
  have y6_2 := (r6.out.read 2).trans rfl
  have y6_3 := (r6.out.read 3).trans rfl
  have y6_4 := (r6.out.read 4).trans rfl
  have y6_5 := (r6.out.read 5).trans rfl
  have y6_6 := (r6.out.read 6).trans rfl
  have v6_0 := r6.out.free 0
  have v6_1 := r6.out.free 1
  have v6_2 := r6.out.free 2
  have v6_3 := r6.out.free 3
  have v6_4 := r6.out.free 4
  have v6_5 := r6.out.free 5
  have v6_6 := r6.out.free 6
  try clear ka5 kb5 kc5 ta5 tb5 tc5 td5 te5 y5_0 y5_1 y5_2 y5_3 y5_4 y5_5 y5_6 v5_0 v5_1 v5_2 v5_3 v5_4 v5_5 v5_6
  clear hb6
  clear hv1
  by_cases hc : 600 < ((lvL P l).length : Int) * cnZ (tbS S F)
  · skip
    go_wp2
    refine bodyPost_ret (v := .tuple #[.agg #[.slice none 0 0, .int .i64 0, .slice none 0 0, .slice none 0 0, .int .i64 0, .slice none 0 0, .slice none 0 0], .bool false]) (by simp [results, Tryd.results31, go_sem, *]) rfl ⟨?_, Or.inl ⟨fun h => ?_, rfl⟩⟩
    · repeat (refine Below.setCell ?_ (by simp; try omega) _)
      exact B6
    · have := h.c; unfold tcZ at this; omega
  have htg : Hid (TgP P S l F W m) := ⟨hgh.out, hsh.out, hrh.out, hwh.out, by omega, by omega, by have := hv0.out; omega, by unfold tcZ; omega⟩
  go_wp2
  refine bodyPost_ret (v := .tuple #[.agg #[.slice p P.length c, .int .i64 l, .slice x F.length c2, .slice z W.length c3, .int .i64 m, .slice ga (lvL P l).length ca, .slice (some ⟨va, 0, none⟩) (tbS S F).length (tbS S F).length], .bool true]) (by simp [results, Tryd.results31, go_sem, *]) rfl ⟨?_, Or.inr ⟨htg.out, ga, ca, va, rfl, iin_sel (by omega) ?_, ?_, ?_⟩⟩
  · repeat (refine Below.setCell ?_ (by simp; try omega) _)
    exact B6
  · repeat (refine rd_setCellT ?_ _ _ _ (fun k off e => by have := hgah.out k off e; omega))
    exact hA6.out
  · repeat (refine rd_setCellT ?_ _ _ _ (fun k off e => by injection e with e; injection e with e; omega))
    exact hV6.out
  · simp only [World.size_setCell]
    omega
end Go.Proofs.YtgkaalonmkcclaaDoor
