import Derived.Test.YtgkaalonmkcclaaPQeG
import Derived.Carry
import Derived.Test.YtgkaalonmkcclaaPQeC
import Derived.Test.YtgkaalonmkcclaaRecM
namespace Go.Proofs.Ytgkaalonmkcclaa
open Go.RowKit
set_option maxRecDepth 100000

set_option maxHeartbeats 16000000 in
theorem uCell_any (p y x z v : Option Addr) (c c1 c2 c3 c4 : Nat) (P : List Int) (S : List (ByteArray × Int)) (l : Int) (F W : List Int) (m : Int) (k : Nat) (h : Int) (V : List Int) (w : World) (htg : TgP P S l F W m) (hcl : ClP P S k V) (hP : IIn w p P) (hS : SIn w y c1 S) (hT : TIn w x z F W) (hV : IIn w v V) :
    Calls Try.prog 88 #[.agg #[.slice p P.length c], .slice y S.length c1, .agg #[.int .i64 l, .slice x F.length c2, .slice z W.length c3, .int .i64 m], .agg #[.int .i64 k, .int .i64 h, .slice v V.length c4]] w fun e w' => e = .returned (.tuple #[.int .i64 (clI P S l F W (k : Int) V), .int .i64 (clN P l W m (k : Int) V)]) ∧ Below w.heap.size w w' := by
  have p1 := Lib.hid (QB.new w p P.length c 33)
  have p2 := Lib.hid (TQ.new (w.alloc (.cells #[.slice p P.length c] 33)) l x F.length c2 z W.length c3 m 37)
  have p3 := Lib.hid (RB.new ((w.alloc (.cells #[.slice p P.length c] 33)).alloc (.cells #[.int .i64 l, .slice x F.length c2, .slice z W.length c3, .int .i64 m] 37)) k h v V.length c4 72)
  obtain ⟨w0, hw0⟩ : ∃ w0, w0 = ((w.alloc (.cells #[.slice p P.length c] 33)).alloc (.cells #[.int .i64 l, .slice x F.length c2, .slice z W.length c3, .int .i64 m] 37)).alloc (.cells #[.int .i64 k, .int .i64 h, .slice v V.length c4] 72) := ⟨_, rfl⟩
  have B0 : Below w.heap.size w w0 := by rw [hw0]; exact (by repeat (first | exact Below.refl _ _ | assumption | refine Below.drew ?_ | refine below_drewN ?_ _ | refine Below.alloc' ?_ _ | (refine Below.setCell ?_ (by first | omega | (simp; done) | (simp; omega) | exact Below.size (by assumption) | exact Nat.le_trans (Below.size (by assumption)) (by simp)) _) | (refine Below.via' ?_ (by assumption)) | (refine Below.alloc ?_ (by first | omega | (simp; done) | (simp; omega) | exact Below.size (by assumption) | exact Nat.le_trans (Below.size (by assumption)) (by simp)) _) | (refine Below.via ?_ (by assumption) (by first | omega | (simp; done) | (simp; omega) | exact Below.size (by assumption) | exact Nat.le_trans (Below.size (by assumption)) (by simp)))))
  have g0 : Hid (QB w0 w.heap.size p P.length c) := by
    rw [hw0]
    exact p1.out.below (show Below (w.alloc (.cells #[.slice p P.length c] 33)).heap.size (w.alloc (.cells #[.slice p P.length c] 33)) _ from (by repeat (first | exact Below.refl _ _ | assumption | refine Below.drew ?_ | refine below_drewN ?_ _ | refine Below.alloc' ?_ _ | (refine Below.setCell ?_ (by first | omega | (simp; done) | (simp; omega) | exact Below.size (by assumption) | exact Nat.le_trans (Below.size (by assumption)) (by simp)) _) | (refine Below.via' ?_ (by assumption)) | (refine Below.alloc ?_ (by first | omega | (simp; done) | (simp; omega) | exact Below.size (by assumption) | exact Nat.le_trans (Below.size (by assumption)) (by simp)) _) | (refine Below.via ?_ (by assumption) (by first | omega | (simp; done) | (simp; omega) | exact Below.size (by assumption) | exact Nat.le_trans (Below.size (by assumption)) (by simp))))))
  have t0 : Hid (TQ w0 (w.heap.size + 1) l x F.length c2 z W.length c3 m) := by
    rw [hw0]
    have h0 := p2.out.below (show Below ((w.alloc (.cells #[.slice p P.length c] 33)).alloc (.cells #[.int .i64 l, .slice x F.length c2, .slice z W.length c3, .int .i64 m] 37)).heap.size ((w.alloc (.cells #[.slice p P.length c] 33)).alloc (.cells #[.int .i64 l, .slice x F.length c2, .slice z W.length c3, .int .i64 m] 37)) (((w.alloc (.cells #[.slice p P.length c] 33)).alloc (.cells #[.int .i64 l, .slice x F.length c2, .slice z W.length c3, .int .i64 m] 37)).alloc (.cells #[.int .i64 k, .int .i64 h, .slice v V.length c4] 72)) from (by repeat (first | exact Below.refl _ _ | assumption | refine Below.drew ?_ | refine below_drewN ?_ _ | refine Below.alloc' ?_ _ | (refine Below.setCell ?_ (by first | omega | (simp; done) | (simp; omega) | exact Below.size (by assumption) | exact Nat.le_trans (Below.size (by assumption)) (by simp)) _) | (refine Below.via' ?_ (by assumption)) | (refine Below.alloc ?_ (by first | omega | (simp; done) | (simp; omega) | exact Below.size (by assumption) | exact Nat.le_trans (Below.size (by assumption)) (by simp)) _) | (refine Below.via ?_ (by assumption) (by first | omega | (simp; done) | (simp; omega) | exact Below.size (by assumption) | exact Nat.le_trans (Below.size (by assumption)) (by simp))))))
    rw [World.size_alloc] at h0
    exact h0
  have r0 : Hid (RB w0 (w.heap.size + 1 + 1) k h v V.length c4) := by
    have h0 := p3.out
    rw [World.size_alloc, World.size_alloc, ← hw0] at h0
    exact h0
  have z0 : w0.heap.size = w.heap.size + 1 + 1 + 1 := by rw [hw0]; simp
  clear p1 p2 p3
  have hPh := Lib.hid hP
  have hSh := Lib.hid hS.rd
  have hFh := Lib.hid hT.1
  have hWh := Lib.hid hT.2
  have hVh := Lib.hid hV
  have hth := Lib.hid htg
  have hclh := Lib.hid hcl
  have hgh := Lib.hid htg.g
  have hpt := Lib.hid (tbS_ok htg.s htg.r)
  have hfn := Lib.hid (tw_fine htg.s htg.w hcl.f)
  have hip := Lib.hid (inP_of htg.s htg.r (fit_len hcl.f))
  have hiq := Lib.hid (inP_of htg.s htg.r rfl)
  have hl30 := (ge_len htg.g).2
  have hm0 := htg.m0
  clear hP hS hT hV htg hcl
  by_cases hz : 0 ≤ anZ P k l
  · have hzn : ¬ anZ P k l < 0 := by omega
    go_enter Try.func88, Try.ntmps88
    go_wp2_with fail
    rw [← hw0]
    replace hw0 := Lib.hid hw0
    replace z0 := Lib.hid z0
    refine (gUp_any _ _ P k l _ hgh.out hclh.out.a (hPh.out.below B0)).mono ?_
    rintro e w1 ⟨rfl, hb1⟩
    have B1 : Below w.heap.size w w1 := Below.via' B0 hb1
    have g1 := Lib.hid (g0.out.below hb1)
    have t1 := Lib.hid (t0.out.below hb1)
    have r1 := Lib.hid (r0.out.below hb1)
    obtain ⟨ka1, kb1, kc1⟩ := g1.out
    obtain ⟨ta1, tb1, tc1, td1, te1⟩ := t1.out
    obtain ⟨ra1, rb1, rc1, rd1⟩ := r1.out
    try clear ka0 kb0 kc0 ta0 tb0 tc0 td0 te0 ra0 rb0 rc0 rd0
    clear hb1
    go_wp2_with fail
    refine (uMeets_any _ _ _ _ _ _ _ _ _ W V _ hfn.out (hWh.out.below B1) (hVh.out.below B1)).mono ?_
    rintro e w2 ⟨rfl, hb2⟩
    have B2 : Below w.heap.size w w2 := Below.via' B1 hb2
    have g2 := Lib.hid (g1.out.below hb2)
    have t2 := Lib.hid (t1.out.below hb2)
    have r2 := Lib.hid (r1.out.below hb2)
    obtain ⟨ka2, kb2, kc2⟩ := g2.out
    obtain ⟨ta2, tb2, tc2, td2, te2⟩ := t2.out
    obtain ⟨ra2, rb2, rc2, rd2⟩ := r2.out
    try clear ka1 kb1 kc1 ta1 tb1 tc1 td1 te1 ra1 rb1 rc1 rd1
    clear hb2
    cases hm : tmB W V
    · have hv := Lib.hid (clp_no (P := P) (S := S) (l := l) (F := F) (W := W) (m := m) (k := k) (V := V) (fun q => by rw [hm] at q; cases q.2))
      go_wp2
      go_ret2
      exact ⟨ret_ii hv.out.1.symm hv.out.2.symm, B2⟩
    have hv1 := Lib.hid (clp_yes (S := S) (F := F) hz hm)
    have hone := fun q => clp_one (P := P) (l := l) (m := m) hz hm q
    have hval := fun (v : Int) (q : 0 ≤ m) => clp_val (P := P) (l := l) (v := v) hz hm q
    have hone := Lib.hid hone
    have hval := Lib.hid hval
    have hlm := an_lv hth.out.g hclh.out.a hz
    have hft := Lib.hid (tbV_fit hclh.out.f hth.out.r)
    have hce := ce_bd hth.out hlm hft.out
    have hc := hth.out.c
    have q1 : IntKind.i64.wrap (fdI (lvL P l) (anZ P k l) * cnZ (tbS S F)) = fdI (lvL P l) (anZ P k l) * cnZ (tbS S F) := IntWalk.i64_in _ (by omega)
    have q2 : IntKind.i64.wrap (fdI (lvL P l) (anZ P k l) * cnZ (tbS S F) + ixZ (tbS S F) (tbV V F)) = fdI (lvL P l) (anZ P k l) * cnZ (tbS S F) + ixZ (tbS S F) (tbV V F) := IntWalk.i64_in _ (by unfold ceZ at hce; omega)
    clear hce hc hlm
    replace hm := Lib.hid hm
    go_wp2_with fail
    refine (sPart_any _ _ _ _ S F _ hiq.out (hSh.out.below B2) (hFh.out.2.2.below B2)).mono ?_
    rintro e w3 ⟨u3, rfl, ho3, hb3⟩
    obtain ⟨x3, n3, rfl, -, -⟩ := (OwR.of ho3).form
    have hr3 := Lib.hid (Rd.of_own ho3)
    clear ho3
    have hs3 := Nat.le_trans B2.size hb3.size
    have B3 : Below w.heap.size w w3 := Below.via' B2 hb3
    have g3 := Lib.hid (g2.out.below hb3)
    have t3 := Lib.hid (t2.out.below hb3)
    have r3 := Lib.hid (r2.out.below hb3)
    obtain ⟨ka3, kb3, kc3⟩ := g3.out
    obtain ⟨ta3, tb3, tc3, td3, te3⟩ := t3.out
    obtain ⟨ra3, rb3, rc3, rd3⟩ := r3.out
    try clear ka2 kb2 kc2 ta2 tb2 tc2 td2 te2 ra2 rb2 rc2 rd2
    clear hb3
    have hzl : w.heap.size < w3.heap.size := by have := rd3; omega
    have hzl1 : w.heap.size + 1 < w3.heap.size := by have := rd3; omega
    have hzl2 : w.heap.size + 1 + 1 < w3.heap.size := rd3
    go_wp2
    first | (go_region_held3 (fun w' => Below (w3).heap.size (w3) w' ∧ (∀ b o, b < (w3).heap.size → w'.cell? ⟨b, o, none⟩ = (w3).cell? ⟨b, o, none⟩)) (first | exact keep_of (Below.refl _ _) | ((try go_split_ands); exact keep_of (by repeat (first | exact Below.refl _ _ | assumption | refine Below.drew ?_ | refine below_drewN ?_ _ | refine Below.alloc' ?_ _ | (refine Below.setCell ?_ (by first | omega | (simp; done) | (simp; omega) | exact Below.size (by assumption) | exact Nat.le_trans (Below.size (by assumption)) (by simp)) _) | (refine Below.via' ?_ (by assumption)) | (refine Below.alloc ?_ (by first | omega | (simp; done) | (simp; omega) | exact Below.size (by assumption) | exact Nat.le_trans (Below.size (by assumption)) (by simp)) _) | (refine Below.via ?_ (by assumption) (by first | omega | (simp; done) | (simp; omega) | exact Below.size (by assumption) | exact Nat.le_trans (Below.size (by assumption)) (by simp))))))) (first | (go_at_call 73; refine (gLevel_any _ _ P l _ hgh.out (hPh.out.below (by exact (by repeat (first | exact Below.refl _ _ | assumption | refine Below.drew ?_ | refine below_drewN ?_ _ | refine Below.alloc' ?_ _ | (refine Below.setCell ?_ (by first | omega | (simp; done) | (simp; omega) | exact Below.size (by assumption) | exact Nat.le_trans (Below.size (by assumption)) (by simp)) _) | (refine Below.via' ?_ (by assumption)) | (refine Below.alloc ?_ (by first | omega | (simp; done) | (simp; omega) | exact Below.size (by assumption) | exact Nat.le_trans (Below.size (by assumption)) (by simp)) _) | (refine Below.via ?_ (by assumption) (by first | omega | (simp; done) | (simp; omega) | exact Below.size (by assumption) | exact Nat.le_trans (Below.size (by assumption)) (by simp)))))))).mono ?_; rintro e w4 ⟨v4, rfl, ho4, hb4⟩; obtain ⟨x4, n4, rfl, -, -⟩ := (OwR.of ho4).form; (have hi4 : Hid (IIn w4 x4 (lvL P l)) := iin_sel (by omega) (Rd.of_own ho4)); clear ho4) | (go_at_call 72; refine (l1Find_any _ _ (lvL P l) (anZ P k l) _ (hi4.out.below (by exact (by repeat (first | exact Below.refl _ _ | assumption | refine Below.drew ?_ | refine below_drewN ?_ _ | refine Below.alloc' ?_ _ | (refine Below.setCell ?_ (by first | omega | (simp; done) | (simp; omega) | exact Below.size (by assumption) | exact Nat.le_trans (Below.size (by assumption)) (by simp)) _) | (refine Below.via' ?_ (by assumption)) | (refine Below.alloc ?_ (by first | omega | (simp; done) | (simp; omega) | exact Below.size (by assumption) | exact Nat.le_trans (Below.size (by assumption)) (by simp)) _) | (refine Below.via ?_ (by assumption) (by first | omega | (simp; done) | (simp; omega) | exact Below.size (by assumption) | exact Nat.le_trans (Below.size (by assumption)) (by simp)))))))).mono ?_; rintro e w5 ⟨rfl, rfl⟩) | (go_at_call 74; refine (sCount_p _ _ (tbS S F) _ hpt.out (hr3.out.below (by exact (by repeat (first | exact Below.refl _ _ | assumption | refine Below.drew ?_ | refine below_drewN ?_ _ | refine Below.alloc' ?_ _ | (refine Below.setCell ?_ (by first | omega | (simp; done) | (simp; omega) | exact Below.size (by assumption) | exact Nat.le_trans (Below.size (by assumption)) (by simp)) _) | (refine Below.via' ?_ (by assumption)) | (refine Below.alloc ?_ (by first | omega | (simp; done) | (simp; omega) | exact Below.size (by assumption) | exact Nat.le_trans (Below.size (by assumption)) (by simp)) _) | (refine Below.via ?_ (by assumption) (by first | omega | (simp; done) | (simp; omega) | exact Below.size (by assumption) | exact Nat.le_trans (Below.size (by assumption)) (by simp)))))))).mono ?_; rintro e w6 ⟨rfl, hb6⟩) | (go_at_call 121; refine (sPick_any _ _ _ _ V F _ hip.out (hVh.out.below (by exact (by repeat (first | exact Below.refl _ _ | assumption | refine Below.drew ?_ | refine below_drewN ?_ _ | refine Below.alloc' ?_ _ | (refine Below.setCell ?_ (by first | omega | (simp; done) | (simp; omega) | exact Below.size (by assumption) | exact Nat.le_trans (Below.size (by assumption)) (by simp)) _) | (refine Below.via' ?_ (by assumption)) | (refine Below.alloc ?_ (by first | omega | (simp; done) | (simp; omega) | exact Below.size (by assumption) | exact Nat.le_trans (Below.size (by assumption)) (by simp)) _) | (refine Below.via ?_ (by assumption) (by first | omega | (simp; done) | (simp; omega) | exact Below.size (by assumption) | exact Nat.le_trans (Below.size (by assumption)) (by simp))))))) (hFh.out.2.2.below (by exact (by repeat (first | exact Below.refl _ _ | assumption | refine Below.drew ?_ | refine below_drewN ?_ _ | refine Below.alloc' ?_ _ | (refine Below.setCell ?_ (by first | omega | (simp; done) | (simp; omega) | exact Below.size (by assumption) | exact Nat.le_trans (Below.size (by assumption)) (by simp)) _) | (refine Below.via' ?_ (by assumption)) | (refine Below.alloc ?_ (by first | omega | (simp; done) | (simp; omega) | exact Below.size (by assumption) | exact Nat.le_trans (Below.size (by assumption)) (by simp)) _) | (refine Below.via ?_ (by assumption) (by first | omega | (simp; done) | (simp; omega) | exact Below.size (by assumption) | exact Nat.le_trans (Below.size (by assumption)) (by simp)))))))).mono ?_; rintro e w7 ⟨u7, rfl, ho7, hb7⟩; obtain ⟨x7, n7, rfl, -, -⟩ := (OwR.of ho7).form; (have hr7 := Lib.hid (Rd.of_own ho7)); clear ho7) | (go_at_call 75; refine (sIndex_p _ _ _ _ (tbS S F) (tbV V F) _ hpt.out hft.out (hr3.out.below (by exact (by repeat (first | exact Below.refl _ _ | assumption | refine Below.drew ?_ | refine below_drewN ?_ _ | refine Below.alloc' ?_ _ | (refine Below.setCell ?_ (by first | omega | (simp; done) | (simp; omega) | exact Below.size (by assumption) | exact Nat.le_trans (Below.size (by assumption)) (by simp)) _) | (refine Below.via' ?_ (by assumption)) | (refine Below.alloc ?_ (by first | omega | (simp; done) | (simp; omega) | exact Below.size (by assumption) | exact Nat.le_trans (Below.size (by assumption)) (by simp)) _) | (refine Below.via ?_ (by assumption) (by first | omega | (simp; done) | (simp; omega) | exact Below.size (by assumption) | exact Nat.le_trans (Below.size (by assumption)) (by simp))))))) ⟨by rw [tbV_len]; have := hip.out.1; omega, tbI64 hVh.out.2.1, hr7.out.below (by exact (by repeat (first | exact Below.refl _ _ | assumption | refine Below.drew ?_ | refine below_drewN ?_ _ | refine Below.alloc' ?_ _ | (refine Below.setCell ?_ (by first | omega | (simp; done) | (simp; omega) | exact Below.size (by assumption) | exact Nat.le_trans (Below.size (by assumption)) (by simp)) _) | (refine Below.via' ?_ (by assumption)) | (refine Below.alloc ?_ (by first | omega | (simp; done) | (simp; omega) | exact Below.size (by assumption) | exact Nat.le_trans (Below.size (by assumption)) (by simp)) _) | (refine Below.via ?_ (by assumption) (by first | omega | (simp; done) | (simp; omega) | exact Below.size (by assumption) | exact Nat.le_trans (Below.size (by assumption)) (by simp))))))⟩).mono ?_; rintro e w8 ⟨rfl, hb8⟩)); rename_i hH; obtain ⟨hb9, hcl9⟩ := hH; have hz9 := hb9.size; (try simp at hz9); (try (have hly9 := Nat.lt_of_succ_le hz9)); (try (have hlx9 := Nat.lt_of_succ_lt hly9)); (try (have hlw9 := Nat.lt_of_succ_lt hlx9)); (try (have hle9 := Nat.le_of_lt hly9)); (try (have hya9 : w.heap.size < w9.heap.size := by omega)); (try (have hyb9 : w.heap.size + 1 < w9.heap.size := by omega)); (try (have hyc9 : w.heap.size + 1 + 1 < w9.heap.size := by omega)); (try (have hyd9 : wa.heap.size < w9.heap.size := by omega))) | fail
    have B8 : Below w.heap.size w w8 := (by repeat (first | exact Below.refl _ _ | assumption | refine Below.drew ?_ | refine below_drewN ?_ _ | refine Below.alloc' ?_ _ | (refine Below.setCell ?_ (by first | omega | (simp; done) | (simp; omega) | exact Below.size (by assumption) | exact Nat.le_trans (Below.size (by assumption)) (by simp)) _) | (refine Below.via' ?_ (by assumption)) | (refine Below.alloc ?_ (by first | omega | (simp; done) | (simp; omega) | exact Below.size (by assumption) | exact Nat.le_trans (Below.size (by assumption)) (by simp)) _) | (refine Below.via ?_ (by assumption) (by first | omega | (simp; done) | (simp; omega) | exact Below.size (by assumption) | exact Nat.le_trans (Below.size (by assumption)) (by simp)))))
    have B38 : Below w3.heap.size w3 w8 := (by repeat (first | exact Below.refl _ _ | assumption | refine Below.drew ?_ | refine below_drewN ?_ _ | refine Below.alloc' ?_ _ | (refine Below.setCell ?_ (by first | omega | (simp; done) | (simp; omega) | exact Below.size (by assumption) | exact Nat.le_trans (Below.size (by assumption)) (by simp)) _) | (refine Below.via' ?_ (by assumption)) | (refine Below.alloc ?_ (by first | omega | (simp; done) | (simp; omega) | exact Below.size (by assumption) | exact Nat.le_trans (Below.size (by assumption)) (by simp)) _) | (refine Below.via ?_ (by assumption) (by first | omega | (simp; done) | (simp; omega) | exact Below.size (by assumption) | exact Nat.le_trans (Below.size (by assumption)) (by simp)))))
    obtain ⟨ta8, tb8, tc8, td8, te8⟩ := t3.out.below B38
    obtain ⟨ra8, rb8, rc8, rd8⟩ := r3.out.below B38
    by_cases hmm : m < 0
    · have hv2 := Lib.hid (hone.out hmm)
      go_wp2
      go_ret2
      exact ⟨ret_ii hv1.out.symm hv2.out.symm, B8⟩
    obtain ⟨q, rfl⟩ := Int.eq_ofNat_of_zero_le (show 0 ≤ m by omega)
    have hql : q < V.length := by have := hth.out.m1; have := fit_len hclh.out.f; omega
    obtain ⟨b9, o9, u9, hv9, hb9, hu9, k9⟩ := (hVh.out.2.2.below B8).int (i := q) hql
    subst hv9
    have hv2 := Lib.hid (hval.out u9 (by omega) (by rw [Int.toNat_natCast]; exact hu9))
    have hq1 : (q : Int) < (V.length : Int) := by omega
    have hq0 : (0 : Int) ≤ (q : Int) := by omega
    replace hu9 := Lib.hid hu9
    replace hmm := Lib.hid hmm
    have hq2 : ¬ (q : Int) < 0 := by omega
    go_wp2
    go_quiet (fail)
    go_wp2
    go_ret2
    exact ⟨ret_ii hv1.out.symm hv2.out.symm, (by repeat (first | exact Below.refl _ _ | assumption | refine Below.drew ?_ | refine below_drewN ?_ _ | refine Below.alloc' ?_ _ | (refine Below.setCell ?_ (by first | omega | (simp; done) | (simp; omega) | exact Below.size (by assumption) | exact Nat.le_trans (Below.size (by assumption)) (by simp)) _) | (refine Below.via' ?_ (by assumption)) | (refine Below.alloc ?_ (by first | omega | (simp; done) | (simp; omega) | exact Below.size (by assumption) | exact Nat.le_trans (Below.size (by assumption)) (by simp)) _) | (refine Below.via ?_ (by assumption) (by first | omega | (simp; done) | (simp; omega) | exact Below.size (by assumption) | exact Nat.le_trans (Below.size (by assumption)) (by simp)))))⟩
  · have hv := Lib.hid (clp_no (P := P) (S := S) (l := l) (F := F) (W := W) (m := m) (k := k) (V := V) (fun q => hz q.1))
    have hzn : anZ P k l < 0 := by omega
    go_enter Try.func88, Try.ntmps88
    go_wp2_with fail
    rw [← hw0]
    replace hw0 := Lib.hid hw0
    refine (gUp_any _ _ P k l _ hgh.out hclh.out.a (hPh.out.below B0)).mono ?_
    rintro e w1 ⟨rfl, hb1⟩
    go_wp2
    go_ret2
    exact ⟨ret_ii hv.out.1.symm hv.out.2.symm, Below.via' B0 hb1⟩
end Go.Proofs.Ytgkaalonmkcclaa

namespace Go.Proofs.Ytgkaalonmkcclaa
open Go.RowKit
set_option maxRecDepth 100000

/-- A survey's records go with a table. -/
theorem sv_cl {P : List Int} {S : List (ByteArray × Int)} {Q : List PR} {j : Nat} {q : PR} (hd : dokB S (pM Q) = true) (ht : tyB P (pM Q) = true) (hq : Q[j]? = some q) : ∃ k : Nat, q.a = k ∧ ClP P S k q.L := by
  have hm := List.mem_of_getElem? (pM_at hq)
  have h1 := dokB_mem hd hm
  unfold tyB at ht
  rw [List.all_eq_true] at ht
  have h2 := ht _ hm
  rw [List.contains_iff_mem] at h2
  obtain ⟨k, hk, hl, -⟩ := sel_mem.1 h2
  unfold rokB at h1
  simp only [Bool.and_eq_true] at h1
  exact ⟨k, hk, ⟨hl, h1.2⟩⟩
/-- The records of a cell; what RecordsIn answers. -/
def riF (P : List Int) (S : List (ByteArray × Int)) (l : Int) (F W : List Int) (i : Int) (M : List RV) : Nat → Bool := fun k => decide ((M[k]?.map fun r => clI P S l F W r.1 r.2.2) = some i)
def riB (P : List Int) (S : List (ByteArray × Int)) (l : Int) (F W : List Int) (m i : Int) (M : List RV) : Bool := tgB P S l F W m && ((dokB S M && tyB P M) && inB i 0 (tcZ P S l F - 1))
def riL (P : List Int) (S : List (ByteArray × Int)) (l : Int) (F W : List Int) (m i : Int) (M : List RV) : List Int := eIf (riB P S l F W m i M) (selK (riF P S l F W i M) M.length)
section
variable {P : List Int} {S : List (ByteArray × Int)} {l : Int} {F W : List Int} {m i : Int} {M : List RV}
theorem ri_no0 (h : riB P S l F W m i M = false) : riL P S l F W m i M = [] := eIf_f h
theorem ri_no1 (h : tgB P S l F W m = false) : riB P S l F W m i M = false := by unfold riB; rw [h]; rfl
theorem ri_no2 (h : (dokB S M && tyB P M) = false) : riB P S l F W m i M = false := by unfold riB; rw [h, Bool.false_and, Bool.and_false]
theorem ri_no3 (h : inB i 0 (tcZ P S l F - 1) = false) : riB P S l F W m i M = false := by unfold riB; rw [h, Bool.and_false, Bool.and_false]
theorem ri_yes (h : TgP P S l F W m) (h2 : (dokB S M && tyB P M) = true) (h3 : inB i 0 (tcZ P S l F - 1) = true) : riB P S l F W m i M = true ∧ riL P S l F W m i M = selK (riF P S l F W i M) M.length := by
  have e : riB P S l F W m i M = true := by unfold riB; rw [tg_iff.2 h, h2, h3]; rfl
  exact ⟨e, eIf_t e⟩
theorem ri_len : (riL P S l F W m i M).length ≤ 1048576 := by
  cases h : riB P S l F W m i M
  · rw [ri_no0 h]; simp
  · have h0 := h
    unfold riB at h0
    simp only [Bool.and_eq_true] at h0
    have := dokB_len h0.2.1.1
    unfold riL
    rw [eIf_t h]
    have := sel_len (riF P S l F W i M) M.length
    omega
theorem riF_at {Q : List PR} {j : Nat} {q : PR} (h : Q[j]? = some q) : riF P S l F W i (pM Q) j = decide (clI P S l F W q.a q.L = i) := by
  unfold riF
  rw [pM_at h]
  simp [PR.m]
end
theorem riLB_no {L : List Int} {b : Bool} {w w' : World} (h : L = []) (k : b = false) (hB : Below w.heap.size w w') : RetLB L b w (.returned (.tuple #[.slice none 0 0, .bool false])) w' := by
  rw [h, k]
  exact ⟨_, rfl, World.ownsRow_nil _ _ _ _, hB⟩
set_option maxHeartbeats 16000000 in
theorem sRI_x (p y x z v : Option Addr) (c c1 c2 c3 c4 : Nat) (P : List Int) (S : List (ByteArray × Int)) (l : Int) (F W : List Int) (m : Int) (Q : List PR) (i : Int) (w : World) (hP : IIn w p P) (hS : SIn w y c1 S) (hT : TIn w x z F W) (hQ : DIn w v Q) :
    Calls Try.prog 43 #[.agg #[.slice p P.length c], .slice y S.length c1, .agg #[.int .i64 l, .slice x F.length c2, .slice z W.length c3, .int .i64 m], .slice v Q.length c4, .int .i64 i] w (RetLB (riL P S l F W m i (pM Q)) (riB P S l F W m i (pM Q)) w) := by
  obtain ⟨i0, hii, hz0, hz1, hz2⟩ := info_parts Try.infoInt
  have hQh := Lib.hid hQ
  have hQl := hQ.1
  clear hQ
  have hPh := Lib.hid hP
  have hSh := Lib.hid hS
  have hFh := Lib.hid hT.1
  have hWh := Lib.hid hT.2
  clear hP hS hT
  have p1 := Lib.hid (QB.new w p P.length c 33)
  have p2 := Lib.hid (TQ.new (w.alloc (.cells #[.slice p P.length c] 33)) l x F.length c2 z W.length c3 m 37)
  obtain ⟨w0, hw0⟩ : ∃ w0, w0 = (w.alloc (.cells #[.slice p P.length c] 33)).alloc (.cells #[.int .i64 l, .slice x F.length c2, .slice z W.length c3, .int .i64 m] 37) := ⟨_, rfl⟩
  have B0 : Below w.heap.size w w0 := by rw [hw0]; exact (by repeat (first | exact Below.refl _ _ | assumption | refine Below.drew ?_ | refine below_drewN ?_ _ | refine Below.alloc' ?_ _ | (refine Below.setCell ?_ (by first | omega | (simp; done) | (simp; omega) | exact Below.size (by assumption) | exact Nat.le_trans (Below.size (by assumption)) (by simp)) _) | (refine Below.via' ?_ (by assumption)) | (refine Below.alloc ?_ (by first | omega | (simp; done) | (simp; omega) | exact Below.size (by assumption) | exact Nat.le_trans (Below.size (by assumption)) (by simp)) _) | (refine Below.via ?_ (by assumption) (by first | omega | (simp; done) | (simp; omega) | exact Below.size (by assumption) | exact Nat.le_trans (Below.size (by assumption)) (by simp)))))
  have g0 : Hid (QB w0 w.heap.size p P.length c) := by
    rw [hw0]
    exact p1.out.below (show Below (w.alloc (.cells #[.slice p P.length c] 33)).heap.size (w.alloc (.cells #[.slice p P.length c] 33)) _ from (by repeat (first | exact Below.refl _ _ | assumption | refine Below.drew ?_ | refine below_drewN ?_ _ | refine Below.alloc' ?_ _ | (refine Below.setCell ?_ (by first | omega | (simp; done) | (simp; omega) | exact Below.size (by assumption) | exact Nat.le_trans (Below.size (by assumption)) (by simp)) _) | (refine Below.via' ?_ (by assumption)) | (refine Below.alloc ?_ (by first | omega | (simp; done) | (simp; omega) | exact Below.size (by assumption) | exact Nat.le_trans (Below.size (by assumption)) (by simp)) _) | (refine Below.via ?_ (by assumption) (by first | omega | (simp; done) | (simp; omega) | exact Below.size (by assumption) | exact Nat.le_trans (Below.size (by assumption)) (by simp))))))
  have t0 : Hid (TQ w0 (w.heap.size + 1) l x F.length c2 z W.length c3 m) := by
    have h0 := p2.out
    rw [World.size_alloc, ← hw0] at h0
    exact h0
  have z0 : w0.heap.size = w.heap.size + 1 + 1 := by rw [hw0]; simp
  clear p1 p2
  go_enter Try.func43, Try.ntmps43
  go_wp2_with fail
  rw [← hw0]
  replace hw0 := Lib.hid hw0
  replace z0 := Lib.hid z0
  refine (uGood_any p y x z _ _ _ _ P S l m F W _ (hPh.out.below B0) (hSh.out.below B0) ⟨hFh.out.below B0, hWh.out.below B0⟩).mono ?_
  rintro e w1 ⟨rfl, hb1⟩
  have B1 : Below w.heap.size w w1 := Below.via' B0 hb1
  have g1 := Lib.hid (g0.out.below hb1)
  have t1 := Lib.hid (t0.out.below hb1)
  obtain ⟨ka1, kb1, kc1⟩ := g1.out
  obtain ⟨ta1, tb1, tc1, td1, te1⟩ := t1.out
  try clear ka0 kb0 kc0 ta0 tb0 tc0 td0 te0
  clear hb1
  cases htg : tgB P S l F W m
  · have hv := Lib.hid (ri_no1 (i := i) (M := pM Q) htg)
    go_wp2
    go_ret2
    exact riLB_no (ri_no0 hv.out) hv.out B1
  have htp := tg_iff.1 htg
  have hgh := Lib.hid htp.g
  have hsh := Lib.hid htp.s
  have hrh := Lib.hid htp.r
  have hl30 := (ge_len htp.g).2
  have hc6 := htp.c
  have hc1 := tc_pos htp
  have hth := Lib.hid htp
  replace htg := Lib.hid htg
  clear htp
  go_wp2_with fail
  refine (uSurvey_any _ _ _ _ _ _ P S Q _ (hPh.out.below B1) (hSh.out.below B1) (hQh.out.below B1)).mono ?_
  rintro e w2 ⟨rfl, hb2⟩
  have B2 : Below w.heap.size w w2 := Below.via' B1 hb2
  have g2 := Lib.hid (g1.out.below hb2)
  have t2 := Lib.hid (t1.out.below hb2)
  obtain ⟨ka2, kb2, kc2⟩ := g2.out
  obtain ⟨ta2, tb2, tc2, td2, te2⟩ := t2.out
  try clear ka1 kb1 kc1 ta1 tb1 tc1 td1 te1
  clear hb2
  rw [show (geB P && idB S (pM Q) && tyB P (pM Q)) = (dokB S (pM Q) && tyB P (pM Q)) by unfold idB; rw [hgh.out, hsh.out]; rfl]
  cases hsv : (dokB S (pM Q) && tyB P (pM Q))
  · have hv := Lib.hid (ri_no2 (l := l) (F := F) (W := W) (m := m) (i := i) hsv)
    go_wp2
    go_ret2
    exact riLB_no (ri_no0 hv.out) hv.out B2
  have hsv2 := hsv
  rw [Bool.and_eq_true] at hsv2
  have hdk := Lib.hid hsv2.1
  have hty := Lib.hid hsv2.2
  clear hsv2
  have hsvh := Lib.hid hsv
  have hQ40 : Q.length ≤ 40 := by have := dokB_len hdk.out; rwa [pM_len] at this
  clear hsv
  have q1 : IntKind.i64.wrap (tcZ P S l F - 1) = tcZ P S l F - 1 := IntWalk.i64_in _ (by omega)
  go_wp2_with fail
  refine (uCount_any p y x z _ _ _ _ P S l m F W _ hgh.out hsh.out hrh.out (hPh.out.below B2) (hSh.out.below B2) (hFh.out.below B2)).mono ?_
  rintro e w5 ⟨rfl, hb5⟩
  have B5 : Below w.heap.size w w5 := Below.via' B2 hb5
  have g5 := Lib.hid (g2.out.below hb5)
  have t5 := Lib.hid (t2.out.below hb5)
  obtain ⟨ka5, kb5, kc5⟩ := g5.out
  obtain ⟨ta5, tb5, tc5, td5, te5⟩ := t5.out
  try clear ka2 kb2 kc2 ta2 tb2 tc2 td2 te2
  clear hb5
  cases hin : inB i 0 (tcZ P S l F - 1)
  · have hv := Lib.hid (ri_no3 (W := W) (m := m) (M := pM Q) hin)
    go_wp2_with fail
    refine (l1In_any _ _ _ _).mono ?_
    rintro e w6 ⟨rfl, rfl⟩
    rw [hin]
    go_wp2
    go_ret2
    exact riLB_no (ri_no0 hv.out) hv.out B5
  have hv := Lib.hid (ri_yes hth.out hsvh.out hin)
  go_wp2_with fail
  refine (l1In_any _ _ _ _).mono ?_
  rintro e w6 ⟨rfl, rfl⟩
  rw [hin]
  replace hin := Lib.hid hin
  clear ka5 kb5 kc5 ta5 tb5 tc5 td5 te5 q1 hc1 hc6
  go_wp2
  go_loopw [12, 41] (fun u q wr => ∃ j : Nat, j ≤ Q.length ∧ q = .int .i64 j ∧ wr.ownsRow w5.heap.size 3 1 u (selK (riF P S l F W i (pM Q)) j).length (iC (selK (riF P S l F W i (pM Q)) j)) ∧ Below w5.heap.size w5 wr) (fun _ q _ => Q.length - (intOf q).toNat)
  case atStart => exact ⟨0, by omega, by go_num, World.ownsRow_nil _ _ _ _, Below.refl _ _⟩
  case round =>
    obtain ⟨j, hj, rfl, hown, hb⟩ := hrel
    have hownh := Lib.hid hown
    clear hown
    have hsl := sel_len (riF P S l F W i (pM Q)) j
    have Bw : Below w.heap.size w wr := Below.via' B5 hb
    by_cases hlt : j < Q.length
    · obtain ⟨bl, off, q, rfl, hbl, hQj, hc0, hc1, hc2⟩ := (hQh.out.2.2.below Bw).rec hlt
      obtain ⟨k, hka, hcl⟩ := sv_cl hdk.out hty.out hQj
      have hqr := Lib.hid ((hQh.out.2.1 q (List.mem_of_getElem? hQj)).2.2.below Bw)
      have hri := riF_at (P := P) (S := S) (l := l) (F := F) (W := W) (i := i) hQj
      have hclh := Lib.hid hcl
      obtain ⟨qa, qh, qx, qc, qL⟩ := q
      have hka : qa = (k : Int) := hka
      subst hka
      have hlt' : (j : Int) < (Q.length : Int) := by omega
      replace hQj := Lib.hid hQj
      replace hri : riF P S l F W i (pM Q) j = decide (clI P S l F W (k : Int) qL = i) := hri
      have hc2 : wr.cell? ⟨bl, off + j * 3 + 2, none⟩ = some (.slice qx qL.length qc) := hc2
      have BA : Below wr.heap.size wr (wr.alloc (.cells #[.int .i64 (k : Int), .int .i64 qh, .slice qx qL.length qc] 72)) := (by repeat (first | exact Below.refl _ _ | assumption | refine Below.drew ?_ | refine below_drewN ?_ _ | refine Below.alloc' ?_ _ | (refine Below.setCell ?_ (by first | omega | (simp; done) | (simp; omega) | exact Below.size (by assumption) | exact Nat.le_trans (Below.size (by assumption)) (by simp)) _) | (refine Below.via' ?_ (by assumption)) | (refine Below.alloc ?_ (by first | omega | (simp; done) | (simp; omega) | exact Below.size (by assumption) | exact Nat.le_trans (Below.size (by assumption)) (by simp)) _) | (refine Below.via ?_ (by assumption) (by first | omega | (simp; done) | (simp; omega) | exact Below.size (by assumption) | exact Nat.le_trans (Below.size (by assumption)) (by simp)))))
      obtain ⟨WA, hWA⟩ : ∃ WA, WA = wr.alloc (.cells #[.int .i64 (k : Int), .int .i64 qh, .slice qx qL.length qc] 72) := ⟨_, rfl⟩
      have hqn := RB.new wr k qh qx qL.length qc 72
      rw [← hWA] at BA hqn
      have hqn := Lib.hid hqn
      have hownA := Lib.hid (own_below hownh.out BA)
      have BwA : Below w.heap.size w WA := Below.via' Bw BA
      have B5A : Below w5.heap.size w5 WA := Below.via' hb BA
      replace hWA := Lib.hid hWA
      clear hcl
      have FF := And.intro (g5.out.below B5A) (And.intro (t5.out.below B5A) hqn.out); rw [hWA.out] at FF; obtain ⟨⟨ka, kb, kc⟩, ⟨ta, tb, tc, td, te⟩, ⟨ra, rb, rc, rd⟩⟩ := FF
      go_wp2_with fail
      rw [← hWA.out]
      refine (uCell_any _ _ _ _ _ _ _ _ _ _ P S l F W m k qh qL _ hth.out hclh.out (hPh.out.below BwA) (hSh.out.below BwA) ⟨hFh.out.below BwA, hWh.out.below BwA⟩ (hqr.out.below BA)).mono ?_
      rintro e w2 ⟨rfl, hb2⟩
      have hb2' : Below w5.heap.size w5 w2 := Below.via' B5A hb2
      have ho2 := Lib.hid (own_below hownA.out hb2)
      have hs0 := hb2'.size
      by_cases hci : clI P S l F W (k : Int) qL = i
      · have ht : (clI P S l F W (k : Int) qL == i) = true := by rw [beq_iff_eq]; exact hci
        have hsel := Lib.hid (sel_yes (p := riF P S l F W i (pM Q)) (k := j) (by rw [hri]; exact decide_eq_true hci))
        replace hci := Lib.hid hci
        clear hri
        go_wp2_with (at_builtin; go_loud (refine wpList_append_rd _ rfl (.tmp 57) (.tmp 59) 22 rfl (w5.heap.size) 3 i0 (.int .i64 0) 1 8 Try.underlying22 hii hz0 hz1 hz2 rfl (by decide) _ (selK (riF P S l F W i (pM Q)) j).length (iC (selK (riF P S l F W i (pM Q)) j)) rfl ((ho2.out.alloc _)) _ 1 1 rfl (Nat.le_refl _) (by intro h; cases h) (iC [((j : Int) : Int)]) rfl (rd_oneE _ _ _ _ (by simp)) (iC_one _) (by unfold maxLen; omega) (by omega) (by simp; omega) ?_); intro v3 w3 hown3 hgrow3 hwhere3)
        obtain ⟨hb3, hl3⟩ := append_below hb2' (fun k hk => (ho2.out.lt k hk).1) hgrow3 hwhere3
        have hown3 := Lib.hid (own_snocE hown3 hsel.out rfl)
        clear hgrow3 hwhere3
        go_wp2
        go_roundw
        case rel => exact ⟨j + 1, by omega, by go_num, hown3.out, hb3⟩
        case measure => simp [intOf]; omega
      · have ht : (clI P S l F W (k : Int) qL == i) = false := by rw [beq_eq_false_iff_ne]; exact hci
        have hsel := Lib.hid (sel_no (p := riF P S l F W i (pM Q)) (k := j) (by rw [hri]; exact decide_eq_false hci))
        replace hci := Lib.hid hci
        clear hri
        go_wp2
        go_roundw
        case rel => exact ⟨j + 1, by omega, by go_num, by rw [hsel.out]; exact ho2.out, hb2'⟩
        case measure => simp [intOf]; omega
    · have hij : j = Q.length := by omega
      subst hij
      go_wp2
      go_ret2
      refine ⟨_, ret_vb hv.out.1.symm, ?_, Bw⟩
      rw [hv.out.2, pM_len]
      exact own_more hownh.out B5.size
set_option maxHeartbeats 16000000 in
theorem iRI_x (p y x z v : Option Addr) (c c1 c2 c3 c4 : Nat) (P : List Int) (S : List (ByteArray × Int)) (l : Int) (F W : List Int) (m : Int) (Q : List PR) (i : Int) (w : World) (hP : IIn w p P) (hS : SIn w y c1 S) (hT : TIn w x z F W) (hQ : DIn w v Q) :
    Calls Try.prog 44 #[.agg #[.slice p P.length c], .slice y S.length c1, .agg #[.int .i64 l, .slice x F.length c2, .slice z W.length c3, .int .i64 m], .slice v Q.length c4, .int .i64 i] w (RetLB (riL P S l F W m i (pM Q)) (riB P S l F W m i (pM Q)) w) := by
  obtain ⟨i0, hii, hz0, hz1, hz2⟩ := info_parts Try.infoInt
  have hQh := Lib.hid hQ
  have hQl := hQ.1
  clear hQ
  have hPh := Lib.hid hP
  have hSh := Lib.hid hS
  have hFh := Lib.hid hT.1
  have hWh := Lib.hid hT.2
  clear hP hS hT
  have p1 := Lib.hid (QB.new w p P.length c 33)
  have p2 := Lib.hid (TQ.new (w.alloc (.cells #[.slice p P.length c] 33)) l x F.length c2 z W.length c3 m 37)
  obtain ⟨w0, hw0⟩ : ∃ w0, w0 = (w.alloc (.cells #[.slice p P.length c] 33)).alloc (.cells #[.int .i64 l, .slice x F.length c2, .slice z W.length c3, .int .i64 m] 37) := ⟨_, rfl⟩
  have B0 : Below w.heap.size w w0 := by rw [hw0]; exact (by repeat (first | exact Below.refl _ _ | assumption | refine Below.drew ?_ | refine below_drewN ?_ _ | refine Below.alloc' ?_ _ | (refine Below.setCell ?_ (by first | omega | (simp; done) | (simp; omega) | exact Below.size (by assumption) | exact Nat.le_trans (Below.size (by assumption)) (by simp)) _) | (refine Below.via' ?_ (by assumption)) | (refine Below.alloc ?_ (by first | omega | (simp; done) | (simp; omega) | exact Below.size (by assumption) | exact Nat.le_trans (Below.size (by assumption)) (by simp)) _) | (refine Below.via ?_ (by assumption) (by first | omega | (simp; done) | (simp; omega) | exact Below.size (by assumption) | exact Nat.le_trans (Below.size (by assumption)) (by simp)))))
  have g0 : Hid (QB w0 w.heap.size p P.length c) := by
    rw [hw0]
    exact p1.out.below (show Below (w.alloc (.cells #[.slice p P.length c] 33)).heap.size (w.alloc (.cells #[.slice p P.length c] 33)) _ from (by repeat (first | exact Below.refl _ _ | assumption | refine Below.drew ?_ | refine below_drewN ?_ _ | refine Below.alloc' ?_ _ | (refine Below.setCell ?_ (by first | omega | (simp; done) | (simp; omega) | exact Below.size (by assumption) | exact Nat.le_trans (Below.size (by assumption)) (by simp)) _) | (refine Below.via' ?_ (by assumption)) | (refine Below.alloc ?_ (by first | omega | (simp; done) | (simp; omega) | exact Below.size (by assumption) | exact Nat.le_trans (Below.size (by assumption)) (by simp)) _) | (refine Below.via ?_ (by assumption) (by first | omega | (simp; done) | (simp; omega) | exact Below.size (by assumption) | exact Nat.le_trans (Below.size (by assumption)) (by simp))))))
  have t0 : Hid (TQ w0 (w.heap.size + 1) l x F.length c2 z W.length c3 m) := by
    have h0 := p2.out
    rw [World.size_alloc, ← hw0] at h0
    exact h0
  have z0 : w0.heap.size = w.heap.size + 1 + 1 := by rw [hw0]; simp
  clear p1 p2
  go_enter Try.func44, Try.ntmps44
  go_wp2_with fail
  rw [← hw0]
  replace hw0 := Lib.hid hw0
  replace z0 := Lib.hid z0
  refine (gridOf_any p y x z _ _ _ _ P S l m F W _ (hPh.out.below B0) (hSh.out.below B0) ⟨hFh.out.below B0, hWh.out.below B0⟩).mono ?_
  rintro e w1 ⟨hb1, h1⟩
  have B1 : Below w.heap.size w w1 := Below.via' B0 hb1
  have g1 := Lib.hid (g0.out.below hb1)
  have t1 := Lib.hid (t0.out.below hb1)
  obtain ⟨ka1, kb1, kc1⟩ := g1.out
  obtain ⟨ta1, tb1, tc1, td1, te1⟩ := t1.out
  try clear ka0 kb0 kc0 ta0 tb0 tc0 td0 te0
  clear hb1
  rcases h1 with ⟨hno, rfl⟩ | ⟨htg, ga, ca, va, rfl, hA, hV, hvl⟩
  · have hv := Lib.hid (ri_no1 (i := i) (M := pM Q) (tg_no hno))
    clear hno
    go_wp2
    go_ret2
    exact riLB_no (ri_no0 hv.out) hv.out (by repeat (first | exact Below.refl _ _ | assumption | refine Below.drew ?_ | refine below_drewN ?_ _ | refine Below.alloc' ?_ _ | (refine Below.setCell ?_ (by first | omega | (simp; done) | (simp; omega) | exact Below.size (by assumption) | exact Nat.le_trans (Below.size (by assumption)) (by simp)) _) | (refine Below.via' ?_ (by assumption)) | (refine Below.alloc ?_ (by first | omega | (simp; done) | (simp; omega) | exact Below.size (by assumption) | exact Nat.le_trans (Below.size (by assumption)) (by simp)) _) | (refine Below.via ?_ (by assumption) (by first | omega | (simp; done) | (simp; omega) | exact Below.size (by assumption) | exact Nat.le_trans (Below.size (by assumption)) (by simp)))))
  have hpt := Lib.hid (tbS_ok htg.s htg.r)
  have hth := Lib.hid htg
  have hl30 := (ge_len htg.g).2
  have hl := lvL_len P l
  have hAh := Lib.hid hA
  have hPt := Lib.hid hV
  clear htg hA hV
  obtain ⟨W2, hW2⟩ : ∃ W2, W2 = w1.alloc (.cells #[.slice p P.length c, .int .i64 l, .slice x F.length c2, .slice z W.length c3, .int .i64 m, .slice ga (lvL P l).length ca, .slice (some ⟨va, 0, none⟩) (tbS S F).length (tbS S F).length] 91) := ⟨_, rfl⟩
  have hG := g7_of_wb (Wb.new w1 91 #[.slice p P.length c, .int .i64 l, .slice x F.length c2, .slice z W.length c3, .int .i64 m, .slice ga (lvL P l).length ca, .slice (some ⟨va, 0, none⟩) (tbS S F).length (tbS S F).length])
  rw [← hW2] at hG
  have BW : Below w1.heap.size w1 W2 := by rw [hW2]; exact Below.alloc' (Below.refl _ _) _
  have BW2 : Below w.heap.size w W2 := Below.via' B1 BW
  replace hG := Lib.hid hG
  replace hW2 := Lib.hid hW2
  obtain ⟨ka2, kb2, kc2⟩ := g1.out.below BW
  go_wp2_with fail
  rw [← hW2.out]
  refine (isSurveyFor_any _ _ _ _ _ _ P S Q _ hth.out.g hth.out.s (hPh.out.below BW2) (hSh.out.below BW2) (hQh.out.below BW2)).mono ?_
  rintro e w3 ⟨rfl, hb3⟩
  have B13 := Below.via' BW hb3
  have B3 := Below.via' B1 B13
  obtain ⟨j0, j1, j2, j3, j4, j5, j6, jl⟩ := hG.out.below hb3
  have hG3 := Lib.hid (hG.out.below hb3)
  clear ka2 kb2 kc2 hb3
  cases hsv : (dokB S (pM Q) && tyB P (pM Q))
  · have hv := Lib.hid (ri_no2 (l := l) (F := F) (W := W) (m := m) (i := i) hsv)
    go_wp2
    go_ret2
    exact riLB_no (ri_no0 hv.out) hv.out B3
  have hsv2 := hsv
  rw [Bool.and_eq_true] at hsv2
  have hdk := Lib.hid hsv2.1
  have hty := Lib.hid hsv2.2
  clear hsv2
  have hsvh := Lib.hid hsv
  have hQ40 : Q.length ≤ 40 := by have := dokB_len hdk.out; rwa [pM_len] at this
  clear hsv
  by_cases hi0 : i < 0
  · have hv := Lib.hid (ri_no3 (P := P) (S := S) (l := l) (F := F) (W := W) (m := m) (i := i) (M := pM Q) ((inB_no _ _ _).2 (by omega)))
    go_wp2
    go_ret2
    exact riLB_no (ri_no0 hv.out) hv.out B3
  go_wp2_with fail
  refine (gcount_any _ _ _ _ _ _ _ _ _ _ _ _ _ _ _ (lvL P l) (tbS S F) _ hpt.out (by omega) (hPt.out.below B13)).mono ?_
  rintro e w5 ⟨rfl, hb5⟩
  have B15 := Below.via' B13 hb5
  have B5 := Below.via' B1 B15
  have hG5 := Lib.hid (hG3.out.below hb5)
  clear j0 j1 j2 j3 j4 j5 j6 jl hb5
  by_cases hi1 : ((lvL P l).length : Int) * cnZ (tbS S F) ≤ i
  · have hv := Lib.hid (ri_no3 (P := P) (S := S) (l := l) (F := F) (W := W) (m := m) (i := i) (M := pM Q) ((inB_no _ _ _).2 (by unfold tcZ; omega)))
    go_wp2
    go_ret2
    exact riLB_no (ri_no0 hv.out) hv.out B5
  have hv := Lib.hid (ri_yes hth.out hsvh.out ((inB_iff i 0 (tcZ P S l F - 1)).2 ⟨by omega, by unfold tcZ; omega⟩))
  go_wp2
  go_loopw [14, 47] (fun u q wr => ∃ j : Nat, j ≤ Q.length ∧ q = .int .i64 j ∧ wr.ownsRow w5.heap.size 3 1 u (selK (riF P S l F W i (pM Q)) j).length (iC (selK (riF P S l F W i (pM Q)) j)) ∧ Below w5.heap.size w5 wr) (fun _ q _ => Q.length - (intOf q).toNat)
  case atStart => exact ⟨0, by omega, by go_num, World.ownsRow_nil _ _ _ _, Below.refl _ _⟩
  case round =>
    obtain ⟨j, hj, rfl, hown, hb⟩ := hrel
    have hownh := Lib.hid hown
    clear hown
    have hsl := sel_len (riF P S l F W i (pM Q)) j
    have Bw : Below w.heap.size w wr := Below.via' B5 hb
    by_cases hlt : j < Q.length
    · obtain ⟨bl, off, q, rfl, hbl, hQj, hc0, hc1, hc2⟩ := (hQh.out.2.2.below Bw).rec hlt
      obtain ⟨k, hka, hcl⟩ := sv_cl hdk.out hty.out hQj
      have hqr := Lib.hid ((hQh.out.2.1 q (List.mem_of_getElem? hQj)).2.2.below Bw)
      have hri := riF_at (P := P) (S := S) (l := l) (F := F) (W := W) (i := i) hQj
      have hclh := Lib.hid hcl
      obtain ⟨qa, qh, qx, qc, qL⟩ := q
      have hka : qa = (k : Int) := hka
      subst hka
      have hlt' : (j : Int) < (Q.length : Int) := by omega
      replace hQj := Lib.hid hQj
      replace hri : riF P S l F W i (pM Q) j = decide (clI P S l F W (k : Int) qL = i) := hri
      have hc2 : wr.cell? ⟨bl, off + j * 3 + 2, none⟩ = some (.slice qx qL.length qc) := hc2
      have BA : Below wr.heap.size wr (wr.alloc (.cells #[.int .i64 (k : Int), .int .i64 qh, .slice qx qL.length qc] 72)) := (by repeat (first | exact Below.refl _ _ | assumption | refine Below.drew ?_ | refine below_drewN ?_ _ | refine Below.alloc' ?_ _ | (refine Below.setCell ?_ (by first | omega | (simp; done) | (simp; omega) | exact Below.size (by assumption) | exact Nat.le_trans (Below.size (by assumption)) (by simp)) _) | (refine Below.via' ?_ (by assumption)) | (refine Below.alloc ?_ (by first | omega | (simp; done) | (simp; omega) | exact Below.size (by assumption) | exact Nat.le_trans (Below.size (by assumption)) (by simp)) _) | (refine Below.via ?_ (by assumption) (by first | omega | (simp; done) | (simp; omega) | exact Below.size (by assumption) | exact Nat.le_trans (Below.size (by assumption)) (by simp)))))
      obtain ⟨WA, hWA⟩ : ∃ WA, WA = wr.alloc (.cells #[.int .i64 (k : Int), .int .i64 qh, .slice qx qL.length qc] 72) := ⟨_, rfl⟩
      have hqn := RB.new wr k qh qx qL.length qc 72
      rw [← hWA] at BA hqn
      have hqn := Lib.hid hqn
      have hownA := Lib.hid (own_below hownh.out BA)
      have BwA : Below w.heap.size w WA := Below.via' Bw BA
      have B5A : Below w5.heap.size w5 WA := Below.via' hb BA
      replace hWA := Lib.hid hWA
      clear hcl
      have FF := And.intro (hG5.out.below B5A) hqn.out; rw [hWA.out] at FF; obtain ⟨⟨j0, j1, j2, j3, j4, j5, j6, jl⟩, ⟨ra, rb, rc, rd⟩⟩ := FF
      go_wp2_with fail
      rw [← hWA.out]
      refine (contrib_any _ _ _ _ _ _ _ _ _ _ _ _ P S l F W m k qh qL _ hth.out hclh.out (hPh.out.below BwA) (hFh.out.below BwA) (hWh.out.below BwA) (hAh.out.below (Below.via' B15 B5A)) (hPt.out.below (Below.via' B15 B5A)) (hqr.out.below BA)).mono ?_
      rintro e w2 ⟨rfl, hb2⟩
      have hb2' : Below w5.heap.size w5 w2 := Below.via' B5A hb2
      have ho2 := Lib.hid (own_below hownA.out hb2)
      have hs0 := hb2'.size
      by_cases hci : clI P S l F W (k : Int) qL = i
      · have ht : (clI P S l F W (k : Int) qL == i) = true := by rw [beq_iff_eq]; exact hci
        have hsel := Lib.hid (sel_yes (p := riF P S l F W i (pM Q)) (k := j) (by rw [hri]; exact decide_eq_true hci))
        replace hci := Lib.hid hci
        clear hri
        go_wp2_with (at_builtin; go_loud (refine wpList_append_rd _ rfl (.tmp 61) (.tmp 63) 22 rfl (w5.heap.size) 3 i0 (.int .i64 0) 1 8 Try.underlying22 hii hz0 hz1 hz2 rfl (by decide) _ (selK (riF P S l F W i (pM Q)) j).length (iC (selK (riF P S l F W i (pM Q)) j)) rfl ((ho2.out.alloc _)) _ 1 1 rfl (Nat.le_refl _) (by intro h; cases h) (iC [((j : Int) : Int)]) rfl (rd_oneE _ _ _ _ (by simp)) (iC_one _) (by unfold maxLen; omega) (by omega) (by simp; omega) ?_); intro v3 w3 hown3 hgrow3 hwhere3)
        obtain ⟨hb3, hl3⟩ := append_below hb2' (fun k hk => (ho2.out.lt k hk).1) hgrow3 hwhere3
        have hown3 := Lib.hid (own_snocE hown3 hsel.out rfl)
        clear hgrow3 hwhere3
        go_wp2
        go_roundw
        case rel => exact ⟨j + 1, by omega, by go_num, hown3.out, hb3⟩
        case measure => simp [intOf]; omega
      · have ht : (clI P S l F W (k : Int) qL == i) = false := by rw [beq_eq_false_iff_ne]; exact hci
        have hsel := Lib.hid (sel_no (p := riF P S l F W i (pM Q)) (k := j) (by rw [hri]; exact decide_eq_false hci))
        replace hci := Lib.hid hci
        clear hri
        go_wp2
        go_roundw
        case rel => exact ⟨j + 1, by omega, by go_num, by rw [hsel.out]; exact ho2.out, hb2'⟩
        case measure => simp [intOf]; omega
    · have hij : j = Q.length := by omega
      subst hij
      go_wp2
      go_ret2
      refine ⟨_, ret_vb hv.out.1.symm, ?_, Bw⟩
      rw [hv.out.2, pM_len]
      exact own_more hownh.out B5.size
end Go.Proofs.Ytgkaalonmkcclaa

namespace Go.Proofs.Ytgkaalonmkcclaa
open Go.RowKit
set_option maxRecDepth 100000

theorem sRI_m (p y x z v : Option Addr) (c c1 c2 c3 c4 : Nat) (P : List Int) (S : List (ByteArray × Int)) (l : Int) (F W : List Int) (m : Int) (Q : List PR) (i : Int) (w : World) (hP : IIn w p P) (hS : SIn w y c1 S) (hT : TIn w x z F W) (hQ : DIn w v Q) (M : List RV) (hM : pM Q = M) :
    Calls Try.prog 43 #[.agg #[.slice p P.length c], .slice y S.length c1, .agg #[.int .i64 l, .slice x F.length c2, .slice z W.length c3, .int .i64 m], .slice v Q.length c4, .int .i64 i] w (RetLB (riL P S l F W m i M) (riB P S l F W m i M) w) := by
  subst hM
  exact sRI_x p y x z v c c1 c2 c3 c4 P S l F W m Q i w hP hS hT hQ
theorem iRI_m (p y x z v : Option Addr) (c c1 c2 c3 c4 : Nat) (P : List Int) (S : List (ByteArray × Int)) (l : Int) (F W : List Int) (m : Int) (Q : List PR) (i : Int) (w : World) (hP : IIn w p P) (hS : SIn w y c1 S) (hT : TIn w x z F W) (hQ : DIn w v Q) (M : List RV) (hM : pM Q = M) :
    Calls Try.prog 44 #[.agg #[.slice p P.length c], .slice y S.length c1, .agg #[.int .i64 l, .slice x F.length c2, .slice z W.length c3, .int .i64 m], .slice v Q.length c4, .int .i64 i] w (RetLB (riL P S l F W m i M) (riB P S l F W m i M) w) := by
  subst hM
  exact iRI_x p y x z v c c1 c2 c3 c4 P S l F W m Q i w hP hS hT hQ
end Go.Proofs.Ytgkaalonmkcclaa

namespace Go.Proofs.Ytgkaalonmkcclaa
open Go.ChangeShapes Go.RowKit
section
variable {H : Type} {enc : TypeId × Value → H} {P : Program} {w : World} {base : Nat} {spare : Nat → Bool} {held : Bool}
theorem trodAll_five {t t' t'' t3 t4 : TypeId} {args : Array Value} {ds : List (DataW H)} {ps : List MemPlace} (h : DataW.TrodAll enc P w base spare held [t, t', t'', t3, t4] args.toList ds ps) :
    ∃ v v' v'' v3 v4 d d' d'' d3 d4 p p' p'' p3 p4, args = #[v, v', v'', v3, v4] ∧ ds = [d, d', d'', d3, d4] ∧ ps = p ++ p' ++ p'' ++ p3 ++ p4 ∧ DataW.Trod enc P w base spare held t v d p ∧ DataW.Trod enc P w base spare held t' v' d' p' ∧ DataW.Trod enc P w base spare held t'' v'' d'' p'' ∧ DataW.Trod enc P w base spare held t3 v3 d3 p3 ∧ DataW.Trod enc P w base spare held t4 v4 d4 p4 := by
  obtain ⟨v, vs, d, ds', p, q, hargs, rfl, rfl, hd, hrest⟩ := trodAll_cons h
  obtain ⟨v', vs', d', ds'', p', q', rfl, rfl, rfl, hd', hrest'⟩ := trodAll_cons hrest
  obtain ⟨v'', vs'', d'', ds''', p'', q'', rfl, rfl, rfl, hd'', hrest''⟩ := trodAll_cons hrest'
  obtain ⟨v3, vs3, d3, ds3, p3, q3, rfl, rfl, rfl, hd3, hrest3⟩ := trodAll_cons hrest''
  obtain ⟨v4, vs4, d4, ds4, p4, q4, rfl, rfl, rfl, hd4, hrest4⟩ := trodAll_cons hrest3
  obtain ⟨rfl, rfl, rfl⟩ := trodAll_nil hrest4
  exact ⟨v, v', v'', v3, v4, d, d', d'', d3, d4, p, p', p'', p3, p4, by cases args; simp_all, rfl, by simp, hd, hd', hd'', hd3, hd4⟩
end
end Go.Proofs.Ytgkaalonmkcclaa

namespace Go.Proofs.Ytgkaalonmkcclaa
open Go.RowKit
set_option maxRecDepth 100000

/-- Data and a bool that the program's function gives: its own memory. -/
def DsI (b : Bool) (R : List RV) (w : World) (e : Ending) (w' : World) : Prop :=
  ∃ v T, e = .returned (.tuple #[v, .bool b]) ∧ pM T = R ∧ OwD w' w.heap.size w'.heap.size 72 3 v T ∧ Below w.heap.size w w'
/-- Data and a bool that the model's function gives. -/
def DsS (b : Bool) (R : List RV) (w : World) (e : Ending) (w' : World) : Prop :=
  ∃ x c T, e = .returned (.tuple #[.slice x (List.length (α := PR) T) c, .bool b]) ∧ pM T = R ∧ DRd w' w.heap.size w'.heap.size x T ∧ Below w.heap.size w w'
def rsL (b : Bool) (R : List RV) : List RV := if b then R else []
theorem OwD.nil (w : World) (lo hi : Nat) (tr ti : TypeId) : OwD w lo hi tr ti (.slice none 0 0) [] :=
  ⟨⟨World.ownsRow_nil _ _ _ _, fun k hk => (by cases hk)⟩, ⟨fun q hq => (by cases hq), by simp⟩, fun q hq => (by cases hq)⟩
theorem DRd.nil (w : World) (lo hi : Nat) : DRd w lo hi none [] := ⟨Or.inl rfl, fun b off e => by (cases e), fun q hq => by (cases hq)⟩
theorem DsI.no {b : Bool} {R : List RV} {w w' : World} (hb : b = false) (hw : Below w.heap.size w w') : DsI b (rsL b R) w (.returned (.tuple #[.slice none 0 0, .bool false])) w' := by
  subst hb
  exact ⟨_, [], rfl, rfl, OwD.nil _ _ _ _ _, hw⟩
theorem DsS.no {b : Bool} {R : List RV} {w w' : World} (hb : b = false) (hw : Below w.heap.size w w') : DsS b (rsL b R) w (.returned (.tuple #[.slice none 0 0, .bool false])) w' := by
  subst hb
  exact ⟨none, 0, [], rfl, rfl, DRd.nil _ _ _, hw⟩
theorem DsI.yes {b : Bool} {R : List RV} {w w' : World} {v : Value} {T : List PR} (hb : b = true) (hT : pM T = R) (ho : OwD w' w.heap.size w'.heap.size 72 3 v T) (hw : Below w.heap.size w w') : DsI b (rsL b R) w (.returned (.tuple #[v, .bool true])) w' := by
  subst hb
  exact ⟨v, T, rfl, hT, ho, hw⟩
theorem DsS.yes {b : Bool} {R : List RV} {w w' : World} {x : Option Addr} {c : Nat} {T : List PR} (hb : b = true) (hT : pM T = R) (ho : DRd w' w.heap.size w'.heap.size x T) (hw : Below w.heap.size w w') : DsS b (rsL b R) w (.returned (.tuple #[.slice x T.length c, .bool true])) w' := by
  subst hb
  exact ⟨x, c, T, rfl, hT, ho, hw⟩

/-- How many values all records have, without their places. -/
def totR (R : List RV) : Nat := (R.map fun q => q.2.2.length).sum
theorem tot_pM (Q : List PR) : tot Q = totR (pM Q) := by unfold tot totR pM; rw [List.map_map]; rfl
theorem tot_eq {T Q : List PR} (h : pM T = pM Q) : tot T = tot Q := by rw [tot_pM, tot_pM, h]
theorem totR_le {R : List RV} {n : Nat} (h : ∀ q ∈ R, q.2.2.length ≤ n) : totR R ≤ R.length * n := by
  unfold totR
  induction R with
  | nil => simp
  | cons q r ih =>
    have h1 := h q (by simp)
    have h2 := ih (fun p hp => h p (List.mem_cons_of_mem _ hp))
    rw [List.map_cons, List.sum_cons, List.length_cons, Nat.add_mul]
    omega
theorem rsL_small {b : Bool} {R : List RV} (h : b = true → R.length ≤ 40 ∧ ∀ q ∈ R, q.2.2.length ≤ 6) : (rsL b R).length ≤ 40 ∧ totR (rsL b R) ≤ 240 := by
  unfold rsL
  cases b with
  | false => simp [totR]
  | true =>
    obtain ⟨h1, h2⟩ := h rfl
    have h3 := totR_le h2
    simp only [if_true]
    exact ⟨h1, by omega⟩
theorem dok_small {S : List (ByteArray × Int)} {R : List RV} (h : idB S R = true) : R.length ≤ 40 ∧ ∀ q ∈ R, q.2.2.length ≤ 6 := by
  unfold idB at h
  rw [Bool.and_eq_true] at h
  refine ⟨dokB_len h.2, fun q hq => ?_⟩
  have := fit_len (rokB_get (dokB_mem h.2 hq)).2.2.2.2
  have := (schB_len h.1).2
  omega
theorem DRd.inn {w : World} {lo hi : Nat} {x : Option Addr} {Q : List PR} (h : DRd w lo hi x Q) : ∀ q ∈ Q, Rd w q.x (iC q.L) := fun q hq => (h.2.2 q hq).1
theorem OwD.rd {w : World} {lo hi : Nat} {tr ti : TypeId} {x : Option Addr} {c : Nat} {Q : List PR} (h : OwD w lo hi tr ti (.slice x Q.length c) Q) : Rd w x (pC Q) := h.1.rd
theorem OwD.inn {w : World} {lo hi : Nat} {tr ti : TypeId} {v : Value} {Q : List PR} (h : OwD w lo hi tr ti v Q) : ∀ q ∈ Q, Rd w q.x (iC q.L) := fun q hq => (h.2.1.1 q hq).rd
theorem tot_all {Q : List PR} (h : tot Q ≤ 1048576) : ∀ q ∈ Q, q.L.length ≤ 9223372036854775807 := fun q hq => by have := tot_mem hq; omega
end Go.Proofs.Ytgkaalonmkcclaa
