/- The law of GroupData: for every slice of structs of a string and an integer, every struct of an integer and a slice of integers, and every slice of structs of two integers and a slice of integers, the program's GroupData answers as the model's, its answer owns its memory, nothing that was there is written, and the arguments read as before. No condition. -/
import Derived.Test.YtnmpigedhpdenabRecD
import Derived.Test.YtnmpigedhpdenabGre
namespace Go.Proofs.Ytnmpigedhpdenab
open Go.ChangeShapes Go.WideShapes Go.ChangeAt Go.RowKit
set_option maxRecDepth 100000

theorem GB.off {w w' : World} {lo hi g : Nat} {v : Int} {y : Option Addr} {n c : Nat} (h : GB w g v y n c) (hg : Off lo hi w w') (hne : g < lo ∨ hi ≤ g) : GB w' g v y n c := by
  have e := hg.block g h.2.2 hne
  exact ⟨(World.cell?_of_block (a := ⟨g, 0, none⟩) e).trans h.1, (World.cell?_of_block (a := ⟨g, 1, none⟩) e).trans h.2.1, Nat.lt_of_lt_of_le h.2.2 hg.size⟩

set_option maxHeartbeats 8000000 in
theorem fnExactGroupData_any (x yg y : Option Addr) (cap capg cap2 : Nat) (S : List (ByteArray × Int)) (v : Int) (G : List Int) (Q : List PR) (w : World) (hlen : S.length ≤ 9223372036854775807) (hn : Hid (∀ q ∈ S, q.1.size ≤ 9223372036854775807 ∧ IsI64 q.2)) (hS : Hid (Rd w x (vC S)))
    (hlG : G.length ≤ 9223372036854775807) (hnG : Hid (∀ n ∈ G, IsI64 n)) (hG : Hid (Rd w yg (iC G))) (hlQ : Q.length ≤ 9223372036854775807) (hQ : Hid (DIn0 w y Q)) :
    Calls Try.prog 7 #[.slice x S.length cap, .agg #[.int .i64 v, .slice yg G.length capg], .slice y Q.length cap2] w fun e w' => e = .returned (.bool true) ∧ Below w.heap.size w w' := by
  have hbd := gd_small S v G (pM Q)
  go_enter Try.func7, Try.ntmps7
  go_wp2_with fail
  refine (szVariableS_any _ _ S _ _ (by omega) (by omega) hlen (fun p hp => (hn.out p hp).1) (hS.out.below (by exact (by repeat (first | exact Below.refl _ _ | assumption | refine Below.drew ?_ | refine below_drewN ?_ _ | refine Below.alloc' ?_ _ | (refine Below.setCell ?_ (by first | omega | (simp; done) | (simp; omega) | exact Below.size (by assumption) | exact Nat.le_trans (Below.size (by assumption)) (by simp)) _) | (refine Below.via' ?_ (by assumption)) | (refine Below.alloc ?_ (by first | omega | (simp; done) | (simp; omega) | exact Below.size (by assumption) | exact Nat.le_trans (Below.size (by assumption)) (by simp)) _) | (refine Below.via ?_ (by assumption) (by first | omega | (simp; done) | (simp; omega) | exact Below.size (by assumption) | exact Nat.le_trans (Below.size (by assumption)) (by simp)))))))).mono ?_
  rintro e w1 ⟨r, rfl, hr1, hr2, hr3, hb1⟩
  by_cases hr : r < 0
  · go_wp2
    go_ret
    exact ⟨rfl, (by repeat (first | exact Below.refl _ _ | assumption | refine Below.drew ?_ | refine below_drewN ?_ _ | refine Below.alloc' ?_ _ | (refine Below.setCell ?_ (by first | omega | (simp; done) | (simp; omega) | exact Below.size (by assumption) | exact Nat.le_trans (Below.size (by assumption)) (by simp)) _) | (refine Below.via' ?_ (by assumption)) | (refine Below.alloc ?_ (by first | omega | (simp; done) | (simp; omega) | exact Below.size (by assumption) | exact Nat.le_trans (Below.size (by assumption)) (by simp)) _) | (refine Below.via ?_ (by assumption) (by first | omega | (simp; done) | (simp; omega) | exact Below.size (by assumption) | exact Nat.le_trans (Below.size (by assumption)) (by simp)))))⟩
  obtain ⟨hm, hsz⟩ := hr3 (by omega)
  have hm : S.length ≤ 1048576 := by omega
  clear hr3 hsz
  have hk1 := Lib.hid ((GB.new w v yg G.length capg 51).below hb1)
  obtain ⟨ka1, kb1, kc1⟩ := hk1.out
  go_wp2_with fail
  refine (szGrouping_any _ _ _ _ _ _ (by omega) (by omega) hlG).mono ?_
  rintro e w0 ⟨rfl, hb0⟩
  by_cases hrg : szZ r G.length < 0
  · go_wp2
    go_ret
    exact ⟨rfl, (by repeat (first | exact Below.refl _ _ | assumption | refine Below.drew ?_ | refine below_drewN ?_ _ | refine Below.alloc' ?_ _ | (refine Below.setCell ?_ (by first | omega | (simp; done) | (simp; omega) | exact Below.size (by assumption) | exact Nat.le_trans (Below.size (by assumption)) (by simp)) _) | (refine Below.via' ?_ (by assumption)) | (refine Below.alloc ?_ (by first | omega | (simp; done) | (simp; omega) | exact Below.size (by assumption) | exact Nat.le_trans (Below.size (by assumption)) (by simp)) _) | (refine Below.via ?_ (by assumption) (by first | omega | (simp; done) | (simp; omega) | exact Below.size (by assumption) | exact Nat.le_trans (Below.size (by assumption)) (by simp)))))⟩
  have hmG : G.length ≤ 1048576 := by
    unfold szZ at hrg
    split at hrg <;> omega
  have hbg := szZ_bd r G.length (by omega)
  have hk0 := Lib.hid (hk1.out.below hb0)
  clear ka1 kb1 kc1
  go_wp2_with fail
  refine (szRecordS_any _ _ Q _ _ (by omega) (by omega) hlQ (fun q hq => (hQ.out.2.1 q hq).1) (hQ.out.2.2.below (by exact (by repeat (first | exact Below.refl _ _ | assumption | refine Below.drew ?_ | refine below_drewN ?_ _ | refine Below.alloc' ?_ _ | (refine Below.setCell ?_ (by first | omega | (simp; done) | (simp; omega) | exact Below.size (by assumption) | exact Nat.le_trans (Below.size (by assumption)) (by simp)) _) | (refine Below.via' ?_ (by assumption)) | (refine Below.alloc ?_ (by first | omega | (simp; done) | (simp; omega) | exact Below.size (by assumption) | exact Nat.le_trans (Below.size (by assumption)) (by simp)) _) | (refine Below.via ?_ (by assumption) (by first | omega | (simp; done) | (simp; omega) | exact Below.size (by assumption) | exact Nat.le_trans (Below.size (by assumption)) (by simp)))))))).mono ?_
  rintro e w20 ⟨r20, rfl, hra20, hrb20, hrc20, hb20⟩
  by_cases hr20 : r20 < 0
  · go_wp2
    go_ret
    exact ⟨rfl, (by repeat (first | exact Below.refl _ _ | assumption | refine Below.drew ?_ | refine below_drewN ?_ _ | refine Below.alloc' ?_ _ | (refine Below.setCell ?_ (by first | omega | (simp; done) | (simp; omega) | exact Below.size (by assumption) | exact Nat.le_trans (Below.size (by assumption)) (by simp)) _) | (refine Below.via' ?_ (by assumption)) | (refine Below.alloc ?_ (by first | omega | (simp; done) | (simp; omega) | exact Below.size (by assumption) | exact Nat.le_trans (Below.size (by assumption)) (by simp)) _) | (refine Below.via ?_ (by assumption) (by first | omega | (simp; done) | (simp; omega) | exact Below.size (by assumption) | exact Nat.le_trans (Below.size (by assumption)) (by simp)))))⟩
  have hrd20 := hrc20 (by omega)
  have hmQ : (Q).length ≤ 1048576 := by omega
  have htQ : tot Q ≤ 1048576 := by omega
  clear hrc20
  have hk20 := Lib.hid (hk0.out.below hb20)
  obtain ⟨ka20, kb20, kc20⟩ := hk20.out
  go_wp2_with fail
  go_region_held3 (fun w' => Below (w20).heap.size (w20) w' ∧ (∀ b o, b < (w20).heap.size → w'.cell? ⟨b, o, none⟩ = (w20).cell? ⟨b, o, none⟩)) (first | exact keep_of (Below.refl _ _) | ((try go_split_ands); exact keep_of (by repeat (first | exact Below.refl _ _ | assumption | refine Below.drew ?_ | refine below_drewN ?_ _ | refine Below.alloc' ?_ _ | (refine Below.setCell ?_ (by first | omega | (simp; done) | (simp; omega) | exact Below.size (by assumption) | exact Nat.le_trans (Below.size (by assumption)) (by simp)) _) | (refine Below.via' ?_ (by assumption)) | (refine Below.alloc ?_ (by first | omega | (simp; done) | (simp; omega) | exact Below.size (by assumption) | exact Nat.le_trans (Below.size (by assumption)) (by simp)) _) | (refine Below.via ?_ (by assumption) (by first | omega | (simp; done) | (simp; omega) | exact Below.size (by assumption) | exact Nat.le_trans (Below.size (by assumption)) (by simp))))))) (first | (go_at_call 36; refine (toVariableS_any _ _ S _ hm (hS.out.below (by exact (by repeat (first | exact Below.refl _ _ | assumption | refine Below.drew ?_ | refine below_drewN ?_ _ | refine Below.alloc' ?_ _ | (refine Below.setCell ?_ (by first | omega | (simp; done) | (simp; omega) | exact Below.size (by assumption) | exact Nat.le_trans (Below.size (by assumption)) (by simp)) _) | (refine Below.via' ?_ (by assumption)) | (refine Below.alloc ?_ (by first | omega | (simp; done) | (simp; omega) | exact Below.size (by assumption) | exact Nat.le_trans (Below.size (by assumption)) (by simp)) _) | (refine Below.via ?_ (by assumption) (by first | omega | (simp; done) | (simp; omega) | exact Below.size (by assumption) | exact Nat.le_trans (Below.size (by assumption)) (by simp)))))))).mono ?_; rintro e w2 ⟨rfl, ho2, hb2⟩; (have hi2 : Hid (SIn w2 (some ⟨w20.heap.size, 0, none⟩) S.length S) := ⟨hm, Nat.le_refl _, hn.out, Rd.of_own ho2⟩)) | (go_at_call 37; refine (toGrouping_any _ _ _ G _ hmG (hG.out.below (by exact (by repeat (first | exact Below.refl _ _ | assumption | refine Below.drew ?_ | refine below_drewN ?_ _ | refine Below.alloc' ?_ _ | (refine Below.setCell ?_ (by first | omega | (simp; done) | (simp; omega) | exact Below.size (by assumption) | exact Nat.le_trans (Below.size (by assumption)) (by simp)) _) | (refine Below.via' ?_ (by assumption)) | (refine Below.alloc ?_ (by first | omega | (simp; done) | (simp; omega) | exact Below.size (by assumption) | exact Nat.le_trans (Below.size (by assumption)) (by simp)) _) | (refine Below.via ?_ (by assumption) (by first | omega | (simp; done) | (simp; omega) | exact Below.size (by assumption) | exact Nat.le_trans (Below.size (by assumption)) (by simp)))))))).mono ?_; rintro e w3 ⟨g3, rfl, ho3, hb3⟩; (have hi3 : Hid (IIn w3 (some ⟨g3, 0, none⟩) G) := ⟨hmG, hnG.out, Rd.of_own ho3⟩)) | (go_at_call 52; refine (toRecordS_any _ _ Q _ hmQ (fun q hq => ⟨by have := tot_mem hq; omega, (hQ.out.2.1 q hq).2.2.2.2.below (by exact (by repeat (first | exact Below.refl _ _ | assumption | refine Below.drew ?_ | refine below_drewN ?_ _ | refine Below.alloc' ?_ _ | (refine Below.setCell ?_ (by first | omega | (simp; done) | (simp; omega) | exact Below.size (by assumption) | exact Nat.le_trans (Below.size (by assumption)) (by simp)) _) | (refine Below.via' ?_ (by assumption)) | (refine Below.alloc ?_ (by first | omega | (simp; done) | (simp; omega) | exact Below.size (by assumption) | exact Nat.le_trans (Below.size (by assumption)) (by simp)) _) | (refine Below.via ?_ (by assumption) (by first | omega | (simp; done) | (simp; omega) | exact Below.size (by assumption) | exact Nat.le_trans (Below.size (by assumption)) (by simp))))))⟩) (hQ.out.2.2.below (by exact (by repeat (first | exact Below.refl _ _ | assumption | refine Below.drew ?_ | refine below_drewN ?_ _ | refine Below.alloc' ?_ _ | (refine Below.setCell ?_ (by first | omega | (simp; done) | (simp; omega) | exact Below.size (by assumption) | exact Nat.le_trans (Below.size (by assumption)) (by simp)) _) | (refine Below.via' ?_ (by assumption)) | (refine Below.alloc ?_ (by first | omega | (simp; done) | (simp; omega) | exact Below.size (by assumption) | exact Nat.le_trans (Below.size (by assumption)) (by simp)) _) | (refine Below.via ?_ (by assumption) (by first | omega | (simp; done) | (simp; omega) | exact Below.size (by assumption) | exact Nat.le_trans (Below.size (by assumption)) (by simp)))))))).mono ?_; rintro e w4 ⟨T4, rfl, hpm4, ho4, hb4⟩; (have hi4 : Hid (DIn w4 (some ⟨w3.heap.size, 0, none⟩) T4) := Lib.hid (DIn.of_owD ho4 hpm4 hQ.out hmQ htQ)); replace hpm4 := Lib.hid hpm4) | (go_at_call 51; refine (sGD_x _ _ _ _ _ _ S v G T4 _ (hi2.out.below (by exact (by repeat (first | exact Below.refl _ _ | assumption | refine Below.drew ?_ | refine below_drewN ?_ _ | refine Below.alloc' ?_ _ | (refine Below.setCell ?_ (by first | omega | (simp; done) | (simp; omega) | exact Below.size (by assumption) | exact Nat.le_trans (Below.size (by assumption)) (by simp)) _) | (refine Below.via' ?_ (by assumption)) | (refine Below.alloc ?_ (by first | omega | (simp; done) | (simp; omega) | exact Below.size (by assumption) | exact Nat.le_trans (Below.size (by assumption)) (by simp)) _) | (refine Below.via ?_ (by assumption) (by first | omega | (simp; done) | (simp; omega) | exact Below.size (by assumption) | exact Nat.le_trans (Below.size (by assumption)) (by simp))))))) (hi3.out.below (by exact (by repeat (first | exact Below.refl _ _ | assumption | refine Below.drew ?_ | refine below_drewN ?_ _ | refine Below.alloc' ?_ _ | (refine Below.setCell ?_ (by first | omega | (simp; done) | (simp; omega) | exact Below.size (by assumption) | exact Nat.le_trans (Below.size (by assumption)) (by simp)) _) | (refine Below.via' ?_ (by assumption)) | (refine Below.alloc ?_ (by first | omega | (simp; done) | (simp; omega) | exact Below.size (by assumption) | exact Nat.le_trans (Below.size (by assumption)) (by simp)) _) | (refine Below.via ?_ (by assumption) (by first | omega | (simp; done) | (simp; omega) | exact Below.size (by assumption) | exact Nat.le_trans (Below.size (by assumption)) (by simp))))))) (hi4.out.below (by exact (by repeat (first | exact Below.refl _ _ | assumption | refine Below.drew ?_ | refine below_drewN ?_ _ | refine Below.alloc' ?_ _ | (refine Below.setCell ?_ (by first | omega | (simp; done) | (simp; omega) | exact Below.size (by assumption) | exact Nat.le_trans (Below.size (by assumption)) (by simp)) _) | (refine Below.via' ?_ (by assumption)) | (refine Below.alloc ?_ (by first | omega | (simp; done) | (simp; omega) | exact Below.size (by assumption) | exact Nat.le_trans (Below.size (by assumption)) (by simp)) _) | (refine Below.via ?_ (by assumption) (by first | omega | (simp; done) | (simp; omega) | exact Below.size (by assumption) | exact Nat.le_trans (Below.size (by assumption)) (by simp))))))) ho4.cap).mono ?_; rintro e w5 ⟨x5, c5, T5, rfl, hp5, hd5, hb55⟩)); rename_i hH; obtain ⟨hb5, hcl5⟩ := hH; have hz5 := hb5.size; (try simp at hz5); (try (have hly5 := Nat.lt_of_succ_le hz5)); (try (have hlx5 := Nat.lt_of_succ_lt hly5)); (try (have hlw5 := Nat.lt_of_succ_lt hlx5)); (try (have hle5 := Nat.le_of_lt hly5)); (try (have hya5 : w.heap.size < w5.heap.size := by omega)); (try (have hyb5 : w.heap.size + 1 < w5.heap.size := by omega)); (try (have hyc5 : w.heap.size + 1 + 1 < w5.heap.size := by omega)); (try (have hyd5 : wa.heap.size < w5.heap.size := by omega))
  rw [hpm4.out] at hp5 ⊢
  have hs0 : w.heap.size ≤ w20.heap.size := (show Below w.heap.size w w20 from (by repeat (first | exact Below.refl _ _ | assumption | refine Below.drew ?_ | refine below_drewN ?_ _ | refine Below.alloc' ?_ _ | (refine Below.setCell ?_ (by first | omega | (simp; done) | (simp; omega) | exact Below.size (by assumption) | exact Nat.le_trans (Below.size (by assumption)) (by simp)) _) | (refine Below.via' ?_ (by assumption)) | (refine Below.alloc ?_ (by first | omega | (simp; done) | (simp; omega) | exact Below.size (by assumption) | exact Nat.le_trans (Below.size (by assumption)) (by simp)) _) | (refine Below.via ?_ (by assumption) (by first | omega | (simp; done) | (simp; omega) | exact Below.size (by assumption) | exact Nat.le_trans (Below.size (by assumption)) (by simp)))))).size
  have B5 : Below w.heap.size w w5 := (by repeat (first | exact Below.refl _ _ | assumption | refine Below.drew ?_ | refine below_drewN ?_ _ | refine Below.alloc' ?_ _ | (refine Below.setCell ?_ (by first | omega | (simp; done) | (simp; omega) | exact Below.size (by assumption) | exact Nat.le_trans (Below.size (by assumption)) (by simp)) _) | (refine Below.via' ?_ (by assumption)) | (refine Below.alloc ?_ (by first | omega | (simp; done) | (simp; omega) | exact Below.size (by assumption) | exact Nat.le_trans (Below.size (by assumption)) (by simp)) _) | (refine Below.via ?_ (by assumption) (by first | omega | (simp; done) | (simp; omega) | exact Below.size (by assumption) | exact Nat.le_trans (Below.size (by assumption)) (by simp)))))
  have hz52 := hb5.size
  have hk5 := Lib.hid (hk20.out.below hb5)
  obtain ⟨ka5, kb5, kc5⟩ := hk5.out
  have htR : tot T5 ≤ 240 := by rw [tot_pM, hp5]; exact hbd.2
  have hlR : T5.length ≤ 40 := by rw [← pM_len, hp5]; exact hbd.1
  have W5 := Lib.hid hd5
  clear hb1 hb0 hb20 hb2 hb3 hb4 hb5 hb55 ho2 hi2 ho3 hi3 ho4 hi4 hpm4 hd5 ka20 kb20 kc20 hk20 hk0 hk1 hcl5
  go_wp2_with fail
  refine (toVariableS_any _ _ S _ hm (hS.out.below (by exact (by repeat (first | exact Below.refl _ _ | assumption | refine Below.drew ?_ | refine below_drewN ?_ _ | refine Below.alloc' ?_ _ | (refine Below.setCell ?_ (by first | omega | (simp; done) | (simp; omega) | exact Below.size (by assumption) | exact Nat.le_trans (Below.size (by assumption)) (by simp)) _) | (refine Below.via' ?_ (by assumption)) | (refine Below.alloc ?_ (by first | omega | (simp; done) | (simp; omega) | exact Below.size (by assumption) | exact Nat.le_trans (Below.size (by assumption)) (by simp)) _) | (refine Below.via ?_ (by assumption) (by first | omega | (simp; done) | (simp; omega) | exact Below.size (by assumption) | exact Nat.le_trans (Below.size (by assumption)) (by simp)))))))).mono ?_
  rintro e w6 ⟨rfl, ho6, hb6⟩
  have hi6 : Hid (SIn w6 (some ⟨w5.heap.size, 0, none⟩) S.length S) := ⟨hm, Nat.le_refl _, hn.out, Rd.of_own ho6⟩
  have hz6 := hb6.size; (try simp at hz6); (try (have hly6 := Nat.lt_of_succ_le hz6)); (try (have hlx6 := Nat.lt_of_succ_lt hly6)); (try (have hlw6 := Nat.lt_of_succ_lt hlx6)); (try (have hle6 := Nat.le_of_lt hly6))
  have B6 : Below w.heap.size w w6 := (by repeat (first | exact Below.refl _ _ | assumption | refine Below.drew ?_ | refine below_drewN ?_ _ | refine Below.alloc' ?_ _ | (refine Below.setCell ?_ (by first | omega | (simp; done) | (simp; omega) | exact Below.size (by assumption) | exact Nat.le_trans (Below.size (by assumption)) (by simp)) _) | (refine Below.via' ?_ (by assumption)) | (refine Below.alloc ?_ (by first | omega | (simp; done) | (simp; omega) | exact Below.size (by assumption) | exact Nat.le_trans (Below.size (by assumption)) (by simp)) _) | (refine Below.via ?_ (by assumption) (by first | omega | (simp; done) | (simp; omega) | exact Below.size (by assumption) | exact Nat.le_trans (Below.size (by assumption)) (by simp)))))
  have W6 := Lib.hid (W5.out.below hb6)
  have X6 := Lib.hid (OwR.of ho6)
  have hz62 := hb6.size
  have hb6h := Lib.hid hb6
  clear W5 hb6 ho6
  have hk6 := Lib.hid (hk5.out.below (show Below w5.heap.size w5 w6 from hb6h.out))
  obtain ⟨ka6, kb6, kc6⟩ := hk6.out
  clear ka5 kb5 kc5
  go_wp2_with fail
  refine (toGrouping_any _ _ _ G _ hmG (hG.out.below (by exact (by repeat (first | exact Below.refl _ _ | assumption | refine Below.drew ?_ | refine below_drewN ?_ _ | refine Below.alloc' ?_ _ | (refine Below.setCell ?_ (by first | omega | (simp; done) | (simp; omega) | exact Below.size (by assumption) | exact Nat.le_trans (Below.size (by assumption)) (by simp)) _) | (refine Below.via' ?_ (by assumption)) | (refine Below.alloc ?_ (by first | omega | (simp; done) | (simp; omega) | exact Below.size (by assumption) | exact Nat.le_trans (Below.size (by assumption)) (by simp)) _) | (refine Below.via ?_ (by assumption) (by first | omega | (simp; done) | (simp; omega) | exact Below.size (by assumption) | exact Nat.le_trans (Below.size (by assumption)) (by simp)))))))).mono ?_
  rintro e w70 ⟨g70, rfl, ho70, hb70⟩
  have hi70 : Hid (IIn w70 (some ⟨g70, 0, none⟩) G) := ⟨hmG, hnG.out, Rd.of_own ho70⟩
  have hz70 := hb70.size; (try simp at hz70); (try (have hly70 := Nat.lt_of_succ_le hz70)); (try (have hlx70 := Nat.lt_of_succ_lt hly70)); (try (have hlw70 := Nat.lt_of_succ_lt hlx70)); (try (have hle70 := Nat.le_of_lt hly70))
  have hg7 := Lib.hid (GB.new w70 v (some ⟨g70, 0, none⟩) G.length G.length 58)
  have B70 : Below w.heap.size w w70 := (by repeat (first | exact Below.refl _ _ | assumption | refine Below.drew ?_ | refine below_drewN ?_ _ | refine Below.alloc' ?_ _ | (refine Below.setCell ?_ (by first | omega | (simp; done) | (simp; omega) | exact Below.size (by assumption) | exact Nat.le_trans (Below.size (by assumption)) (by simp)) _) | (refine Below.via' ?_ (by assumption)) | (refine Below.alloc ?_ (by first | omega | (simp; done) | (simp; omega) | exact Below.size (by assumption) | exact Nat.le_trans (Below.size (by assumption)) (by simp)) _) | (refine Below.via ?_ (by assumption) (by first | omega | (simp; done) | (simp; omega) | exact Below.size (by assumption) | exact Nat.le_trans (Below.size (by assumption)) (by simp)))))
  have hz702 := hb70.size
  have hk70 := Lib.hid (hk6.out.below hb70)
  have Y70 := Lib.hid (OwR.of ho70)
  have W70 := Lib.hid (W6.out.below hb70)
  have X70 := Lib.hid (X6.out.below hb70)
  have hi670 := Lib.hid (hi6.out.below hb70)
  clear ho70 ka6 kb6 kc6
  go_wp2_with fail
  refine (toRecordS_any _ _ Q _ hmQ (fun q hq => ⟨by have := tot_mem hq; omega, (hQ.out.2.1 q hq).2.2.2.2.below (by exact (by repeat (first | exact Below.refl _ _ | assumption | refine Below.drew ?_ | refine below_drewN ?_ _ | refine Below.alloc' ?_ _ | (refine Below.setCell ?_ (by first | omega | (simp; done) | (simp; omega) | exact Below.size (by assumption) | exact Nat.le_trans (Below.size (by assumption)) (by simp)) _) | (refine Below.via' ?_ (by assumption)) | (refine Below.alloc ?_ (by first | omega | (simp; done) | (simp; omega) | exact Below.size (by assumption) | exact Nat.le_trans (Below.size (by assumption)) (by simp)) _) | (refine Below.via ?_ (by assumption) (by first | omega | (simp; done) | (simp; omega) | exact Below.size (by assumption) | exact Nat.le_trans (Below.size (by assumption)) (by simp))))))⟩) (hQ.out.2.2.below (by exact (by repeat (first | exact Below.refl _ _ | assumption | refine Below.drew ?_ | refine below_drewN ?_ _ | refine Below.alloc' ?_ _ | (refine Below.setCell ?_ (by first | omega | (simp; done) | (simp; omega) | exact Below.size (by assumption) | exact Nat.le_trans (Below.size (by assumption)) (by simp)) _) | (refine Below.via' ?_ (by assumption)) | (refine Below.alloc ?_ (by first | omega | (simp; done) | (simp; omega) | exact Below.size (by assumption) | exact Nat.le_trans (Below.size (by assumption)) (by simp)) _) | (refine Below.via ?_ (by assumption) (by first | omega | (simp; done) | (simp; omega) | exact Below.size (by assumption) | exact Nat.le_trans (Below.size (by assumption)) (by simp)))))))).mono ?_
  rintro e w7 ⟨T7, rfl, hpm7, ho7, hb7⟩
  have hbx7 : Below w70.heap.size w70 w7 := (by repeat (first | exact Below.refl _ _ | assumption | refine Below.drew ?_ | refine below_drewN ?_ _ | refine Below.alloc' ?_ _ | (refine Below.setCell ?_ (by first | omega | (simp; done) | (simp; omega) | exact Below.size (by assumption) | exact Nat.le_trans (Below.size (by assumption)) (by simp)) _) | (refine Below.via' ?_ (by assumption)) | (refine Below.alloc ?_ (by first | omega | (simp; done) | (simp; omega) | exact Below.size (by assumption) | exact Nat.le_trans (Below.size (by assumption)) (by simp)) _) | (refine Below.via ?_ (by assumption) (by first | omega | (simp; done) | (simp; omega) | exact Below.size (by assumption) | exact Nat.le_trans (Below.size (by assumption)) (by simp)))))
  have hz7a : w70.heap.size + 1 ≤ w7.heap.size := by have := hb7.size; simpa using this
  have ho7 : OwD w7 (w70.heap.size + 1) w7.heap.size 140 3 (.slice (some ⟨w70.heap.size + 1, 0, none⟩) T7.length T7.length) T7 := by simpa using ho7
  have hi7 : Hid (DIn w7 (some ⟨w70.heap.size + 1, 0, none⟩) T7) := Lib.hid (DIn.of_owD ho7 hpm7 hQ.out hmQ htQ)
  replace hpm7 := Lib.hid hpm7
  have hk7 := Lib.hid (hk70.out.below hbx7)
  obtain ⟨ka7, kb7, kc7⟩ := hk7.out
  have hg77 := Lib.hid (hg7.out.below hb7)
  obtain ⟨ga7, gb7, gc7⟩ := hg77.out
  have Y7 := Lib.hid (Y70.out.below hbx7)
  have hiG7 := Lib.hid (hi70.out.below hbx7)
  have B7 : Below w.heap.size w w7 := (by repeat (first | exact Below.refl _ _ | assumption | refine Below.drew ?_ | refine below_drewN ?_ _ | refine Below.alloc' ?_ _ | (refine Below.setCell ?_ (by first | omega | (simp; done) | (simp; omega) | exact Below.size (by assumption) | exact Nat.le_trans (Below.size (by assumption)) (by simp)) _) | (refine Below.via' ?_ (by assumption)) | (refine Below.alloc ?_ (by first | omega | (simp; done) | (simp; omega) | exact Below.size (by assumption) | exact Nat.le_trans (Below.size (by assumption)) (by simp)) _) | (refine Below.via ?_ (by assumption) (by first | omega | (simp; done) | (simp; omega) | exact Below.size (by assumption) | exact Nat.le_trans (Below.size (by assumption)) (by simp)))))
  have W7 := Lib.hid (W70.out.below hbx7)
  have X7 := Lib.hid (X70.out.below hbx7)
  have D7 := Lib.hid ho7
  have hi67 := Lib.hid (hi670.out.below hbx7)
  have hcap7 := Lib.hid ho7.cap
  have htD : tot T7 ≤ 1048576 := by rw [tot_eq hpm7.out]; exact htQ
  have hlD : T7.length ≤ 1048576 := by rw [pM_length hpm7.out]; exact hmQ
  clear W6 X6 hi6 hb7 ho7 hb70 hi70 W70 X70 Y70 hi670 hk70 hg7 hbx7 B70 hb6h hk5 hk6
  go_wp2_with fail
  refine (iGD_x _ _ _ _ _ _ S v G T7 _ hi67.out hiG7.out hi7.out hcap7.out).mono ?_
  rintro e w9 ⟨u9, T9, rfl, hp9, ho9, hb9⟩
  rw [hpm7.out] at hp9 ⊢
  obtain ⟨x9, c9, rfl, -, -⟩ := ho9.form
  have hpp : pM T5 = pM T9 := hp5.trans hp9.symm
  have htG : tot T9 ≤ 240 := by rw [← tot_eq hpp]; exact htR
  have hl9 : T9.length ≤ 40 := by rw [← pM_length hpp]; exact hlR
  have hpph := Lib.hid hpp
  have hp9h := Lib.hid hp9
  have B9 : Below w.heap.size w w9 := (by repeat (first | exact Below.refl _ _ | assumption | refine Below.drew ?_ | refine below_drewN ?_ _ | refine Below.alloc' ?_ _ | (refine Below.setCell ?_ (by first | omega | (simp; done) | (simp; omega) | exact Below.size (by assumption) | exact Nat.le_trans (Below.size (by assumption)) (by simp)) _) | (refine Below.via' ?_ (by assumption)) | (refine Below.alloc ?_ (by first | omega | (simp; done) | (simp; omega) | exact Below.size (by assumption) | exact Nat.le_trans (Below.size (by assumption)) (by simp)) _) | (refine Below.via ?_ (by assumption) (by first | omega | (simp; done) | (simp; omega) | exact Below.size (by assumption) | exact Nat.le_trans (Below.size (by assumption)) (by simp)))))
  have W9 := Lib.hid (W7.out.below hb9)
  have X9 := Lib.hid (X7.out.below hb9)
  have D9 := Lib.hid (D7.out.below hb9)
  have G9 := Lib.hid ho9
  have hz92 := hb9.size
  have hk9 := Lib.hid (hk7.out.below hb9)
  obtain ⟨ka9, kb9, kc9⟩ := hk9.out
  have hg79 := Lib.hid (hg77.out.below hb9)
  obtain ⟨ga9, gb9, gc9⟩ := hg79.out
  have Y9 := Lib.hid (Y7.out.below hb9)
  clear ka7 kb7 kc7 ga7 gb7 gc7
  clear W7 X7 D7 hb9 ho9 hi67 hi7 hcap7 hp5 hp9 hpp B7
  go_wp2_with fail
  refine (eqRecordS_any _ _ _ _ T9 T5 _ (by omega) (tot_all (by omega)) hpph.out G9.out.rd G9.out.inn W9.out.1 W9.out.inn).mono ?_
  rintro e w10 ⟨rfl, hb10⟩
  have B10 : Below w.heap.size w w10 := (by repeat (first | exact Below.refl _ _ | assumption | refine Below.drew ?_ | refine below_drewN ?_ _ | refine Below.alloc' ?_ _ | (refine Below.setCell ?_ (by first | omega | (simp; done) | (simp; omega) | exact Below.size (by assumption) | exact Nat.le_trans (Below.size (by assumption)) (by simp)) _) | (refine Below.via' ?_ (by assumption)) | (refine Below.alloc ?_ (by first | omega | (simp; done) | (simp; omega) | exact Below.size (by assumption) | exact Nat.le_trans (Below.size (by assumption)) (by simp)) _) | (refine Below.via ?_ (by assumption) (by first | omega | (simp; done) | (simp; omega) | exact Below.size (by assumption) | exact Nat.le_trans (Below.size (by assumption)) (by simp)))))
  have W10 := Lib.hid (W9.out.below hb10)
  have X10 := Lib.hid (X9.out.below hb10)
  have D10 := Lib.hid (D9.out.below hb10)
  have G10 := Lib.hid (G9.out.below hb10)
  have hz102 := hb10.size
  have hk10 := Lib.hid (hk9.out.below hb10)
  obtain ⟨ka10, kb10, kc10⟩ := hk10.out
  have hg710 := Lib.hid (hg79.out.below hb10)
  obtain ⟨ga10, gb10, gc10⟩ := hg710.out
  have Y10 := Lib.hid (Y9.out.below hb10)
  clear ka9 kb9 kc9 ga9 gb9 gc9
  clear W9 X9 D9 G9 hb10 B9
  go_wp2_with fail
  refine (toVariableS_any _ _ S _ hm (hS.out.below (by exact (by repeat (first | exact Below.refl _ _ | assumption | refine Below.drew ?_ | refine below_drewN ?_ _ | refine Below.alloc' ?_ _ | (refine Below.setCell ?_ (by first | omega | (simp; done) | (simp; omega) | exact Below.size (by assumption) | exact Nat.le_trans (Below.size (by assumption)) (by simp)) _) | (refine Below.via' ?_ (by assumption)) | (refine Below.alloc ?_ (by first | omega | (simp; done) | (simp; omega) | exact Below.size (by assumption) | exact Nat.le_trans (Below.size (by assumption)) (by simp)) _) | (refine Below.via ?_ (by assumption) (by first | omega | (simp; done) | (simp; omega) | exact Below.size (by assumption) | exact Nat.le_trans (Below.size (by assumption)) (by simp)))))))).mono ?_
  rintro e w11 ⟨rfl, ho11, hb11⟩
  have hi11 : Hid (SIn w11 (some ⟨w10.heap.size, 0, none⟩) S.length S) := ⟨hm, Nat.le_refl _, hn.out, Rd.of_own ho11⟩
  have hz11 := hb11.size; (try simp at hz11); (try (have hly11 := Nat.lt_of_succ_le hz11)); (try (have hlx11 := Nat.lt_of_succ_lt hly11)); (try (have hlw11 := Nat.lt_of_succ_lt hlx11)); (try (have hle11 := Nat.le_of_lt hly11))
  have hr11 := Lib.hid (Rd.of_own ho11)
  have B11 : Below w.heap.size w w11 := (by repeat (first | exact Below.refl _ _ | assumption | refine Below.drew ?_ | refine below_drewN ?_ _ | refine Below.alloc' ?_ _ | (refine Below.setCell ?_ (by first | omega | (simp; done) | (simp; omega) | exact Below.size (by assumption) | exact Nat.le_trans (Below.size (by assumption)) (by simp)) _) | (refine Below.via' ?_ (by assumption)) | (refine Below.alloc ?_ (by first | omega | (simp; done) | (simp; omega) | exact Below.size (by assumption) | exact Nat.le_trans (Below.size (by assumption)) (by simp)) _) | (refine Below.via ?_ (by assumption) (by first | omega | (simp; done) | (simp; omega) | exact Below.size (by assumption) | exact Nat.le_trans (Below.size (by assumption)) (by simp)))))
  have W11 := Lib.hid (W10.out.below hb11)
  have X11 := Lib.hid (X10.out.below hb11)
  have D11 := Lib.hid (D10.out.below hb11)
  have G11 := Lib.hid (G10.out.below hb11)
  have hz112 := hb11.size
  have hk11 := Lib.hid (hk10.out.below hb11)
  obtain ⟨ka11, kb11, kc11⟩ := hk11.out
  have hg711 := Lib.hid (hg710.out.below hb11)
  obtain ⟨ga11, gb11, gc11⟩ := hg711.out
  have Y11 := Lib.hid (Y10.out.below hb11)
  clear ka10 kb10 kc10 ga10 gb10 gc10
  clear W10 X10 D10 G10 hb11 B10 ho11 hi11
  go_wp2_with fail
  refine (eqVariableS_any _ _ _ _ S _ hlen X11.out.rd hr11.out).mono ?_
  rintro e w12 ⟨rfl, hb12⟩
  have B12 : Below w.heap.size w w12 := (by repeat (first | exact Below.refl _ _ | assumption | refine Below.drew ?_ | refine below_drewN ?_ _ | refine Below.alloc' ?_ _ | (refine Below.setCell ?_ (by first | omega | (simp; done) | (simp; omega) | exact Below.size (by assumption) | exact Nat.le_trans (Below.size (by assumption)) (by simp)) _) | (refine Below.via' ?_ (by assumption)) | (refine Below.alloc ?_ (by first | omega | (simp; done) | (simp; omega) | exact Below.size (by assumption) | exact Nat.le_trans (Below.size (by assumption)) (by simp)) _) | (refine Below.via ?_ (by assumption) (by first | omega | (simp; done) | (simp; omega) | exact Below.size (by assumption) | exact Nat.le_trans (Below.size (by assumption)) (by simp)))))
  have W12 := Lib.hid (W11.out.below hb12)
  have X12 := Lib.hid (X11.out.below hb12)
  have D12 := Lib.hid (D11.out.below hb12)
  have G12 := Lib.hid (G11.out.below hb12)
  have hz122 := hb12.size
  have hk12 := Lib.hid (hk11.out.below hb12)
  obtain ⟨ka12, kb12, kc12⟩ := hk12.out
  have hg712 := Lib.hid (hg711.out.below hb12)
  obtain ⟨ga12, gb12, gc12⟩ := hg712.out
  have Y12 := Lib.hid (Y11.out.below hb12)
  clear ka11 kb11 kc11 ga11 gb11 gc11
  clear W11 X11 D11 G11 hb12 B11 hr11
  go_wp2_with fail
  go_region_held3 (fun w' => Below (w12).heap.size (w12) w' ∧ (∀ b o, b < (w12).heap.size → w'.cell? ⟨b, o, none⟩ = (w12).cell? ⟨b, o, none⟩)) (first | exact keep_of (Below.refl _ _) | ((try go_split_ands); exact keep_of (by repeat (first | exact Below.refl _ _ | assumption | refine Below.drew ?_ | refine below_drewN ?_ _ | refine Below.alloc' ?_ _ | (refine Below.setCell ?_ (by first | omega | (simp; done) | (simp; omega) | exact Below.size (by assumption) | exact Nat.le_trans (Below.size (by assumption)) (by simp)) _) | (refine Below.via' ?_ (by assumption)) | (refine Below.alloc ?_ (by first | omega | (simp; done) | (simp; omega) | exact Below.size (by assumption) | exact Nat.le_trans (Below.size (by assumption)) (by simp)) _) | (refine Below.via ?_ (by assumption) (by first | omega | (simp; done) | (simp; omega) | exact Below.size (by assumption) | exact Nat.le_trans (Below.size (by assumption)) (by simp))))))) (first | (go_at_call 37; refine (toGrouping_any _ _ _ G _ hmG (hG.out.below (by exact (by repeat (first | exact Below.refl _ _ | assumption | refine Below.drew ?_ | refine below_drewN ?_ _ | refine Below.alloc' ?_ _ | (refine Below.setCell ?_ (by first | omega | (simp; done) | (simp; omega) | exact Below.size (by assumption) | exact Nat.le_trans (Below.size (by assumption)) (by simp)) _) | (refine Below.via' ?_ (by assumption)) | (refine Below.alloc ?_ (by first | omega | (simp; done) | (simp; omega) | exact Below.size (by assumption) | exact Nat.le_trans (Below.size (by assumption)) (by simp)) _) | (refine Below.via ?_ (by assumption) (by first | omega | (simp; done) | (simp; omega) | exact Below.size (by assumption) | exact Nat.le_trans (Below.size (by assumption)) (by simp)))))))).mono ?_; rintro e w130 ⟨g130, rfl, ho130, hb130⟩; (have hi130 : Hid (IIn w130 (some ⟨g130, 0, none⟩) G) := ⟨hmG, hnG.out, Rd.of_own ho130⟩)) | (go_at_call 40; refine (eqGrouping_any _ _ _ _ _ G _ hlG (Y12.out.rd.below (by exact (by repeat (first | exact Below.refl _ _ | assumption | refine Below.drew ?_ | refine below_drewN ?_ _ | refine Below.alloc' ?_ _ | (refine Below.setCell ?_ (by first | omega | (simp; done) | (simp; omega) | exact Below.size (by assumption) | exact Nat.le_trans (Below.size (by assumption)) (by simp)) _) | (refine Below.via' ?_ (by assumption)) | (refine Below.alloc ?_ (by first | omega | (simp; done) | (simp; omega) | exact Below.size (by assumption) | exact Nat.le_trans (Below.size (by assumption)) (by simp)) _) | (refine Below.via ?_ (by assumption) (by first | omega | (simp; done) | (simp; omega) | exact Below.size (by assumption) | exact Nat.le_trans (Below.size (by assumption)) (by simp))))))) (hi130.out.2.2.below (by exact (by repeat (first | exact Below.refl _ _ | assumption | refine Below.drew ?_ | refine below_drewN ?_ _ | refine Below.alloc' ?_ _ | (refine Below.setCell ?_ (by first | omega | (simp; done) | (simp; omega) | exact Below.size (by assumption) | exact Nat.le_trans (Below.size (by assumption)) (by simp)) _) | (refine Below.via' ?_ (by assumption)) | (refine Below.alloc ?_ (by first | omega | (simp; done) | (simp; omega) | exact Below.size (by assumption) | exact Nat.le_trans (Below.size (by assumption)) (by simp)) _) | (refine Below.via ?_ (by assumption) (by first | omega | (simp; done) | (simp; omega) | exact Below.size (by assumption) | exact Nat.le_trans (Below.size (by assumption)) (by simp)))))))).mono ?_; rintro e w125 ⟨rfl, hb1255⟩)); rename_i hH; obtain ⟨hb125, hcl125⟩ := hH; have hz125 := hb125.size; (try simp at hz125); (try (have hly125 := Nat.lt_of_succ_le hz125)); (try (have hlx125 := Nat.lt_of_succ_lt hly125)); (try (have hlw125 := Nat.lt_of_succ_lt hlx125)); (try (have hle125 := Nat.le_of_lt hly125)); (try (have hya125 : w.heap.size < w125.heap.size := by omega)); (try (have hyb125 : w.heap.size + 1 < w125.heap.size := by omega)); (try (have hyc125 : w.heap.size + 1 + 1 < w125.heap.size := by omega)); (try (have hyd125 : wa.heap.size < w125.heap.size := by omega))
  have hb125' := Lib.hid hb125
  have hz1252 := hb125.size
  have hk125 := Lib.hid (hk12.out.below hb125)
  obtain ⟨ka125, kb125, kc125⟩ := hk125.out
  have hg7125 := Lib.hid (hg712.out.below hb125)
  obtain ⟨ga125, gb125, gc125⟩ := hg7125.out
  have Y125 := Lib.hid (Y12.out.below hb125)
  have B125 : Below w.heap.size w w125 := (by repeat (first | exact Below.refl _ _ | assumption | refine Below.drew ?_ | refine below_drewN ?_ _ | refine Below.alloc' ?_ _ | (refine Below.setCell ?_ (by first | omega | (simp; done) | (simp; omega) | exact Below.size (by assumption) | exact Nat.le_trans (Below.size (by assumption)) (by simp)) _) | (refine Below.via' ?_ (by assumption)) | (refine Below.alloc ?_ (by first | omega | (simp; done) | (simp; omega) | exact Below.size (by assumption) | exact Nat.le_trans (Below.size (by assumption)) (by simp)) _) | (refine Below.via ?_ (by assumption) (by first | omega | (simp; done) | (simp; omega) | exact Below.size (by assumption) | exact Nat.le_trans (Below.size (by assumption)) (by simp)))))
  have W125 := Lib.hid (W12.out.below hb125)
  have X125 := Lib.hid (X12.out.below hb125)
  have D125 := Lib.hid (D12.out.below hb125)
  have G125 := Lib.hid (G12.out.below hb125)
  clear ka12 kb12 kc12 ga12 gb12 gc12 W12 X12 D12 G12 B12 Y12 hk12 hg712 hb125 hb125' hcl125 hb130 hb1255 ho130 hi130
  go_wp2_with fail
  refine (toRecordS_any _ _ Q _ hmQ (fun q hq => ⟨by have := tot_mem hq; omega, (hQ.out.2.1 q hq).2.2.2.2.below (by exact (by repeat (first | exact Below.refl _ _ | assumption | refine Below.drew ?_ | refine below_drewN ?_ _ | refine Below.alloc' ?_ _ | (refine Below.setCell ?_ (by first | omega | (simp; done) | (simp; omega) | exact Below.size (by assumption) | exact Nat.le_trans (Below.size (by assumption)) (by simp)) _) | (refine Below.via' ?_ (by assumption)) | (refine Below.alloc ?_ (by first | omega | (simp; done) | (simp; omega) | exact Below.size (by assumption) | exact Nat.le_trans (Below.size (by assumption)) (by simp)) _) | (refine Below.via ?_ (by assumption) (by first | omega | (simp; done) | (simp; omega) | exact Below.size (by assumption) | exact Nat.le_trans (Below.size (by assumption)) (by simp))))))⟩) (hQ.out.2.2.below (by exact (by repeat (first | exact Below.refl _ _ | assumption | refine Below.drew ?_ | refine below_drewN ?_ _ | refine Below.alloc' ?_ _ | (refine Below.setCell ?_ (by first | omega | (simp; done) | (simp; omega) | exact Below.size (by assumption) | exact Nat.le_trans (Below.size (by assumption)) (by simp)) _) | (refine Below.via' ?_ (by assumption)) | (refine Below.alloc ?_ (by first | omega | (simp; done) | (simp; omega) | exact Below.size (by assumption) | exact Nat.le_trans (Below.size (by assumption)) (by simp)) _) | (refine Below.via ?_ (by assumption) (by first | omega | (simp; done) | (simp; omega) | exact Below.size (by assumption) | exact Nat.le_trans (Below.size (by assumption)) (by simp)))))))).mono ?_
  rintro e w13 ⟨T13, rfl, hpm13, ho13, hb13⟩
  have hi13 : Hid (DIn w13 (some ⟨w125.heap.size, 0, none⟩) T13) := Lib.hid (DIn.of_owD ho13 hpm13 hQ.out hmQ htQ)
  replace hpm13 := Lib.hid hpm13
  have hz13 := hb13.size; (try simp at hz13); (try (have hly13 := Nat.lt_of_succ_le hz13)); (try (have hlx13 := Nat.lt_of_succ_lt hly13)); (try (have hlw13 := Nat.lt_of_succ_lt hlx13)); (try (have hle13 := Nat.le_of_lt hly13))
  have B13 : Below w.heap.size w w13 := (by repeat (first | exact Below.refl _ _ | assumption | refine Below.drew ?_ | refine below_drewN ?_ _ | refine Below.alloc' ?_ _ | (refine Below.setCell ?_ (by first | omega | (simp; done) | (simp; omega) | exact Below.size (by assumption) | exact Nat.le_trans (Below.size (by assumption)) (by simp)) _) | (refine Below.via' ?_ (by assumption)) | (refine Below.alloc ?_ (by first | omega | (simp; done) | (simp; omega) | exact Below.size (by assumption) | exact Nat.le_trans (Below.size (by assumption)) (by simp)) _) | (refine Below.via ?_ (by assumption) (by first | omega | (simp; done) | (simp; omega) | exact Below.size (by assumption) | exact Nat.le_trans (Below.size (by assumption)) (by simp)))))
  have W13 := Lib.hid (W125.out.below hb13)
  have X13 := Lib.hid (X125.out.below hb13)
  have D13 := Lib.hid (D125.out.below hb13)
  have G13 := Lib.hid (G125.out.below hb13)
  have hz132 := hb13.size
  have hk13 := Lib.hid (hk125.out.below hb13)
  obtain ⟨ka13, kb13, kc13⟩ := hk13.out
  have hg713 := Lib.hid (hg7125.out.below hb13)
  obtain ⟨ga13, gb13, gc13⟩ := hg713.out
  have Y13 := Lib.hid (Y125.out.below hb13)
  clear ka125 kb125 kc125 ga125 gb125 gc125
  clear W125 X125 D125 G125 hb13 B125
  go_wp2_with fail
  refine (eqRecordS_any _ _ _ _ T7 T13 _ (by omega) (tot_all htD) (hpm13.out.trans hpm7.out.symm) D13.out.rd D13.out.inn hi13.out.2.2 hi13.out.inn).mono ?_
  rintro e w14 ⟨rfl, hb14⟩
  have B14 : Below w.heap.size w w14 := (by repeat (first | exact Below.refl _ _ | assumption | refine Below.drew ?_ | refine below_drewN ?_ _ | refine Below.alloc' ?_ _ | (refine Below.setCell ?_ (by first | omega | (simp; done) | (simp; omega) | exact Below.size (by assumption) | exact Nat.le_trans (Below.size (by assumption)) (by simp)) _) | (refine Below.via' ?_ (by assumption)) | (refine Below.alloc ?_ (by first | omega | (simp; done) | (simp; omega) | exact Below.size (by assumption) | exact Nat.le_trans (Below.size (by assumption)) (by simp)) _) | (refine Below.via ?_ (by assumption) (by first | omega | (simp; done) | (simp; omega) | exact Below.size (by assumption) | exact Nat.le_trans (Below.size (by assumption)) (by simp)))))
  have W14 := Lib.hid (W13.out.below hb14)
  have X14 := X13.out.below hb14
  have D14 := Lib.hid (D13.out.below hb14)
  have G14 := Lib.hid (G13.out.below hb14)
  have hz142 := hb14.size
  have hk14 := Lib.hid (hk13.out.below hb14)
  obtain ⟨ka14, kb14, kc14⟩ := hk14.out
  have hg714 := Lib.hid (hg713.out.below hb14)
  obtain ⟨ga14, gb14, gc14⟩ := hg714.out
  have Y14 := Lib.hid (Y13.out.below hb14)
  clear ka13 kb13 kc13 ga13 gb13 gc13
  clear W13 X13 D13 G13 hb14 B13 ho13 hi13 hpm13
  go_wp2_with fail
  refine (markVariableS_any _ _ _ _ _ _ _ (by omega) (by omega) hm X14.1).mono ?_
  rintro e w17 ⟨rfl, -, hg17⟩
  have f17 := Off.of_grown (lo := w5.heap.size) (hi := w6.heap.size) hg17 (fun k hk => X14.2 k hk)
  have B17 := Below.off B14 f17 (by omega)
  have W17 := Lib.hid (W14.out.off f17 (by omega))
  have D17 := Lib.hid (D14.out.off f17 (by omega))
  have G17 := Lib.hid (G14.out.off f17 (by omega))
  have hz172 := f17.size
  have hk17 := Lib.hid (hk14.out.grown hg17 (fun e => by have := X14.2 _ e.symm; omega))
  obtain ⟨ka17, kb17, kc17⟩ := hk17.out
  have hg717 := Lib.hid (hg714.out.grown hg17 (fun e => by have := X14.2 _ e.symm; omega))
  obtain ⟨ga17, gb17, gc17⟩ := hg717.out
  have Y17 := Y14.out.off f17 (by omega)
  clear ka14 kb14 kc14 ga14 gb14 gc14
  clear W14 X14 D14 G14 hg17 f17 B14
  go_wp2_with fail
  refine (markGrouping_any _ _ _ _ _ _ _ _ (by omega) (by omega) hmG Y17.1).mono ?_
  rintro e w171 ⟨rfl, hg171⟩
  have f171 := Off.of_grown (lo := w6.heap.size) (hi := w70.heap.size) hg171 (fun k hk => Y17.2 k hk)
  have B171 := Below.off B17 f171 (by omega)
  have W171 := Lib.hid (W17.out.off f171 (by omega))
  have D171 := Lib.hid (D17.out.off f171 (by omega))
  have G171 := Lib.hid (G17.out.off f171 (by omega))
  have hz1712 := f171.size
  have hk171 := Lib.hid (hk17.out.grown hg171 (fun e => by have := Y17.2 _ e.symm; omega))
  obtain ⟨ka171, kb171, kc171⟩ := hk171.out
  clear W17 D17 G17 hg171 f171 B17 Y17 ka17 kb17 kc17 ga17 gb17 gc17
  go_wp2_with fail
  refine (markRecordS_any _ _ _ _ _ T7 _ (by omega) (by omega) hlD htD D171.out).mono ?_
  rintro e w18 ⟨rfl, -, f18⟩
  have B18 := Below.off B171 f18 (by omega)
  have W18 := Lib.hid (W171.out.off f18 (by omega))
  have G18 := Lib.hid (G171.out.off f18 (by omega))
  have hz182 := f18.size
  have hk18 := Lib.hid (GB.off hk171.out f18 (Or.inl (by omega)))
  obtain ⟨ka18, kb18, kc18⟩ := hk18.out
  clear ka171 kb171 kc171
  have hkk : ¬ (1 + 2 * (S.length : Int) + (G.length : Int) + 2 * (T7.length : Int) + (tot T7 : Int) < 0) := by omega
  clear W171 D171 G171 B171
  go_wp2_with fail
  refine (eqRecordS_any _ _ _ _ T9 T5 _ (by omega) (tot_all (by omega)) hpph.out G18.out.rd G18.out.inn W18.out.1 W18.out.inn).mono ?_
  rintro e w20 ⟨rfl, hb20⟩
  have B20 : Below w.heap.size w w20 := (by repeat (first | exact Below.refl _ _ | assumption | refine Below.drew ?_ | refine below_drewN ?_ _ | refine Below.alloc' ?_ _ | (refine Below.setCell ?_ (by first | omega | (simp; done) | (simp; omega) | exact Below.size (by assumption) | exact Nat.le_trans (Below.size (by assumption)) (by simp)) _) | (refine Below.via' ?_ (by assumption)) | (refine Below.alloc ?_ (by first | omega | (simp; done) | (simp; omega) | exact Below.size (by assumption) | exact Nat.le_trans (Below.size (by assumption)) (by simp)) _) | (refine Below.via ?_ (by assumption) (by first | omega | (simp; done) | (simp; omega) | exact Below.size (by assumption) | exact Nat.le_trans (Below.size (by assumption)) (by simp)))))
  have W20 := Lib.hid (W18.out.below hb20)
  have G20 := Lib.hid (G18.out.below hb20)
  have hz202 := hb20.size
  have hk20 := Lib.hid (hk18.out.below hb20)
  obtain ⟨ka20, kb20, kc20⟩ := hk20.out
  clear ka18 kb18 kc18
  clear W18 G18 hb20 B18
  go_wp2_with fail
  refine (markRecordS_any _ _ _ _ _ T9 _ (by omega) (by omega) (by omega) (by omega) G20.out).mono ?_
  rintro e w21 ⟨rfl, ho21, f21⟩
  have B21 := Below.off B20 f21 (by omega)
  have W21 := Lib.hid (W20.out.off f21 (by omega))
  have G21 := Lib.hid (show DRd w21 w7.heap.size w9.heap.size x9 (mR 1 T9) from by have e := mR_len 1 T9; rw [← e] at ho21; exact ho21.drd)
  have hz212 := f21.size
  have hk21 := Lib.hid (GB.off hk20.out f21 (Or.inl (by omega)))
  obtain ⟨ka21, kb21, kc21⟩ := hk21.out
  clear ka20 kb20 kc20
  have hq0 : ¬ (1 + 2 * (T9.length : Int) + (tot T9 : Int) < 0) := by omega
  clear W20 G20 f21 B20 ho21
  go_wp2_with fail
  refine (heldRecordS_any _ _ _ T9 _ (by omega) (by omega) (by omega) (by omega) G21.out.1 G21.out.inn).mono ?_
  rintro e w22 ⟨rfl, hb22⟩
  have B22 : Below w.heap.size w w22 := (by repeat (first | exact Below.refl _ _ | assumption | refine Below.drew ?_ | refine below_drewN ?_ _ | refine Below.alloc' ?_ _ | (refine Below.setCell ?_ (by first | omega | (simp; done) | (simp; omega) | exact Below.size (by assumption) | exact Nat.le_trans (Below.size (by assumption)) (by simp)) _) | (refine Below.via' ?_ (by assumption)) | (refine Below.alloc ?_ (by first | omega | (simp; done) | (simp; omega) | exact Below.size (by assumption) | exact Nat.le_trans (Below.size (by assumption)) (by simp)) _) | (refine Below.via ?_ (by assumption) (by first | omega | (simp; done) | (simp; omega) | exact Below.size (by assumption) | exact Nat.le_trans (Below.size (by assumption)) (by simp)))))
  have W22 := Lib.hid (W21.out.below hb22)
  have G22 := Lib.hid (G21.out.below hb22)
  have hz222 := hb22.size
  have hk22 := Lib.hid (hk21.out.below hb22)
  obtain ⟨ka22, kb22, kc22⟩ := hk22.out
  clear ka21 kb21 kc21
  clear W21 G21 hb22 B21
  go_wp2_with fail
  go_region_held3 (fun w' => Below (w22).heap.size (w22) w' ∧ (∀ b o, b < (w22).heap.size → w'.cell? ⟨b, o, none⟩ = (w22).cell? ⟨b, o, none⟩)) (first | exact keep_of (Below.refl _ _) | ((try go_split_ands); exact keep_of (by repeat (first | exact Below.refl _ _ | assumption | refine Below.drew ?_ | refine below_drewN ?_ _ | refine Below.alloc' ?_ _ | (refine Below.setCell ?_ (by first | omega | (simp; done) | (simp; omega) | exact Below.size (by assumption) | exact Nat.le_trans (Below.size (by assumption)) (by simp)) _) | (refine Below.via' ?_ (by assumption)) | (refine Below.alloc ?_ (by first | omega | (simp; done) | (simp; omega) | exact Below.size (by assumption) | exact Nat.le_trans (Below.size (by assumption)) (by simp)) _) | (refine Below.via ?_ (by assumption) (by first | omega | (simp; done) | (simp; omega) | exact Below.size (by assumption) | exact Nat.le_trans (Below.size (by assumption)) (by simp))))))) (first | (go_at_call 36; refine (toVariableS_any _ _ S _ hm (hS.out.below (by exact (by repeat (first | exact Below.refl _ _ | assumption | refine Below.drew ?_ | refine below_drewN ?_ _ | refine Below.alloc' ?_ _ | (refine Below.setCell ?_ (by first | omega | (simp; done) | (simp; omega) | exact Below.size (by assumption) | exact Nat.le_trans (Below.size (by assumption)) (by simp)) _) | (refine Below.via' ?_ (by assumption)) | (refine Below.alloc ?_ (by first | omega | (simp; done) | (simp; omega) | exact Below.size (by assumption) | exact Nat.le_trans (Below.size (by assumption)) (by simp)) _) | (refine Below.via ?_ (by assumption) (by first | omega | (simp; done) | (simp; omega) | exact Below.size (by assumption) | exact Nat.le_trans (Below.size (by assumption)) (by simp)))))))).mono ?_; rintro e w23 ⟨rfl, ho23, hb23⟩; (have hi23 : Hid (SIn w23 (some ⟨w22.heap.size, 0, none⟩) S.length S) := ⟨hm, Nat.le_refl _, hn.out, Rd.of_own ho23⟩)) | (go_at_call 37; refine (toGrouping_any _ _ _ G _ hmG (hG.out.below (by exact (by repeat (first | exact Below.refl _ _ | assumption | refine Below.drew ?_ | refine below_drewN ?_ _ | refine Below.alloc' ?_ _ | (refine Below.setCell ?_ (by first | omega | (simp; done) | (simp; omega) | exact Below.size (by assumption) | exact Nat.le_trans (Below.size (by assumption)) (by simp)) _) | (refine Below.via' ?_ (by assumption)) | (refine Below.alloc ?_ (by first | omega | (simp; done) | (simp; omega) | exact Below.size (by assumption) | exact Nat.le_trans (Below.size (by assumption)) (by simp)) _) | (refine Below.via ?_ (by assumption) (by first | omega | (simp; done) | (simp; omega) | exact Below.size (by assumption) | exact Nat.le_trans (Below.size (by assumption)) (by simp)))))))).mono ?_; rintro e w240 ⟨g240, rfl, ho240, hb240⟩; (have hi240 : Hid (IIn w240 (some ⟨g240, 0, none⟩) G) := ⟨hmG, hnG.out, Rd.of_own ho240⟩)) | (go_at_call 52; refine (toRecordS_any _ _ Q _ hmQ (fun q hq => ⟨by have := tot_mem hq; omega, (hQ.out.2.1 q hq).2.2.2.2.below (by exact (by repeat (first | exact Below.refl _ _ | assumption | refine Below.drew ?_ | refine below_drewN ?_ _ | refine Below.alloc' ?_ _ | (refine Below.setCell ?_ (by first | omega | (simp; done) | (simp; omega) | exact Below.size (by assumption) | exact Nat.le_trans (Below.size (by assumption)) (by simp)) _) | (refine Below.via' ?_ (by assumption)) | (refine Below.alloc ?_ (by first | omega | (simp; done) | (simp; omega) | exact Below.size (by assumption) | exact Nat.le_trans (Below.size (by assumption)) (by simp)) _) | (refine Below.via ?_ (by assumption) (by first | omega | (simp; done) | (simp; omega) | exact Below.size (by assumption) | exact Nat.le_trans (Below.size (by assumption)) (by simp))))))⟩) (hQ.out.2.2.below (by exact (by repeat (first | exact Below.refl _ _ | assumption | refine Below.drew ?_ | refine below_drewN ?_ _ | refine Below.alloc' ?_ _ | (refine Below.setCell ?_ (by first | omega | (simp; done) | (simp; omega) | exact Below.size (by assumption) | exact Nat.le_trans (Below.size (by assumption)) (by simp)) _) | (refine Below.via' ?_ (by assumption)) | (refine Below.alloc ?_ (by first | omega | (simp; done) | (simp; omega) | exact Below.size (by assumption) | exact Nat.le_trans (Below.size (by assumption)) (by simp)) _) | (refine Below.via ?_ (by assumption) (by first | omega | (simp; done) | (simp; omega) | exact Below.size (by assumption) | exact Nat.le_trans (Below.size (by assumption)) (by simp)))))))).mono ?_; rintro e w24 ⟨T24, rfl, hpm24, ho24, hb24⟩; (have hi24 : Hid (DIn w24 (some ⟨w240.heap.size, 0, none⟩) T24) := Lib.hid (DIn.of_owD ho24 hpm24 hQ.out hmQ htQ)); replace hpm24 := Lib.hid hpm24) | (go_at_call 53; refine (iGD_x _ _ _ _ _ _ S v G T24 _ (hi23.out.below (by exact (by repeat (first | exact Below.refl _ _ | assumption | refine Below.drew ?_ | refine below_drewN ?_ _ | refine Below.alloc' ?_ _ | (refine Below.setCell ?_ (by first | omega | (simp; done) | (simp; omega) | exact Below.size (by assumption) | exact Nat.le_trans (Below.size (by assumption)) (by simp)) _) | (refine Below.via' ?_ (by assumption)) | (refine Below.alloc ?_ (by first | omega | (simp; done) | (simp; omega) | exact Below.size (by assumption) | exact Nat.le_trans (Below.size (by assumption)) (by simp)) _) | (refine Below.via ?_ (by assumption) (by first | omega | (simp; done) | (simp; omega) | exact Below.size (by assumption) | exact Nat.le_trans (Below.size (by assumption)) (by simp))))))) (hi240.out.below (by exact (by repeat (first | exact Below.refl _ _ | assumption | refine Below.drew ?_ | refine below_drewN ?_ _ | refine Below.alloc' ?_ _ | (refine Below.setCell ?_ (by first | omega | (simp; done) | (simp; omega) | exact Below.size (by assumption) | exact Nat.le_trans (Below.size (by assumption)) (by simp)) _) | (refine Below.via' ?_ (by assumption)) | (refine Below.alloc ?_ (by first | omega | (simp; done) | (simp; omega) | exact Below.size (by assumption) | exact Nat.le_trans (Below.size (by assumption)) (by simp)) _) | (refine Below.via ?_ (by assumption) (by first | omega | (simp; done) | (simp; omega) | exact Below.size (by assumption) | exact Nat.le_trans (Below.size (by assumption)) (by simp))))))) (hi24.out.below (by exact (by repeat (first | exact Below.refl _ _ | assumption | refine Below.drew ?_ | refine below_drewN ?_ _ | refine Below.alloc' ?_ _ | (refine Below.setCell ?_ (by first | omega | (simp; done) | (simp; omega) | exact Below.size (by assumption) | exact Nat.le_trans (Below.size (by assumption)) (by simp)) _) | (refine Below.via' ?_ (by assumption)) | (refine Below.alloc ?_ (by first | omega | (simp; done) | (simp; omega) | exact Below.size (by assumption) | exact Nat.le_trans (Below.size (by assumption)) (by simp)) _) | (refine Below.via ?_ (by assumption) (by first | omega | (simp; done) | (simp; omega) | exact Below.size (by assumption) | exact Nat.le_trans (Below.size (by assumption)) (by simp))))))) ho24.cap).mono ?_; rintro e w26 ⟨u26, T26, rfl, hp26, ho26, hb265⟩)); rename_i hH; obtain ⟨hb26, hcl26⟩ := hH; have hz26 := hb26.size; (try simp at hz26); (try (have hly26 := Nat.lt_of_succ_le hz26)); (try (have hlx26 := Nat.lt_of_succ_lt hly26)); (try (have hlw26 := Nat.lt_of_succ_lt hlx26)); (try (have hle26 := Nat.le_of_lt hly26)); (try (have hya26 : w.heap.size < w26.heap.size := by omega)); (try (have hyb26 : w.heap.size + 1 < w26.heap.size := by omega)); (try (have hyc26 : w.heap.size + 1 + 1 < w26.heap.size := by omega)); (try (have hyd26 : wa.heap.size < w26.heap.size := by omega))
  rw [hpm24.out] at hp26 ⊢
  obtain ⟨x26, c26, rfl, -, -⟩ := ho26.form
  have hpp2 : pM T5 = pM T26 := hpph.out.trans (hp9h.out.trans hp26.symm)
  have htH : tot T26 ≤ 240 := by rw [← tot_eq hpp2]; exact htR
  have hlH : T26.length ≤ 40 := by rw [← pM_length hpp2]; exact hlR
  have hpp2h := Lib.hid hpp2
  have B26 : Below w.heap.size w w26 := (by repeat (first | exact Below.refl _ _ | assumption | refine Below.drew ?_ | refine below_drewN ?_ _ | refine Below.alloc' ?_ _ | (refine Below.setCell ?_ (by first | omega | (simp; done) | (simp; omega) | exact Below.size (by assumption) | exact Nat.le_trans (Below.size (by assumption)) (by simp)) _) | (refine Below.via' ?_ (by assumption)) | (refine Below.alloc ?_ (by first | omega | (simp; done) | (simp; omega) | exact Below.size (by assumption) | exact Nat.le_trans (Below.size (by assumption)) (by simp)) _) | (refine Below.via ?_ (by assumption) (by first | omega | (simp; done) | (simp; omega) | exact Below.size (by assumption) | exact Nat.le_trans (Below.size (by assumption)) (by simp)))))
  have W26 := Lib.hid (W22.out.below hb26)
  have G26 := Lib.hid (G22.out.below hb26)
  have H26 := Lib.hid ho26
  clear W22 G22 hb26 ho26 B22 hi23 hi240 hi24 hp26 hpp2 hb265 hcl26
  go_wp2_with fail
  refine (eqRecordS_any _ _ _ _ T26 T5 _ (by omega) (tot_all (by omega)) hpp2h.out H26.out.rd H26.out.inn W26.out.1 W26.out.inn).mono ?_
  rintro e w27 ⟨rfl, hb27⟩
  have B27 : Below w.heap.size w w27 := (by repeat (first | exact Below.refl _ _ | assumption | refine Below.drew ?_ | refine below_drewN ?_ _ | refine Below.alloc' ?_ _ | (refine Below.setCell ?_ (by first | omega | (simp; done) | (simp; omega) | exact Below.size (by assumption) | exact Nat.le_trans (Below.size (by assumption)) (by simp)) _) | (refine Below.via' ?_ (by assumption)) | (refine Below.alloc ?_ (by first | omega | (simp; done) | (simp; omega) | exact Below.size (by assumption) | exact Nat.le_trans (Below.size (by assumption)) (by simp)) _) | (refine Below.via ?_ (by assumption) (by first | omega | (simp; done) | (simp; omega) | exact Below.size (by assumption) | exact Nat.le_trans (Below.size (by assumption)) (by simp)))))
  have G27 := G26.out.below hb27
  clear W26 G26 H26 hb27 B26
  go_wp2_with fail
  refine (heldRecordS_any _ _ _ T9 _ (by omega) (by omega) (by omega) (by omega) G27.1 G27.inn).mono ?_
  rintro e w28 ⟨rfl, hb28⟩
  go_wp2
  go_ret
  exact ⟨rfl, (by repeat (first | exact Below.refl _ _ | assumption | refine Below.drew ?_ | refine below_drewN ?_ _ | refine Below.alloc' ?_ _ | (refine Below.setCell ?_ (by first | omega | (simp; done) | (simp; omega) | exact Below.size (by assumption) | exact Nat.le_trans (Below.size (by assumption)) (by simp)) _) | (refine Below.via' ?_ (by assumption)) | (refine Below.alloc ?_ (by first | omega | (simp; done) | (simp; omega) | exact Below.size (by assumption) | exact Nat.le_trans (Below.size (by assumption)) (by simp)) _) | (refine Below.via ?_ (by assumption) (by first | omega | (simp; done) | (simp; omega) | exact Below.size (by assumption) | exact Nat.le_trans (Below.size (by assumption)) (by simp)))))⟩

set_option maxRecDepth 100000 in
theorem fnExactGroupData_lifted (os : Os) (started : os.Started) (H : Type) (enc : TypeId × Value → H) :
    ReturnsInHanded {} Try.checked os 7 .any (Rows.fnExactGroupDataSpec.pre6 enc Try.prog Try.f7 Rows.fnExactGroupDataRow.domain false) (Rows.fnExactGroupDataSpec.post enc Try.prog Try.f7 false true false false) := by
  refine returnsInHanded_of_change (C := Try.checked) own started (by kernel_rfl) Try.func7
    (ChangeSpec.witness6 (enc := enc) (C := Try.checked) false ⟨#[], #[.slice none 0 0, .agg #[.int .i64 0, .slice none 0 0], .slice none 0 0], []⟩ 8 (by kernel_rfl) (by kernel_rfl) (by kernel_rfl) (by kernel_rfl)) ?_
  intro W base args ds gs before hval0 hW hcnd _
  have hval : ∀ (j : Nat) t v, Try.f7.params[j]? = some t → args[j]? = some v → Value.okWide Try.prog W .any base t v := hval0
  have hW' := hW
  obtain ⟨p, q, hA0, hV, rfl, hfz, hnd⟩ := hW
  have hA : DataW.TrodAll enc Try.prog W 0 (fun _ => true) true Try.f7.params.toList args.toList ds p := hA0
  rw [Try.params7] at hA hval
  obtain ⟨v0, v1, v2, d0, d1, d2, p0, p1, p2, rfl, rfl, rfl, h0, h1, h2⟩ := trodAll_three hA
  obtain ⟨x, cap, S, rfl, hlen, hn, hS⟩ := open_vars (hval 0 _ v0 rfl rfl) h0
  obtain ⟨v, yg, capg, G, rfl, hlG, hnG, hG⟩ := open_grp (hval 1 _ v1 rfl rfl) h1
  obtain ⟨y, cap2, Q, rfl, hQ, hlQ⟩ := open_recs (hval 2 _ v2 rfl rfl) h2
  refine (fnExactGroupData_any x yg y cap capg cap2 S v G Q W hlen hn hS hlG hnG hG hlQ hQ).mono fun e W' ⟨he, hb⟩ => ?_
  subst he
  obtain ⟨rfl, rfl⟩ := trodVars_none hV
  exact ⟨_, rfl, law_post laidOut (by kernel_rfl) (by kernel_rfl) rfl Try.underlying4 (fun _ _ _ _ => rfl) hW' hb⟩

theorem fnExactGroupData_holds : Rows.FnExactGroupDataSaid :=
  OpenClaim.holds_of_wide 7 Try.f7 rfl rfl rfl rfl rfl rfl rfl ⟨rfl, rfl, rfl, rfl, rfl⟩ rfl rfl rfl rfl rfl (by kernel_rfl) Try.func7 (by kernel_rfl)
    (of_decide_eq_true (by kernel_rfl)) (by unfold Func.isWrapper; first | (rw [if_pos (by decide +kernel)]; kernel_rfl) | (rw [if_neg (by decide +kernel)]; exact ⟨rfl, rfl⟩))
    (fun os started H enc _ => fnExactGroupData_lifted os started H enc)
end Go.Proofs.Ytnmpigedhpdenab
