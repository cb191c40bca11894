/-
  The walks of chapter 5: MeetEdits; the program's and the model's.
-/
import Derived.Test.YtmbchahjgefbpaaEdK
import Derived.Test.YtmbchahjgefbpaaEdW
import Derived.Test.YtmbchahjgefbpaaStp
import Derived.Deep.RegionLaw
namespace Go.Proofs.Ytmbchahjgefbpaa
open Go.RowKit
set_option maxRecDepth 100000

/-- Three boxes: two edits and the answer's. -/
theorem three_box (w : World) (y z : Option Addr) (n m c d : Nat) (t : TypeId) : ∃ W0, ((w.alloc (.cells #[.slice y n c] t)).alloc (.cells #[.slice z m d] t)).alloc (.cells #[.slice none 0 0] t) = W0 ∧
    Hid (QB W0 w.heap.size y n c) ∧ Hid (QB W0 (w.heap.size + 1) z m d) ∧ Hid (QB W0 (w.heap.size + 2) none 0 0) ∧ Below w.heap.size w W0 ∧ Hid (W0.heap.size = w.heap.size + 3) := by
  have b1 : Below w.heap.size w (w.alloc (.cells #[.slice y n c] t)) := (Below.refl _ _).alloc (Nat.le_refl _) _
  have b2 : Below (w.alloc (.cells #[.slice y n c] t)).heap.size (w.alloc (.cells #[.slice y n c] t)) ((w.alloc (.cells #[.slice y n c] t)).alloc (.cells #[.slice z m d] t)) := (Below.refl _ _).alloc (Nat.le_refl _) _
  have b3 : Below ((w.alloc (.cells #[.slice y n c] t)).alloc (.cells #[.slice z m d] t)).heap.size ((w.alloc (.cells #[.slice y n c] t)).alloc (.cells #[.slice z m d] t)) (((w.alloc (.cells #[.slice y n c] t)).alloc (.cells #[.slice z m d] t)).alloc (.cells #[.slice none 0 0] t)) := (Below.refl _ _).alloc (Nat.le_refl _) _
  have q1 := ((QB.new w y n c t).below b2).below b3
  have q2 := (QB.new (w.alloc (.cells #[.slice y n c] t)) z m d t).below b3
  have q3 := QB.new ((w.alloc (.cells #[.slice y n c] t)).alloc (.cells #[.slice z m d] t)) none 0 0 t
  rw [World.size_alloc] at q2
  rw [World.size_alloc, World.size_alloc] at q3
  exact ⟨_, rfl, q1, q2, q3, Below.via' (Below.via' b1 b2) b3, by unfold Hid; simp⟩
/-- An edit that a function hands back. -/
def RetEB (b : Bool) (L : List Int) (w : World) (e : Ending) (w' : World) : Prop := ∃ x n, e = .returned (.tuple #[.agg #[.slice x (eIf b L).length n], .bool b]) ∧ w'.ownsRow w.heap.size 3 1 (.slice x (eIf b L).length n) (eIf b L).length (iC (eIf b L)) ∧ Below w.heap.size w w'
theorem RetEB.no {b : Bool} {L : List Int} {w w' : World} (hb : b = false) (h : Below w.heap.size w w') : RetEB b L w (.returned (.tuple #[.agg #[.slice none 0 0], .bool false])) w' := by
  subst hb
  exact ⟨none, 0, rfl, World.ownsRow_nil _ _ _ _, h⟩
theorem RetEB.yes {b : Bool} {L : List Int} {w w' : World} {x : Option Addr} {n k : Nat} (hb : b = true) (hk : k = L.length) (ho : w'.ownsRow w.heap.size 3 1 (.slice x k n) k (iC L)) (h : Below w.heap.size w w') : RetEB b L w (.returned (.tuple #[.agg #[.slice x k n], .bool true])) w' := by
  subst hb hk
  refine ⟨x, n, ?_, ?_, h⟩
  · rw [eIf_t rfl]
  · rw [eIf_t rfl]; exact ho
/-- Is there an answer? -/
def meR (S : List (ByteArray × Int)) (E F : List Int) : Bool := seeB S E F && meB E F
theorem meR_no1 {S : List (ByteArray × Int)} {E F : List Int} (h : seeB S E F = false) : meR S E F = false := by unfold meR; rw [h]; rfl
theorem meR_no2 {S : List (ByteArray × Int)} {E F : List Int} (h : meB E F = false) : meR S E F = false := by unfold meR; rw [h, Bool.and_false]
theorem meR_yes {S : List (ByteArray × Int)} {E F : List Int} (h : seeB S E F = true) (k : meB E F = true) : meR S E F = true := by unfold meR; rw [h, k]; rfl
theorem meB_all {E F : List Int} {n : Nat} (hl : (meL E F).length ≤ n) (h : ∀ j, j < n → ∃ x y, E[j]? = some x ∧ F[j]? = some y ∧ meI x y ≠ 0) : meB E F = true := by
  unfold meB
  rw [List.all_eq_true]
  intro z hz
  obtain ⟨j, hj, e⟩ := List.getElem_of_mem hz
  obtain ⟨x, y, h1, h2, h3⟩ := h j (by omega)
  have := meL_at h1 h2
  rw [List.getElem?_eq_getElem hj, e] at this
  injection this with this
  rw [this]
  exact decide_eq_true h3
set_option maxHeartbeats 2000000 in
theorem iME_x (x y z : Option Addr) (c1 c2 c3 : Nat) (S : List (ByteArray × Int)) (E F : List Int) (w : World) (hS : SIn w x c1 S) (hE : IIn w y E) (hF : IIn w z F) :
    Calls Try.prog 46 #[.slice x S.length c1, .agg #[.slice y E.length c2], .agg #[.slice z F.length c3]] w (RetEB (meR S E F) (meL E F) w) := by
  obtain ⟨i0, hii, hz0, hz1, hz2⟩ := info_parts Try.infoInt
  have hSh := Lib.hid hS
  have hEh := Lib.hid hE
  have hFh := Lib.hid hF
  have hm := hS.1
  clear hS hE hF
  obtain ⟨W0, hW0, hqE, hqF, hqR, hB2, hW0z⟩ := three_box w y z E.length F.length c2 c3 32
  obtain ⟨ea0, eb0, ec0⟩ := hqE.out
  obtain ⟨fa0, fb0, fc0⟩ := hqF.out
  obtain ⟨ra0, rb0, rc0⟩ := hqR.out
  go_enter Try.func46, Try.ntmps46
  go_wp2_with fail
  refine (isSch_x _ _ _ _ (hSh.out.below hB2)).mono ?_
  rintro e w1 ⟨rfl, hb1⟩
  clear hW0
  have hqE1 := Lib.hid (hqE.out.below hb1)
  obtain ⟨ea1, eb1, ec1⟩ := hqE1.out
  have hqF1 := Lib.hid (hqF.out.below hb1)
  obtain ⟨fa1, fb1, fc1⟩ := hqF1.out
  have hqR1 := Lib.hid (hqR.out.below hb1)
  obtain ⟨ra1, rb1, rc1⟩ := hqR1.out
  have B1 : Below w.heap.size w w1 := hB2.trans (hb1.mono hB2.size)
  clear ea0 eb0 fa0 fb0 ra0 rb0
  cases hs : schB S
  · have hv := Lib.hid (meR_no1 (see_no1 (F := F) (se_no1 (E := E) hs)).1)
    go_wp2
    refine bodyPost_ret (v := .tuple #[.agg #[.slice none 0 0], .bool false]) (by simp [results, Try.results46, go_sem, *]) rfl (RetEB.no hv.out ?_)
    exact (by repeat (first | exact Below.refl _ _ | assumption | refine Below.drew ?_ | refine below_drewN ?_ _ | refine Below.alloc' ?_ _ | (refine Below.setCell ?_ (by first | omega | (simp; done) | (simp; omega) | exact Below.size (by assumption) | exact Nat.le_trans (Below.size (by assumption)) (by simp)) _) | (refine Below.via' ?_ (by assumption)) | (refine Below.alloc ?_ (by first | omega | (simp; done) | (simp; omega) | exact Below.size (by assumption) | exact Nat.le_trans (Below.size (by assumption)) (by simp)) _) | (refine Below.via ?_ (by assumption) (by first | omega | (simp; done) | (simp; omega) | exact Below.size (by assumption) | exact Nat.le_trans (Below.size (by assumption)) (by simp)))))
  have hsh := Lib.hid hs
  clear hs
  go_wp2_with fail
  refine (isEditFor_any _ _ _ _ S E _ hsh.out hm (hSh.out.rd.below (by exact (by repeat (first | exact Below.refl _ _ | assumption | refine Below.drew ?_ | refine below_drewN ?_ _ | refine Below.alloc' ?_ _ | (refine Below.setCell ?_ (by first | omega | (simp; done) | (simp; omega) | exact Below.size (by assumption) | exact Nat.le_trans (Below.size (by assumption)) (by simp)) _) | (refine Below.via' ?_ (by assumption)) | (refine Below.alloc ?_ (by first | omega | (simp; done) | (simp; omega) | exact Below.size (by assumption) | exact Nat.le_trans (Below.size (by assumption)) (by simp)) _) | (refine Below.via ?_ (by assumption) (by first | omega | (simp; done) | (simp; omega) | exact Below.size (by assumption) | exact Nat.le_trans (Below.size (by assumption)) (by simp))))))) (hEh.out.below (by exact (by repeat (first | exact Below.refl _ _ | assumption | refine Below.drew ?_ | refine below_drewN ?_ _ | refine Below.alloc' ?_ _ | (refine Below.setCell ?_ (by first | omega | (simp; done) | (simp; omega) | exact Below.size (by assumption) | exact Nat.le_trans (Below.size (by assumption)) (by simp)) _) | (refine Below.via' ?_ (by assumption)) | (refine Below.alloc ?_ (by first | omega | (simp; done) | (simp; omega) | exact Below.size (by assumption) | exact Nat.le_trans (Below.size (by assumption)) (by simp)) _) | (refine Below.via ?_ (by assumption) (by first | omega | (simp; done) | (simp; omega) | exact Below.size (by assumption) | exact Nat.le_trans (Below.size (by assumption)) (by simp)))))))).mono ?_
  rintro e w2 ⟨rfl, hb2⟩
  have hqE2 := Lib.hid (hqE1.out.below hb2)
  obtain ⟨ea2, eb2, ec2⟩ := hqE2.out
  have hqF2 := Lib.hid (hqF1.out.below hb2)
  obtain ⟨fa2, fb2, fc2⟩ := hqF2.out
  have hqR2 := Lib.hid (hqR1.out.below hb2)
  obtain ⟨ra2, rb2, rc2⟩ := hqR2.out
  clear ea1 eb1 fa1 fb1 ra1 rb1
  cases he : edB S E
  · have hv := Lib.hid (meR_no1 (see_no1 (F := F) (se_no2 (S := S) he)).1)
    go_wp2
    refine bodyPost_ret (v := .tuple #[.agg #[.slice none 0 0], .bool false]) (by simp [results, Try.results46, go_sem, *]) rfl (RetEB.no hv.out ?_)
    exact (by repeat (first | exact Below.refl _ _ | assumption | refine Below.drew ?_ | refine below_drewN ?_ _ | refine Below.alloc' ?_ _ | (refine Below.setCell ?_ (by first | omega | (simp; done) | (simp; omega) | exact Below.size (by assumption) | exact Nat.le_trans (Below.size (by assumption)) (by simp)) _) | (refine Below.via' ?_ (by assumption)) | (refine Below.alloc ?_ (by first | omega | (simp; done) | (simp; omega) | exact Below.size (by assumption) | exact Nat.le_trans (Below.size (by assumption)) (by simp)) _) | (refine Below.via ?_ (by assumption) (by first | omega | (simp; done) | (simp; omega) | exact Below.size (by assumption) | exact Nat.le_trans (Below.size (by assumption)) (by simp)))))
  have heh := Lib.hid he
  clear he
  go_wp2_with fail
  refine (isEditFor_any _ _ _ _ S F _ hsh.out hm (hSh.out.rd.below (by exact (by repeat (first | exact Below.refl _ _ | assumption | refine Below.drew ?_ | refine below_drewN ?_ _ | refine Below.alloc' ?_ _ | (refine Below.setCell ?_ (by first | omega | (simp; done) | (simp; omega) | exact Below.size (by assumption) | exact Nat.le_trans (Below.size (by assumption)) (by simp)) _) | (refine Below.via' ?_ (by assumption)) | (refine Below.alloc ?_ (by first | omega | (simp; done) | (simp; omega) | exact Below.size (by assumption) | exact Nat.le_trans (Below.size (by assumption)) (by simp)) _) | (refine Below.via ?_ (by assumption) (by first | omega | (simp; done) | (simp; omega) | exact Below.size (by assumption) | exact Nat.le_trans (Below.size (by assumption)) (by simp))))))) (hFh.out.below (by exact (by repeat (first | exact Below.refl _ _ | assumption | refine Below.drew ?_ | refine below_drewN ?_ _ | refine Below.alloc' ?_ _ | (refine Below.setCell ?_ (by first | omega | (simp; done) | (simp; omega) | exact Below.size (by assumption) | exact Nat.le_trans (Below.size (by assumption)) (by simp)) _) | (refine Below.via' ?_ (by assumption)) | (refine Below.alloc ?_ (by first | omega | (simp; done) | (simp; omega) | exact Below.size (by assumption) | exact Nat.le_trans (Below.size (by assumption)) (by simp)) _) | (refine Below.via ?_ (by assumption) (by first | omega | (simp; done) | (simp; omega) | exact Below.size (by assumption) | exact Nat.le_trans (Below.size (by assumption)) (by simp)))))))).mono ?_
  rintro e w3 ⟨rfl, hb3⟩
  have hqE3 := Lib.hid (hqE2.out.below hb3)
  obtain ⟨ea3, eb3, ec3⟩ := hqE3.out
  have hqF3 := Lib.hid (hqF2.out.below hb3)
  obtain ⟨fa3, fb3, fc3⟩ := hqF3.out
  have hqR3 := Lib.hid (hqR2.out.below hb3)
  obtain ⟨ra3, rb3, rc3⟩ := hqR3.out
  clear ea2 eb2 fa2 fb2 ra2 rb2
  cases hf : edB S F
  · have hv := Lib.hid (meR_no1 (see_no2 (E := E) hf).1)
    go_wp2
    refine bodyPost_ret (v := .tuple #[.agg #[.slice none 0 0], .bool false]) (by simp [results, Try.results46, go_sem, *]) rfl (RetEB.no hv.out ?_)
    exact (by repeat (first | exact Below.refl _ _ | assumption | refine Below.drew ?_ | refine below_drewN ?_ _ | refine Below.alloc' ?_ _ | (refine Below.setCell ?_ (by first | omega | (simp; done) | (simp; omega) | exact Below.size (by assumption) | exact Nat.le_trans (Below.size (by assumption)) (by simp)) _) | (refine Below.via' ?_ (by assumption)) | (refine Below.alloc ?_ (by first | omega | (simp; done) | (simp; omega) | exact Below.size (by assumption) | exact Nat.le_trans (Below.size (by assumption)) (by simp)) _) | (refine Below.via ?_ (by assumption) (by first | omega | (simp; done) | (simp; omega) | exact Below.size (by assumption) | exact Nat.le_trans (Below.size (by assumption)) (by simp)))))
  have hfh := Lib.hid hf
  clear hf
  have hsee := Lib.hid (see_yes (se_yes hsh.out heh.out) hfh.out).1
  have hlS := Lib.hid (ed_len heh.out)
  have hlF := Lib.hid (ed_len hfh.out)
  have hl6 := (schB_len hsh.out).2
  have B3 : Below w.heap.size w w3 := (by repeat (first | exact Below.refl _ _ | assumption | refine Below.drew ?_ | refine below_drewN ?_ _ | refine Below.alloc' ?_ _ | (refine Below.setCell ?_ (by first | omega | (simp; done) | (simp; omega) | exact Below.size (by assumption) | exact Nat.le_trans (Below.size (by assumption)) (by simp)) _) | (refine Below.via' ?_ (by assumption)) | (refine Below.alloc ?_ (by first | omega | (simp; done) | (simp; omega) | exact Below.size (by assumption) | exact Nat.le_trans (Below.size (by assumption)) (by simp)) _) | (refine Below.via ?_ (by assumption) (by first | omega | (simp; done) | (simp; omega) | exact Below.size (by assumption) | exact Nat.le_trans (Below.size (by assumption)) (by simp)))))
  have hs3 : w.heap.size + 2 < w3.heap.size := rc3
  have hbb : i0.bytes * S.length ≤ 281474976710656 := by rw [hz2]; omega
  have hmm : S.length ≤ maxLen := by unfold maxLen; omega
  go_wp2_with (at_make; go_loud (refine wpList_make_full _ rfl _ _ 23 rfl w3.heap.size 3 i0 (.int .i64 0) 1 Try.underlying23 hii hz0 hz1 .i64 .i64 _ _ S.length rfl rfl rfl rfl hbb hmm (Nat.le_refl _) (fun w4 hown hgrow => ?_)))
  have hb4 : Below w3.heap.size w3 w4 := (Below.refl _ _).grown hgrow (Nat.le_refl _) (by intro k hk; cases hk)
  clear hgrow hii hz0 hz1 hz2 hbb hmm
  have hqE4 := Lib.hid (hqE3.out.below hb4)
  obtain ⟨ea4, eb4, ec4⟩ := hqE4.out
  have hqF4 := Lib.hid (hqF3.out.below hb4)
  obtain ⟨fa4, fb4, fc4⟩ := hqF4.out
  have hqR4 := Lib.hid (hqR3.out.below hb4)
  obtain ⟨ra4, rb4, rc4⟩ := hqR4.out
  clear ea3 eb3 fa3 fb3 ra3 rb3 ea4 eb4 fa4 fb4 ra4 rb4
  have B4 : Below w.heap.size w w4 := (by repeat (first | exact Below.refl _ _ | assumption | refine Below.drew ?_ | refine below_drewN ?_ _ | refine Below.alloc' ?_ _ | (refine Below.setCell ?_ (by first | omega | (simp; done) | (simp; omega) | exact Below.size (by assumption) | exact Nat.le_trans (Below.size (by assumption)) (by simp)) _) | (refine Below.via' ?_ (by assumption)) | (refine Below.alloc ?_ (by first | omega | (simp; done) | (simp; omega) | exact Below.size (by assumption) | exact Nat.le_trans (Below.size (by assumption)) (by simp)) _) | (refine Below.via ?_ (by assumption) (by first | omega | (simp; done) | (simp; omega) | exact Below.size (by assumption) | exact Nat.le_trans (Below.size (by assumption)) (by simp)))))
  go_loopw [31] (fun c wr => ∃ (i : Nat) (xs : List Value), i ≤ S.length ∧ c = .int .i64 i ∧ wr.ownsRow w3.heap.size 3 1 (.slice (some ⟨w3.heap.size, 0, none⟩) S.length S.length) S.length xs ∧ Hid (∀ j, j < i → xs[j]? = (iC (meL E F))[j]?) ∧ Hid (∀ j, j < i → ∃ x y, E[j]? = some x ∧ F[j]? = some y ∧ meI x y ≠ 0) ∧ QB wr w.heap.size y E.length c2 ∧ QB wr (w.heap.size + 1) z F.length c3 ∧ QB wr (w.heap.size + 2) none 0 0 ∧ Below w.heap.size w wr) (fun c _ => S.length - (intOf c).toNat)
  case atStart => exact ⟨0, _, by omega, rfl, hown, (fun j hj => absurd hj (by omega)), (fun j hj => absurd hj (by omega)), hqE4.out, hqF4.out, hqR4.out, B4⟩
  case round =>
    clear hown B4 hb4
    obtain ⟨i, xs, hi, rfl, hown, hdone, hall, hqa, hqb, hqc, hBr⟩ := hrel
    have hownh := Lib.hid hown
    have hqah := Lib.hid hqa
    have hqbh := Lib.hid hqb
    have hqch := Lib.hid hqc
    by_cases hlt : i < S.length
    · obtain ⟨a, b, hEi, hFi, x0, x1, y0, y1⟩ := see_at hsh.out heh.out hfh.out hlt
      obtain ⟨bl, off, x', rfl, hbl, hEi2, hc0⟩ := (hEh.out.below hBr).2.2.int (i := i) (by have := hlS.out; omega)
      obtain ⟨bl2, off2, u', rfl, hbl2, hFi2, hc1⟩ := (hFh.out.below hBr).2.2.int (i := i) (by have := hlF.out; omega)
      obtain rfl := Option.some.inj (hEi2.symm.trans hEi)
      obtain rfl := Option.some.inj (hFi2.symm.trans hFi)
      clear hEi2 hFi2
      obtain ⟨ka, kb, kc⟩ := hqa
      obtain ⟨la, lb, lc⟩ := hqb
      obtain ⟨ma, mb, mc⟩ := hqc
      obtain ⟨u0, hu0, k0⟩ := own_cell hown (j := i) (by omega)
      have k2 := hown.frozenAt i
      have k4 := (own_lt hown).2
      have hst := Lib.hid (hown.stored i (.int .i64 (meI x' u')))
      have g1 := Lib.hid (hqah.out.grown hst.out.2 (fun e => by injection e with e; omega))
      have g2 := Lib.hid (hqbh.out.grown hst.out.2 (fun e => by injection e with e; omega))
      have g3 := Lib.hid (hqch.out.grown hst.out.2 (fun e => by injection e with e; omega))
      have hme := and_me (x := x') (y := u') (by omega) x1 (by omega) y1
      have hxl := Lib.hid (show xs.length = S.length by rw [hown.1]; omega)
      have hlt' : (i : Int) < (S.length : Int) := by omega
      have hlt2 : (i : Int) < (E.length : Int) := by have := hlS.out; omega
      have hlt3 : (i : Int) < (F.length : Int) := by have := hlF.out; omega
      have hi0 : (0 : Int) ≤ (i : Int) := by omega
      have hne1 : w3.heap.size ≠ w.heap.size + 2 := by omega
      replace hu0 := Lib.hid hu0
      clear hown
      by_cases hz : meI x' u' = 0
      · have hv := Lib.hid (meR_no2 (S := S) (meB_bad hEi hFi hz))
        have hzz : (meI x' u' == 0) = true := by rw [beq_iff_eq]; exact hz
        replace hz := Lib.hid hz
        replace hEi := Lib.hid hEi
        replace hFi := Lib.hid hFi
        go_wp2
        go_region
        all_goals
          go_wp2
          refine bodyPost_ret (v := .tuple #[.agg #[.slice none 0 0], .bool false]) (by simp [results, Try.results46, go_sem, *]) rfl (RetEB.no hv.out ?_)
          exact (by repeat (first | exact Below.refl _ _ | assumption | refine Below.drew ?_ | refine below_drewN ?_ _ | refine Below.alloc' ?_ _ | (refine Below.setCell ?_ (by first | omega | (simp; done) | (simp; omega) | exact Below.size (by assumption) | exact Nat.le_trans (Below.size (by assumption)) (by simp)) _) | (refine Below.via' ?_ (by assumption)) | (refine Below.alloc ?_ (by first | omega | (simp; done) | (simp; omega) | exact Below.size (by assumption) | exact Nat.le_trans (Below.size (by assumption)) (by simp)) _) | (refine Below.via ?_ (by assumption) (by first | omega | (simp; done) | (simp; omega) | exact Below.size (by assumption) | exact Nat.le_trans (Below.size (by assumption)) (by simp)))))
      · have hzz : (meI x' u' == 0) = false := by rw [beq_eq_false_iff_ne]; exact hz
        have hzh := Lib.hid hz
        replace hEi := Lib.hid hEi
        replace hFi := Lib.hid hFi
        clear hz
        go_wp2
        go_region
        all_goals
          go_wp2
          go_roundw
          case rel =>
            refine ⟨i + 1, _, by omega, by go_num, hst.out.1, fun j hj => ?_, fun j hj => ?_, g1.out, g2.out, g3.out, (by repeat (first | exact Below.refl _ _ | assumption | refine Below.drew ?_ | refine below_drewN ?_ _ | refine Below.alloc' ?_ _ | (refine Below.setCell ?_ (by first | omega | (simp; done) | (simp; omega) | exact Below.size (by assumption) | exact Nat.le_trans (Below.size (by assumption)) (by simp)) _) | (refine Below.via' ?_ (by assumption)) | (refine Below.alloc ?_ (by first | omega | (simp; done) | (simp; omega) | exact Below.size (by assumption) | exact Nat.le_trans (Below.size (by assumption)) (by simp)) _) | (refine Below.via ?_ (by assumption) (by first | omega | (simp; done) | (simp; omega) | exact Below.size (by assumption) | exact Nat.le_trans (Below.size (by assumption)) (by simp)))))⟩
            · rw [List.getElem?_set]
              split
              · subst_vars
                rw [if_pos (by rw [hxl.out]; omega), iC_at (meL_at hEi.out hFi.out)]
              · exact hdone.out j (by omega)
            · rcases Nat.lt_or_ge j i with hj2 | hj2
              · exact hall.out j hj2
              · obtain rfl : j = i := by omega
                exact ⟨_, _, hEi.out, hFi.out, hzh.out⟩
          case measure => simp [intOf]; omega
    · have hij : i = S.length := by omega
      subst hij
      obtain ⟨ma, mb, mc⟩ := hqc
      have hml := Lib.hid (show (meL E F).length = S.length by rw [meL_len (by rw [hlS.out, hlF.out]), hlS.out])
      have hv := Lib.hid (meR_yes hsee.out (meB_all (n := S.length) (by rw [hml.out]; omega) hall.out))
      have hxs : Hid (xs = iC (meL E F)) := by
        have hlen : xs.length = S.length := by rw [hown.1]; omega
        apply List.ext_getElem?
        intro j
        rcases Nat.lt_or_ge j S.length with hj | hj
        · exact hdone.out j hj
        · rw [List.getElem?_eq_none (by omega), List.getElem?_eq_none (by rw [iC_len, hml.out]; omega)]
      have hne1 : w3.heap.size ≠ w.heap.size + 2 := by omega
      clear hdone hall hown hqa hqb
      go_wp2
      refine bodyPost_ret (v := .tuple #[.agg #[.slice (some ⟨w3.heap.size, 0, none⟩) S.length S.length], .bool true]) (by simp [results, Try.results46, go_sem, *]) rfl (RetEB.yes hv.out hml.out.symm ?_ ?_)
      · have h0 := hownh.out
        rw [hxs.out] at h0
        refine own_more (base := w3.heap.size) ?_ (by omega)
        repeat (refine ownsRow_setCell_below ?_ (by simp; try omega) _)
        exact h0
      · exact (by repeat (first | exact Below.refl _ _ | assumption | refine Below.drew ?_ | refine below_drewN ?_ _ | refine Below.alloc' ?_ _ | (refine Below.setCell ?_ (by first | omega | (simp; done) | (simp; omega) | exact Below.size (by assumption) | exact Nat.le_trans (Below.size (by assumption)) (by simp)) _) | (refine Below.via' ?_ (by assumption)) | (refine Below.alloc ?_ (by first | omega | (simp; done) | (simp; omega) | exact Below.size (by assumption) | exact Nat.le_trans (Below.size (by assumption)) (by simp)) _) | (refine Below.via ?_ (by assumption) (by first | omega | (simp; done) | (simp; omega) | exact Below.size (by assumption) | exact Nat.le_trans (Below.size (by assumption)) (by simp)))))

theorem grownBy_setCellE (W : World) (b o : Nat) (v : Value) : W.grownBy (W.setCell ⟨b, o, none⟩ v) (some b) :=
  ⟨rfl, rfl, rfl, by simp [World.setCell], fun k _ hne => Below.heap_setCell _ _ _ _ (fun e => hne (by rw [e]))⟩
theorem grown_drewE {w w1 : World} {r : Option Nat} (h : w.grownBy w1 r) : w.grownBy w1.drew r := ⟨h.os, h.tape, h.output, h.size, h.block⟩
theorem Wb.grownE {w w' : World} {g : Nat} {t : TypeId} {cs : Array Value} {r : Option Nat} (h : Wb w g t cs) (hg : w.grownBy w' r) (hne : r ≠ some g) : Wb w' g t cs := (hg.block g h.inside (fun e => hne e.symm)).trans h
set_option maxHeartbeats 2000000 in
theorem sME_x (x y z : Option Addr) (c1 c2 c3 : Nat) (S : List (ByteArray × Int)) (E F : List Int) (w : World) (hS : SIn w x c1 S) (hE : IIn w y E) (hF : IIn w z F) :
    Calls Try.prog 45 #[.slice x S.length c1, .agg #[.slice y E.length c2], .agg #[.slice z F.length c3]] w (RetEB (meR S E F) (meL E F) w) := by
  obtain ⟨i0, hii, hz0, hz1, hz2⟩ := info_parts Try.infoInt
  have hSh := Lib.hid hS
  have hEh := Lib.hid hE
  have hFh := Lib.hid hF
  have hm := hS.1
  clear hS hE hF
  obtain ⟨W0, hW0, hqE, hqF, hqR, hB2, hW0z⟩ := three_box w y z E.length F.length c2 c3 32
  obtain ⟨ea0, eb0, ec0⟩ := hqE.out
  obtain ⟨fa0, fb0, fc0⟩ := hqF.out
  obtain ⟨ra0, rb0, rc0⟩ := hqR.out
  have hL : Hid (EIn (W0.alloc (.cells #[.slice y E.length c2, .slice z F.length c3] 32)) (some ⟨W0.heap.size, 0, none⟩) [⟨0, 0, y, c2, E⟩, ⟨0, 0, z, c3, F⟩]) := eIn_two (c := c2) (d := c3) 32 (hEh.out.below hB2) (hFh.out.below hB2)
  have hel := Lib.hid ((el_two S E F).trans (show (seB S E && edB S F) = seeB S E F from rfl))
  have hbL : Below W0.heap.size W0 (W0.alloc (.cells #[.slice y E.length c2, .slice z F.length c3] 32)) := (by repeat (first | exact Below.refl _ _ | assumption | refine Below.drew ?_ | refine below_drewN ?_ _ | refine Below.alloc' ?_ _ | (refine Below.setCell ?_ (by first | omega | (simp; done) | (simp; omega) | exact Below.size (by assumption) | exact Nat.le_trans (Below.size (by assumption)) (by simp)) _) | (refine Below.via' ?_ (by assumption)) | (refine Below.alloc ?_ (by first | omega | (simp; done) | (simp; omega) | exact Below.size (by assumption) | exact Nat.le_trans (Below.size (by assumption)) (by simp)) _) | (refine Below.via ?_ (by assumption) (by first | omega | (simp; done) | (simp; omega) | exact Below.size (by assumption) | exact Nat.le_trans (Below.size (by assumption)) (by simp)))))
  have hSW := Lib.hid (hSh.out.below (hB2.trans (hbL.mono hB2.size)))
  go_enter Try.func45, Try.ntmps45
  go_wp2_with fail
  refine (eList_any _ _ _ _ S [⟨0, 0, y, c2, E⟩, ⟨0, 0, z, c3, F⟩] _ hSW.out hL.out).mono ?_
  rintro e w1 ⟨rfl, hb1⟩
  have hqE1 := Lib.hid ((hqE.out.below hbL).below hb1)
  obtain ⟨ea1, eb1, ec1⟩ := hqE1.out
  have hqF1 := Lib.hid ((hqF.out.below hbL).below hb1)
  obtain ⟨fa1, fb1, fc1⟩ := hqF1.out
  have hqR1 := Lib.hid ((hqR.out.below hbL).below hb1)
  obtain ⟨ra1, rb1, rc1⟩ := hqR1.out
  have B1 : Below w.heap.size w w1 := (hB2.trans (hbL.mono hB2.size)).trans (hb1.mono (by have := hB2.size; simp; omega))
  clear hW0 ea0 eb0 fa0 fb0 ra0 rb0 hb1
  rw [show eM [⟨0, 0, y, c2, E⟩, ⟨0, 0, z, c3, F⟩] = [E, F] from rfl, hel.out]
  cases hs : seeB S E F
  · have hv := Lib.hid (meR_no1 hs)
    have hs := Lib.hid hs
    go_wp2
    refine bodyPost_ret (v := .tuple #[.agg #[.slice none 0 0], .bool false]) (by simp [results, Try.results45, go_sem, *]) rfl (RetEB.no hv.out ?_)
    exact (by repeat (first | exact Below.refl _ _ | assumption | refine Below.drew ?_ | refine below_drewN ?_ _ | refine Below.alloc' ?_ _ | (refine Below.setCell ?_ (by first | omega | (simp; done) | (simp; omega) | exact Below.size (by assumption) | exact Nat.le_trans (Below.size (by assumption)) (by simp)) _) | (refine Below.via' ?_ (by assumption)) | (refine Below.alloc ?_ (by first | omega | (simp; done) | (simp; omega) | exact Below.size (by assumption) | exact Nat.le_trans (Below.size (by assumption)) (by simp)) _) | (refine Below.via ?_ (by assumption) (by first | omega | (simp; done) | (simp; omega) | exact Below.size (by assumption) | exact Nat.le_trans (Below.size (by assumption)) (by simp)))))
  obtain ⟨g1, g2, g3⟩ := see_get hs
  have hsee := Lib.hid hs
  have hsh := Lib.hid g1
  have heh := Lib.hid g2
  have hfh := Lib.hid g3
  have hlS := Lib.hid (ed_len g2)
  have hlF := Lib.hid (ed_len g3)
  have hE6 : E.length ≤ 6 := by have := (schB_len g1).2; have := hlS.out; omega
  have hml := Lib.hid (show (meL E F).length = E.length by rw [meL_len (by rw [hlS.out, hlF.out])])
  clear hs g1 g2 g3
  have hV0 := Lib.hid (Wb.new w1 32 #[.slice none 0 0])
  have hs1 : w.heap.size + 2 < w1.heap.size := rc1
  go_wp2
  clear ea1 eb1 fa1 fb1 ra1 rb1
  go_loopw [22] (fun c wr => ∃ (i : Nat) (u : Value) (L : List Int), i ≤ E.length ∧ c = .int .i64 i ∧ Hid (L = (meL E F).take i) ∧ wr.ownsRow (w1.heap.size + 1) 3 1 u L.length (iC L) ∧ Wb wr w1.heap.size 32 #[u] ∧ QB wr w.heap.size y E.length c2 ∧ QB wr (w.heap.size + 1) z F.length c3 ∧ QB wr (w.heap.size + 2) none 0 0 ∧ Below w.heap.size w wr) (fun c _ => E.length - (intOf c).toNat)
  case atStart => exact ⟨0, _, [], by omega, rfl, rfl, World.ownsRow_nil _ _ _ _, hV0.out, hqE1.out.below (by repeat (first | exact Below.refl _ _ | assumption | refine Below.drew ?_ | refine below_drewN ?_ _ | refine Below.alloc' ?_ _ | (refine Below.setCell ?_ (by first | omega | (simp; done) | (simp; omega) | exact Below.size (by assumption) | exact Nat.le_trans (Below.size (by assumption)) (by simp)) _) | (refine Below.via' ?_ (by assumption)) | (refine Below.alloc ?_ (by first | omega | (simp; done) | (simp; omega) | exact Below.size (by assumption) | exact Nat.le_trans (Below.size (by assumption)) (by simp)) _) | (refine Below.via ?_ (by assumption) (by first | omega | (simp; done) | (simp; omega) | exact Below.size (by assumption) | exact Nat.le_trans (Below.size (by assumption)) (by simp))))), hqF1.out.below (by repeat (first | exact Below.refl _ _ | assumption | refine Below.drew ?_ | refine below_drewN ?_ _ | refine Below.alloc' ?_ _ | (refine Below.setCell ?_ (by first | omega | (simp; done) | (simp; omega) | exact Below.size (by assumption) | exact Nat.le_trans (Below.size (by assumption)) (by simp)) _) | (refine Below.via' ?_ (by assumption)) | (refine Below.alloc ?_ (by first | omega | (simp; done) | (simp; omega) | exact Below.size (by assumption) | exact Nat.le_trans (Below.size (by assumption)) (by simp)) _) | (refine Below.via ?_ (by assumption) (by first | omega | (simp; done) | (simp; omega) | exact Below.size (by assumption) | exact Nat.le_trans (Below.size (by assumption)) (by simp))))), hqR1.out.below (by repeat (first | exact Below.refl _ _ | assumption | refine Below.drew ?_ | refine below_drewN ?_ _ | refine Below.alloc' ?_ _ | (refine Below.setCell ?_ (by first | omega | (simp; done) | (simp; omega) | exact Below.size (by assumption) | exact Nat.le_trans (Below.size (by assumption)) (by simp)) _) | (refine Below.via' ?_ (by assumption)) | (refine Below.alloc ?_ (by first | omega | (simp; done) | (simp; omega) | exact Below.size (by assumption) | exact Nat.le_trans (Below.size (by assumption)) (by simp)) _) | (refine Below.via ?_ (by assumption) (by first | omega | (simp; done) | (simp; omega) | exact Below.size (by assumption) | exact Nat.le_trans (Below.size (by assumption)) (by simp))))), (by repeat (first | exact Below.refl _ _ | assumption | refine Below.drew ?_ | refine below_drewN ?_ _ | refine Below.alloc' ?_ _ | (refine Below.setCell ?_ (by first | omega | (simp; done) | (simp; omega) | exact Below.size (by assumption) | exact Nat.le_trans (Below.size (by assumption)) (by simp)) _) | (refine Below.via' ?_ (by assumption)) | (refine Below.alloc ?_ (by first | omega | (simp; done) | (simp; omega) | exact Below.size (by assumption) | exact Nat.le_trans (Below.size (by assumption)) (by simp)) _) | (refine Below.via ?_ (by assumption) (by first | omega | (simp; done) | (simp; omega) | exact Below.size (by assumption) | exact Nat.le_trans (Below.size (by assumption)) (by simp)))))⟩
  case round =>
    clear hV0
    obtain ⟨i, u, L, hi, rfl, hLi, hown, hV, hqa, hqb, hqc, hBr⟩ := hrel
    have hownh := Lib.hid hown
    have hVh := Lib.hid hV
    have hqah := Lib.hid hqa
    have hqbh := Lib.hid hqb
    have hqch := Lib.hid hqc
    have hin := hV.inside
    obtain ⟨xu, cu, rfl, -, -⟩ := (OwR.of hown).form
    have hlow := Lib.hid hown.lt
    have hlt6 : L.length ≤ i := by rw [hLi.out, List.length_take]; omega
    clear hown hV
    by_cases hlt : i < E.length
    · obtain ⟨a, b, hEi, hFi, x0, x1, y0, y1⟩ := see_at hsh.out heh.out hfh.out (i := i) (by have := hlS.out; omega)
      obtain ⟨bl, off, x', rfl, hbl, hEi2, hc0⟩ := (hEh.out.below hBr).2.2.int (i := i) hlt
      obtain ⟨bl2, off2, u', rfl, hbl2, hFi2, hc1⟩ := (hFh.out.below hBr).2.2.int (i := i) (by have := hlF.out; have := hlS.out; omega)
      obtain rfl := Option.some.inj (hEi2.symm.trans hEi)
      obtain rfl := Option.some.inj (hFi2.symm.trans hFi)
      clear hEi2 hFi2
      obtain ⟨ka, kb, kc⟩ := hqa
      obtain ⟨la, lb, lc⟩ := hqb
      obtain ⟨ma, mb, mc⟩ := hqc
      have v0 := hVh.out.read 0
      have vf := hVh.out.free 0
      have hme := and_me (x := x') (y := u') (by omega) x1 (by omega) y1
      have hst := Lib.hid (show L ++ [meI x' u'] = (meL E F).take (i + 1) by rw [hLi.out]; exact (take_snoc (meL_at hEi hFi)).symm)
      have hlt2 : (i : Int) < (E.length : Int) := by omega
      have hlt3 : (i : Int) < (F.length : Int) := by have := hlF.out; have := hlS.out; omega
      have hi0 : (0 : Int) ≤ (i : Int) := by omega
      replace hEi := Lib.hid hEi
      replace hFi := Lib.hid hFi
      go_wp2
      go_region_law (first
        | (go_loud (refine step_append_rd _ rfl (.tmp 28) (.tmp 36) 23 rfl (w1.heap.size + 1) 3 i0 (.int .i64 0) 1 8 Try.underlying23 hii hz0 hz1 hz2 rfl (by decide) _ L.length (iC L) rfl ((hownh.out.alloc _).drew) _ 1 1 rfl (Nat.le_refl _) (by intro h; cases h) (iC [meI x' u']) rfl (rd_oneE _ _ _ _ (by simp)) (iC_one _) (by unfold maxLen; omega) (by omega) (by simp; omega) ?_); intro v5 w5 hown5 hgrow5 hwhere5; (obtain ⟨z5, c5, rfl, -, -⟩ := (OwR.of hown5).form); (have hgr : (wr.alloc (.cells #[.int .i64 (meI x' u')] 3)).drew.grownBy w5 (Value.ownBlock (.slice xu L.length cu)) := hgrow5); (have hg5 : wr.grownBy w5 (Value.ownBlock (.slice xu L.length cu)) := (show wr.grownBy (wr.alloc (.cells #[.int .i64 (meI x' u')] 3)).drew _ from grown_drewE (World.grownBy_alloc wr _ _)).trans hgr); (have V5 := Lib.hid (hVh.out.grownE hg5 (fun e => by have := (hlow.out _ e).1; omega))); (have c50 := V5.out.read 0); (have f50 := V5.out.free 0)))
      all_goals
        have A5 := Lib.hid (hqah.out.grown hg5 (fun e => by have := (hlow.out _ e.symm).1; omega))
        have D5 := Lib.hid (hqbh.out.grown hg5 (fun e => by have := (hlow.out _ e.symm).1; omega))
        have R5 := Lib.hid (hqch.out.grown hg5 (fun e => by have := (hlow.out _ e.symm).1; omega))
        have hB5 : Below w.heap.size w w5 := hBr.grown hg5 hBr.size (fun k hk => by have := (hlow.out k hk).1; omega)
        have hown6 := Lib.hid (own_eq (n' := (L ++ [meI x' u']).length) hown5 (by simp) (iC_appE _ _).symm)
        have hin5 := V5.out.inside
        clear hgrow5 hwhere5 hgr ka kb la lb ma mb v0 vf hown5
        go_wp2
        go_roundw
        case rel => exact ⟨i + 1, _, L ++ [meI x' u'], by omega, by go_num, hst.out, ownsRow_setCell_below hown6.out (by simp) _, V5.out.put 0 _, (A5.out.grown (grownBy_setCellE _ _ _ _) (by intro e; injection e with e; omega)), (D5.out.grown (grownBy_setCellE _ _ _ _) (by intro e; injection e with e; omega)), (R5.out.grown (grownBy_setCellE _ _ _ _) (by intro e; injection e with e; omega)), (by repeat (first | exact Below.refl _ _ | assumption | refine Below.drew ?_ | refine below_drewN ?_ _ | refine Below.alloc' ?_ _ | (refine Below.setCell ?_ (by first | omega | (simp; done) | (simp; omega) | exact Below.size (by assumption) | exact Nat.le_trans (Below.size (by assumption)) (by simp)) _) | (refine Below.via' ?_ (by assumption)) | (refine Below.alloc ?_ (by first | omega | (simp; done) | (simp; omega) | exact Below.size (by assumption) | exact Nat.le_trans (Below.size (by assumption)) (by simp)) _) | (refine Below.via ?_ (by assumption) (by first | omega | (simp; done) | (simp; omega) | exact Below.size (by assumption) | exact Nat.le_trans (Below.size (by assumption)) (by simp)))))⟩
        case measure => simp [intOf]; omega
    · have hij : i = E.length := by omega
      subst hij
      obtain ⟨ma, mb, mc⟩ := hqc
      have v0 := hVh.out.read 0
      obtain rfl : L = meL E F := by rw [hLi.out, ← hml.out, List.take_length]
      have hw2 := hownh
      have hIn := Lib.hid (show IIn wr xu (meL E F) from ⟨by rw [hml.out]; omega, fun n hn => by
        obtain ⟨j, hj, e⟩ := List.getElem_of_mem hn
        have hj2 : j < E.length := by have := hml.out; omega
        obtain ⟨a, b, hEi, hFi, x0, x1, y0, y1⟩ := see_at hsh.out heh.out hfh.out (i := j) (by have := hlS.out; omega)
        have h0 := meL_at hEi hFi
        rw [List.getElem?_eq_getElem hj, e] at h0
        injection h0 with h0
        have := me_bd (x := a) (y := b) (by omega)
        rw [h0]
        unfold IsI64
        omega, Rd.of_own hw2.out⟩)
      have hme := Lib.hid (me_ed hsh.out heh.out hfh.out)
      clear hqa hqb
      go_wp2_with fail
      refine (eGood_any _ _ _ _ S (meL E F) _ hsh.out hm (hSh.out.rd.below hBr) hIn.out).mono ?_
      rintro e w8 ⟨rfl, hb8⟩
      rw [hme.out]
      have hV8 := hVh.out
      have hq8 := Lib.hid (hqch.out.below hb8)
      obtain ⟨na, nb, nc⟩ := hq8.out
      have B8 : Below w.heap.size w w8 := hBr.trans (hb8.mono hBr.size)
      have v8 := (hb8.cell (p := ⟨w1.heap.size, 0, none⟩) hin).trans v0
      have ho8 := Lib.hid (own_below hw2.out hb8)
      have hzl := Lib.hid hml.out
      clear ma mb v0 hV8
      cases hb : meB E F
      · have hv := Lib.hid (meR_no2 (S := S) hb)
        go_wp2
        refine bodyPost_ret (v := .tuple #[.agg #[.slice none 0 0], .bool false]) (by simp [results, Try.results45, go_sem, *]) rfl (RetEB.no hv.out ?_)
        exact (by repeat (first | exact Below.refl _ _ | assumption | refine Below.drew ?_ | refine below_drewN ?_ _ | refine Below.alloc' ?_ _ | (refine Below.setCell ?_ (by first | omega | (simp; done) | (simp; omega) | exact Below.size (by assumption) | exact Nat.le_trans (Below.size (by assumption)) (by simp)) _) | (refine Below.via' ?_ (by assumption)) | (refine Below.alloc ?_ (by first | omega | (simp; done) | (simp; omega) | exact Below.size (by assumption) | exact Nat.le_trans (Below.size (by assumption)) (by simp)) _) | (refine Below.via ?_ (by assumption) (by first | omega | (simp; done) | (simp; omega) | exact Below.size (by assumption) | exact Nat.le_trans (Below.size (by assumption)) (by simp)))))
      · have hv := Lib.hid (meR_yes hsee.out hb)
        go_wp2
        refine bodyPost_ret (v := .tuple #[.agg #[.slice xu (meL E F).length cu], .bool true]) (by simp [results, Try.results45, go_sem, *]) rfl (RetEB.yes hv.out rfl ?_ ?_)
        · refine own_more (base := w1.heap.size + 1) ?_ (by omega)
          repeat (refine ownsRow_setCell_below ?_ (by simp; try omega) _)
          exact ho8.out
        · exact (by repeat (first | exact Below.refl _ _ | assumption | refine Below.drew ?_ | refine below_drewN ?_ _ | refine Below.alloc' ?_ _ | (refine Below.setCell ?_ (by first | omega | (simp; done) | (simp; omega) | exact Below.size (by assumption) | exact Nat.le_trans (Below.size (by assumption)) (by simp)) _) | (refine Below.via' ?_ (by assumption)) | (refine Below.alloc ?_ (by first | omega | (simp; done) | (simp; omega) | exact Below.size (by assumption) | exact Nat.le_trans (Below.size (by assumption)) (by simp)) _) | (refine Below.via ?_ (by assumption) (by first | omega | (simp; done) | (simp; omega) | exact Below.size (by assumption) | exact Nat.le_trans (Below.size (by assumption)) (by simp)))))

/-- An edit that lies in a box of its own, with its row. -/
def EdAt (s : Value) (L : List Int) (lo : Nat) (wx : World) : Prop :=
  ∃ g x c, s = .pointer (some ⟨g, 0, none⟩) ∧ QB wx g x L.length c ∧ lo ≤ g ∧ OwR wx lo wx.heap.size 3 1 (.slice x L.length c) L.length (iC L)
theorem drew_sizeE (w : World) : w.drew.heap.size = w.heap.size := rfl
theorem ed_zero (w : World) : (w.alloc (.cells #[.slice none 0 0] 32)).cell? ⟨w.heap.size, 0, none⟩ = some (.slice none 0 0) ∧ (w.alloc (.cells #[.slice none 0 0] 32)).frozen? ⟨w.heap.size, 0, none⟩ = false := by
  have k := Wb.new w 32 #[.slice none 0 0]
  exact ⟨(k.read 0).trans rfl, k.free 0⟩
theorem own_boxE {w : World} {lo hi e n g : Nat} {v u : Value} {xs : List Value} (h : OwR w lo hi e 1 v n xs) (hne : ∀ k, v.ownBlock = some k → k ≠ g) : OwR (w.setCell ⟨g, 0, none⟩ u) lo hi e 1 v n xs := by
  have hk : v.ownBlock = none ∨ v.ownBlock ≠ some g := by
    cases hv : v.ownBlock with
    | none => exact Or.inl rfl
    | some k => exact Or.inr (fun e => by injection e with e; exact hne k hv e)
  exact ⟨h.1.kept (grownBy_setCellE w g 0 u) hk, h.2⟩
end Go.Proofs.Ytmbchahjgefbpaa
