import Derived.Test.YtgkaalonmkcclaaPQjG
namespace Go.Proofs.Ytgkaalonmkcclaa
open Go.RowKit
set_option maxRecDepth 100000

set_option maxHeartbeats 16000000 in
theorem nSame_any (y x z a b : Option Addr) (c1 c d c4 d4 : Nat) (S : List (ByteArray × Int)) (l : Int) (F W : List Int) (m k : Int) (G U : List Int) (n : Int) (w : World) (hs : schB S = true) (hl : W.length = S.length) (hl2 : U.length = S.length) (hS : SIn w y c1 S) (hmF : F.length ≤ 1048576) (hcF : F.length ≤ c) (hnF : x = none → c = 0) (hcW : W.length ≤ d) (hnW : z = none → d = 0) (hF : Rd w x (iC F)) (hW : Rd w z (iC W)) (hmG : G.length ≤ 1048576) (hcG : G.length ≤ c4) (hnG : a = none → c4 = 0) (hcU : U.length ≤ d4) (hnU : b = none → d4 = 0) (hG : Rd w a (iC G)) (hU : Rd w b (iC U)) :
    Calls Try.prog 97 #[.slice y S.length c1, .agg #[.int .i64 l, .slice x F.length c, .slice z W.length d, .int .i64 m], .agg #[.int .i64 k, .slice a G.length c4, .slice b U.length d4, .int .i64 n]] w fun e w' => e = .returned (.bool (smT S l F W m k G U n)) ∧ Below w.heap.size w w' := by
  have hSh := Lib.hid hS
  have hFh := Lib.hid hF
  have hWh := Lib.hid hW
  have hGh := Lib.hid hG
  have hUh := Lib.hid hU
  have hsh := Lib.hid hs
  have hlh := Lib.hid hl
  have hl2h := Lib.hid hl2
  have h6 := (schB_len hs).2
  have hF1 := Lib.hid (And.intro hcF hnF)
  have hW1 := Lib.hid (And.intro hcW hnW)
  have hG1 := Lib.hid (And.intro hcG hnG)
  have hU1 := Lib.hid (And.intro hcU hnU)
  clear hF hW hS hs hl hl2 hG hU hcF hnF hcW hnW hcG hnG hcU hnU
  have q1 := Wb.new w 37 #[.int .i64 l, .slice x F.length c, .slice z W.length d, .int .i64 m]
  obtain ⟨W2, hW2⟩ : ∃ W2, W2 = (w.alloc (.cells #[.int .i64 l, .slice x F.length c, .slice z W.length d, .int .i64 m] 37)).alloc (.cells #[.int .i64 k, .slice a G.length c4, .slice b U.length d4, .int .i64 n] 37) := ⟨_, rfl⟩
  replace q1 := q1.kept (show Below (w.alloc (.cells #[.int .i64 l, .slice x F.length c, .slice z W.length d, .int .i64 m] 37)).heap.size (w.alloc (.cells #[.int .i64 l, .slice x F.length c, .slice z W.length d, .int .i64 m] 37)) W2 from by rw [hW2]; exact (by repeat (first | exact Below.refl _ _ | assumption | refine Below.drew ?_ | refine below_drewN ?_ _ | refine Below.alloc' ?_ _ | (refine Below.setCell ?_ (by first | omega | (simp; done) | (simp; omega) | exact Below.size (by assumption) | exact Nat.le_trans (Below.size (by assumption)) (by simp)) _) | (refine Below.via' ?_ (by assumption)) | (refine Below.alloc ?_ (by first | omega | (simp; done) | (simp; omega) | exact Below.size (by assumption) | exact Nat.le_trans (Below.size (by assumption)) (by simp)) _) | (refine Below.via ?_ (by assumption) (by first | omega | (simp; done) | (simp; omega) | exact Below.size (by assumption) | exact Nat.le_trans (Below.size (by assumption)) (by simp))))))
  have q2 := Wb.new (w.alloc (.cells #[.int .i64 l, .slice x F.length c, .slice z W.length d, .int .i64 m] 37)) 37 #[.int .i64 k, .slice a G.length c4, .slice b U.length d4, .int .i64 n]
  rw [← hW2, World.size_alloc] at q2
  have B2 : Below w.heap.size w W2 := by rw [hW2]; exact (by repeat (first | exact Below.refl _ _ | assumption | refine Below.drew ?_ | refine below_drewN ?_ _ | refine Below.alloc' ?_ _ | (refine Below.setCell ?_ (by first | omega | (simp; done) | (simp; omega) | exact Below.size (by assumption) | exact Nat.le_trans (Below.size (by assumption)) (by simp)) _) | (refine Below.via' ?_ (by assumption)) | (refine Below.alloc ?_ (by first | omega | (simp; done) | (simp; omega) | exact Below.size (by assumption) | exact Nat.le_trans (Below.size (by assumption)) (by simp)) _) | (refine Below.via ?_ (by assumption) (by first | omega | (simp; done) | (simp; omega) | exact Below.size (by assumption) | exact Nat.le_trans (Below.size (by assumption)) (by simp)))))
  have hs2 : W2.heap.size = w.heap.size + 1 + 1 := by rw [hW2]; simp
  replace hW2 := Lib.hid hW2
  have q1h := Lib.hid (show Wb W2.drew w.heap.size 37 #[.int .i64 l, .slice x F.length c, .slice z W.length d, .int .i64 m] from q1)
  have q2h := Lib.hid (show Wb W2.drew (w.heap.size + 1) 37 #[.int .i64 k, .slice a G.length c4, .slice b U.length d4, .int .i64 n] from q2)
  have t1 := Lib.hid (tq_of_wbN q1h.out)
  have t2 := Lib.hid (tq_of_wbN q2h.out)
  clear q1 q2
  go_enter Try.func97, Try.ntmps97
  go_wp2_with fail
  rw [← hW2.out]
  go_cut [7, 8] (fun s7 s8 wx => ∃ g h xA cA zA dA xB cB zB dB, s7 = .pointer (some ⟨g, 0, none⟩) ∧ s8 = .pointer (some ⟨h, 0, none⟩) ∧ TQ wx g l xA F.length cA zA (nwL S W).length dA m ∧ TQ wx h k xB G.length cB zB (nwL S U).length dB n ∧ (Rd wx xA (iC F) ∧ Rd wx zA (iC (nwL S W))) ∧ (Rd wx xB (iC G) ∧ Rd wx zB (iC (nwL S U))) ∧ Below w.heap.size w wx)
  case first =>
    replace hs2 := Lib.hid hs2
    refine wp_region_held_drew (S := fun X => Below W2.heap.size W2 X) (by kernel_rfl) (Below.drew (Below.refl _ _)) (fun hH => ?_)
    obtain ⟨p0, p1, p2, p3, pl⟩ := (show TQ W2 _ _ _ _ _ _ _ _ _ from t1.out)
    obtain ⟨r0, r1, r2, r3, rl⟩ := (show TQ W2 _ _ _ _ _ _ _ _ _ from t2.out)
    refine wpAnyH_take (i := 0) (v := ?_) rfl (by kernel_rfl) (by kernel_rfl) (by kernel_rfl) (fun _ _ _ h => h) (Or.inl ⟨by rfl, ?_⟩) (by assumption) ?_; rotate_left; · (intro wz hz; (skip); clear hz; go_simp; try with_reducible rfl); (try simp only [Act.put, List.getElem_toArray, List.getElem_cons_succ, List.getElem_cons_zero, List.setIfInBounds_toArray, List.set_cons_zero, List.set_cons_succ])
    refine wpAnyH_take (i := 1) (v := ?_) rfl (by kernel_rfl) (by kernel_rfl) (by kernel_rfl) (fun _ _ _ h => h) (Or.inl ⟨by rfl, ?_⟩) (by assumption) ?_; rotate_left; · (intro wz hz; (have f0 := (hz.cell (p := ⟨w.heap.size, 0, none⟩) pl).trans p0; have f1 := (hz.cell (p := ⟨w.heap.size, 1, none⟩) pl).trans p1; have f2 := (hz.cell (p := ⟨w.heap.size, 2, none⟩) pl).trans p2; have f3 := (hz.cell (p := ⟨w.heap.size, 3, none⟩) pl).trans p3); clear hz; go_simp; try with_reducible rfl); (try simp only [Act.put, List.getElem_toArray, List.getElem_cons_succ, List.getElem_cons_zero, List.setIfInBounds_toArray, List.set_cons_zero, List.set_cons_succ])
    refine wpAnyH_take (i := 3) (v := ?_) rfl (by kernel_rfl) (by kernel_rfl) (by kernel_rfl) (fun _ _ _ h => h) (Or.inl ⟨by rfl, ?_⟩) (by assumption) ?_; rotate_left; · (intro wz hz; (skip); clear hz; go_simp; try with_reducible rfl); (try simp only [Act.put, List.getElem_toArray, List.getElem_cons_succ, List.getElem_cons_zero, List.setIfInBounds_toArray, List.set_cons_zero, List.set_cons_succ])
    refine wpAnyH_take (i := 4) (v := ?_) rfl (by kernel_rfl) (by kernel_rfl) (by kernel_rfl) (fun _ _ _ h => h) (Or.inl ⟨by rfl, ?_⟩) (by assumption) ?_; rotate_left; · (intro wz hz; (have f0 := (hz.cell (p := ⟨w.heap.size + 1, 0, none⟩) rl).trans r0; have f1 := (hz.cell (p := ⟨w.heap.size + 1, 1, none⟩) rl).trans r1; have f2 := (hz.cell (p := ⟨w.heap.size + 1, 2, none⟩) rl).trans r2; have f3 := (hz.cell (p := ⟨w.heap.size + 1, 3, none⟩) rl).trans r3); clear hz; go_simp; try with_reducible rfl); (try simp only [Act.put, List.getElem_toArray, List.getElem_cons_succ, List.getElem_cons_zero, List.setIfInBounds_toArray, List.set_cons_zero, List.set_cons_succ])
    clear p0 p1 p2 p3 r0 r1 r2 r3
    replace hH := Lib.hid hH
    refine wpAnyH_ready (rs := [2, 6, 7]) (by kernel_rfl) (by simp) (AllReadyH.cons rfl (fun K hK => ?_) (AllReadyH.cons rfl (fun K hK => ?_) (AllReadyH.cons rfl (fun K hK => ?_) AllReadyH.nil)))
    go_simp
    refine (nNormal_any y x z _ _ _ S l F W m _ hsh.out hlh.out (hSh.out.below (Below.via' B2 hH.out)) hmF hF1.out.1 hF1.out.2 hW1.out.1 hW1.out.2 (hFh.out.below (Below.via' B2 hH.out)) (hWh.out.below (Below.via' B2 hH.out))).mono ?_
    rintro e wA ⟨xA, cA, zA, dA, rfl, hoA, hbA⟩
    have hoA := Lib.hid hoA
    have hqA := Lib.hid (Below.via' hH.out hbA)
    have oA := hoA
    refine hK.out _ _ hqA.out (fun _ => ?_)
    clear hK K
    (try simp only [Act.put, List.getElem_toArray, List.getElem_cons_succ, List.getElem_cons_zero, List.setIfInBounds_toArray, List.set_cons_zero, List.set_cons_succ])
    refine wpAnyH_ready (rs := [5, 6, 7]) (by kernel_rfl) (by simp) (AllReadyH.cons rfl (fun K hK => ?_) (AllReadyH.cons rfl (fun K hK => ?_) (AllReadyH.cons rfl (fun K hK => ?_) AllReadyH.nil)))
    go_simp
    refine (nNormal_any y a b _ _ _ S k G U n _ hsh.out hl2h.out (hSh.out.below (Below.via' B2 hqA.out)) hmG hG1.out.1 hG1.out.2 hU1.out.1 hU1.out.2 (hGh.out.below (Below.via' B2 hqA.out)) (hUh.out.below (Below.via' B2 hqA.out))).mono ?_
    rintro e wB ⟨xB, cB, zB, dB, rfl, hoB, hbB⟩
    have hoB := Lib.hid hoB
    have hqB := Lib.hid (Below.via' hqA.out hbB)
    replace oA := Lib.hid (oA.out.below hbB)
    have oB := hoB
    refine hK.out _ _ hqB.out (fun _ => ?_)
    clear hK K
    (try simp only [Act.put, List.getElem_toArray, List.getElem_cons_succ, List.getElem_cons_zero, List.setIfInBounds_toArray, List.set_cons_zero, List.set_cons_succ])
    refine wpAnyH_ready (rs := [6, 7]) (by kernel_rfl) (by simp) (AllReadyH.cons rfl (fun K hK => ?_) (AllReadyH.cons rfl (fun K hK => ?_) AllReadyH.nil))
    go_simp
    have bg := Lib.hid (show Wb (wB.alloc (.cells #[.int .i64 0, .slice none 0 0, .slice none 0 0, .int .i64 0] 37)) (wB).heap.size 37 #[.int .i64 0, .slice none 0 0, .slice none 0 0, .int .i64 0] from Wb.new wB _ _)
    have log : W2.heap.size ≤ (wB).heap.size := (hqB.out).size
    have outgA : wA.heap.size ≤ (wB).heap.size := (show Below wA.heap.size wA _ from Below.via' (Below.refl _ _) hbB).size
    replace oA := Lib.hid (oA.out.below (Below.alloc' (Below.refl _ _) (.cells #[.int .i64 0, .slice none 0 0, .slice none 0 0, .int .i64 0] 37)))
    have outgB : wB.heap.size ≤ (wB).heap.size := (show Below wB.heap.size wB _ from Below.refl _ _).size
    replace oB := Lib.hid (oB.out.below (Below.alloc' (Below.refl _ _) (.cells #[.int .i64 0, .slice none 0 0, .slice none 0 0, .int .i64 0] 37)))
    have hag := Lib.hid (Below.alloc' hqB.out (.cells #[.int .i64 0, .slice none 0 0, .slice none 0 0, .int .i64 0] 37))
    refine hK.out _ _ hag.out (fun _ => ?_)
    clear hK K
    (try simp only [Act.put, List.getElem_toArray, List.getElem_cons_succ, List.getElem_cons_zero, List.setIfInBounds_toArray, List.set_cons_zero, List.set_cons_succ])
    refine wpAnyH_ready (rs := [7]) (by kernel_rfl) (by simp) (AllReadyH.cons rfl (fun K hK => ?_) AllReadyH.nil); go_simp
    have bh := Lib.hid (show Wb ((wB.alloc (.cells #[.int .i64 0, .slice none 0 0, .slice none 0 0, .int .i64 0] 37)).alloc (.cells #[.int .i64 0, .slice none 0 0, .slice none 0 0, .int .i64 0] 37)) ((wB.alloc (.cells #[.int .i64 0, .slice none 0 0, .slice none 0 0, .int .i64 0] 37))).heap.size 37 #[.int .i64 0, .slice none 0 0, .slice none 0 0, .int .i64 0] from Wb.new (wB.alloc (.cells #[.int .i64 0, .slice none 0 0, .slice none 0 0, .int .i64 0] 37)) _ _)
    have loh : W2.heap.size ≤ ((wB.alloc (.cells #[.int .i64 0, .slice none 0 0, .slice none 0 0, .int .i64 0] 37))).heap.size := (hag.out).size
    have outhA : wA.heap.size ≤ ((wB.alloc (.cells #[.int .i64 0, .slice none 0 0, .slice none 0 0, .int .i64 0] 37))).heap.size := (show Below wA.heap.size wA _ from Below.alloc' (Below.via' (Below.refl _ _) hbB) _).size
    replace oA := Lib.hid (oA.out.below (Below.alloc' (Below.refl _ _) (.cells #[.int .i64 0, .slice none 0 0, .slice none 0 0, .int .i64 0] 37)))
    have outhB : wB.heap.size ≤ ((wB.alloc (.cells #[.int .i64 0, .slice none 0 0, .slice none 0 0, .int .i64 0] 37))).heap.size := (show Below wB.heap.size wB _ from Below.alloc' (Below.refl _ _) _).size
    replace oB := Lib.hid (oB.out.below (Below.alloc' (Below.refl _ _) (.cells #[.int .i64 0, .slice none 0 0, .slice none 0 0, .int .i64 0] 37)))
    have ingh := bg.out.inside
    replace bg := Lib.hid (bg.out.kept (Below.alloc' (Below.refl _ _) (.cells #[.int .i64 0, .slice none 0 0, .slice none 0 0, .int .i64 0] 37)))
    have hah := Lib.hid (Below.alloc' hag.out (.cells #[.int .i64 0, .slice none 0 0, .slice none 0 0, .int .i64 0] 37))
    refine hK.out _ _ hah.out (fun _ => ?_)
    clear hK K
    (try simp only [Act.put, List.getElem_toArray, List.getElem_cons_succ, List.getElem_cons_zero, List.setIfInBounds_toArray, List.set_cons_zero, List.set_cons_succ])
    have hne : (wB).heap.size ≠ ((wB.alloc (.cells #[.int .i64 0, .slice none 0 0, .slice none 0 0, .int .i64 0] 37))).heap.size := Nat.ne_of_lt (by first | exact ingh | simpa using ingh)
    obtain ⟨Wf, hWf⟩ : ∃ Wf, Wf = ((wB.alloc (.cells #[.int .i64 0, .slice none 0 0, .slice none 0 0, .int .i64 0] 37)).alloc (.cells #[.int .i64 0, .slice none 0 0, .slice none 0 0, .int .i64 0] 37)) := ⟨_, rfl⟩
    have hcf : Below W2.heap.size W2 Wf := by rw [hWf]; exact hah.out
    have fg : Wb Wf (wB).heap.size 37 #[.int .i64 0, .slice none 0 0, .slice none 0 0, .int .i64 0] := by rw [hWf]; exact bg.out
    have fh : Wb Wf ((wB.alloc (.cells #[.int .i64 0, .slice none 0 0, .slice none 0 0, .int .i64 0] 37))).heap.size 37 #[.int .i64 0, .slice none 0 0, .slice none 0 0, .int .i64 0] := by rw [hWf]; exact bh.out
    have eA1 : ∃ lo hi, ((wB).heap.size < lo ∨ hi ≤ (wB).heap.size) ∧ (((wB.alloc (.cells #[.int .i64 0, .slice none 0 0, .slice none 0 0, .int .i64 0] 37))).heap.size < lo ∨ hi ≤ ((wB.alloc (.cells #[.int .i64 0, .slice none 0 0, .slice none 0 0, .int .i64 0] 37))).heap.size) ∧ OwY (((wB.alloc (.cells #[.int .i64 0, .slice none 0 0, .slice none 0 0, .int .i64 0] 37)).alloc (.cells #[.int .i64 0, .slice none 0 0, .slice none 0 0, .int .i64 0] 37))) lo hi (.slice xA F.length cA) (.slice zA (nwL S W).length dA) F (nwL S W) := ⟨_, _, Or.inr outgA, Or.inr outhA, oA.out⟩
    obtain ⟨loA, hiA, sgA, shA, pA⟩ := eA1
    rw [← hWf] at pA
    have eB1 : ∃ lo hi, ((wB).heap.size < lo ∨ hi ≤ (wB).heap.size) ∧ (((wB.alloc (.cells #[.int .i64 0, .slice none 0 0, .slice none 0 0, .int .i64 0] 37))).heap.size < lo ∨ hi ≤ ((wB.alloc (.cells #[.int .i64 0, .slice none 0 0, .slice none 0 0, .int .i64 0] 37))).heap.size) ∧ OwY (((wB.alloc (.cells #[.int .i64 0, .slice none 0 0, .slice none 0 0, .int .i64 0] 37)).alloc (.cells #[.int .i64 0, .slice none 0 0, .slice none 0 0, .int .i64 0] 37))) lo hi (.slice xB G.length cB) (.slice zB (nwL S U).length dB) G (nwL S U) := ⟨_, _, Or.inr outgB, Or.inr outhB, oB.out⟩
    obtain ⟨loB, hiB, sgB, shB, pB⟩ := eB1
    rw [← hWf] at pB
    rw [← hWf]
    obtain ⟨g, hg⟩ : ∃ g, g = (wB).heap.size := ⟨_, rfl⟩
    obtain ⟨h, hh⟩ : ∃ h, h = ((wB.alloc (.cells #[.int .i64 0, .slice none 0 0, .slice none 0 0, .int .i64 0] 37))).heap.size := ⟨_, rfl⟩
    rw [← hg] at sgA
    rw [← hg] at sgB
    have lg : W2.heap.size ≤ g := by rw [hg]; exact log
    rw [← hh] at shA
    rw [← hh] at shB
    have lh : W2.heap.size ≤ h := by rw [hh]; exact loh
    rw [← hg] at fg hne
    rw [← hh] at fh hne
    (try simp only [drew_sizeN] at hg)
    (try simp only [drew_sizeN] at hh)
    (try simp only [World.size_alloc] at hg)
    (try simp only [World.size_alloc] at hh)
    simp only [← hh]
    try simp only [← hg]
    replace hWf := Lib.hid hWf
    replace hg := Lib.hid hg
    replace hh := Lib.hid hh
    replace fg := Lib.hid fg
    replace fh := Lib.hid fh
    replace pA := Lib.hid pA
    replace pB := Lib.hid pB
    have ya := fg.out.read 0
    have yb := fg.out.read 1
    have yc := fg.out.read 2
    have yd := fg.out.read 3
    have ye := fg.out.free 0
    have yf := fg.out.free 1
    have yg := fg.out.free 2
    have yh := fg.out.free 3
    have yin := fg.out.inside
    refine wpAnyH_ready (rs := [8]) (by kernel_rfl) (by simp) (AllReadyH.cons rfl (fun K hK => ?_) AllReadyH.nil); go_simp
    have g1 : Below W2.heap.size W2 (st4 Wf g l xA F.length cA zA (nwL S W).length dA m) := st4_below hcf lg
    refine hK.out _ _ (by first | exact g1 | (have h0 := g1; rw [← hg.out] at h0; exact h0) | (have h0 := g1; rw [← hh.out] at h0; exact h0)) (fun _ => ?_)
    clear hK K ya yb yc yd ye yf yg yh
    (try simp only [Act.put, List.getElem_toArray, List.getElem_cons_succ, List.getElem_cons_zero, List.setIfInBounds_toArray, List.set_cons_zero, List.set_cons_succ])
    obtain ⟨X1, hX1⟩ : ∃ X1, X1 = (st4 Wf g l xA F.length cA zA (nwL S W).length dA m) := ⟨_, rfl⟩
    have hX1b := hX1
    unfold st4 at hX1b
    rw [← hX1b]
    rw [← hX1] at g1
    have f3 : Wb X1 h 37 #[.int .i64 0, .slice none 0 0, .slice none 0 0, .int .i64 0] := by rw [hX1]; exact st4_far fh.out hne.symm
    have f4 : Wb X1 g 37 #[.int .i64 l, .slice xA F.length cA, .slice zA (nwL S W).length dA, .int .i64 m] := by rw [hX1]; exact st4_wb fg.out
    have oA1 := st4_own (g := g) (l := l) (x := xA) (n := F.length) (c := cA) (z := zA) (k := (nwL S W).length) (d := dA) (m := m) pA.out sgA
    rw [← hX1] at oA1
    have oB1 := st4_own (g := g) (l := l) (x := xA) (n := F.length) (c := cA) (z := zA) (k := (nwL S W).length) (d := dA) (m := m) pB.out sgB
    rw [← hX1] at oB1
    replace hX1 := Lib.hid hX1
    replace hX1b := Lib.hid hX1b
    replace f3 := Lib.hid f3
    replace f4 := Lib.hid f4
    replace oA1 := Lib.hid oA1
    replace oB1 := Lib.hid oB1
    have ya := f3.out.read 0
    have yb := f3.out.read 1
    have yc := f3.out.read 2
    have yd := f3.out.read 3
    have ye := f3.out.free 0
    have yf := f3.out.free 1
    have yg := f3.out.free 2
    have yh := f3.out.free 3
    have yin2 := f3.out.inside
    refine wpAnyH_ready (rs := [9]) (by kernel_rfl) (by simp) (AllReadyH.cons rfl (fun K hK => ?_) AllReadyH.nil); go_simp
    have g2 : Below W2.heap.size W2 (st4 X1 h k xB G.length cB zB (nwL S U).length dB n) := st4_below g1 lh
    refine hK.out _ _ (by first | exact g2 | (have h0 := g2; rw [← hg.out] at h0; exact h0) | (have h0 := g2; rw [← hh.out] at h0; exact h0)) (fun _ => ?_)
    clear hK K ya yb yc yd ye yf yg yh
    (try simp only [Act.put, List.getElem_toArray, List.getElem_cons_succ, List.getElem_cons_zero, List.setIfInBounds_toArray, List.set_cons_zero, List.set_cons_succ])
    refine wpAnyH_done (by kernel_rfl) ?_ _
    go_wp2_with fail
    go_meet
    exact ⟨g, h, xA, cA, zA, dA, xB, cB, zB, dB, rfl, rfl, tq_of_wbN (st4_far f4.out hne), tq_of_wbN (st4_wb f3.out), (st4_own oA1.out shA).rd, (st4_own oB1.out shB).rd, Below.via' B2 g2⟩
    go_simp
    have bh := Lib.hid (show Wb (wB.alloc (.cells #[.int .i64 0, .slice none 0 0, .slice none 0 0, .int .i64 0] 37)) (wB).heap.size 37 #[.int .i64 0, .slice none 0 0, .slice none 0 0, .int .i64 0] from Wb.new wB _ _)
    have loh : W2.heap.size ≤ (wB).heap.size := (hqB.out).size
    have outhA : wA.heap.size ≤ (wB).heap.size := (show Below wA.heap.size wA _ from Below.via' (Below.refl _ _) hbB).size
    replace oA := Lib.hid (oA.out.below (Below.alloc' (Below.refl _ _) (.cells #[.int .i64 0, .slice none 0 0, .slice none 0 0, .int .i64 0] 37)))
    have outhB : wB.heap.size ≤ (wB).heap.size := (show Below wB.heap.size wB _ from Below.refl _ _).size
    replace oB := Lib.hid (oB.out.below (Below.alloc' (Below.refl _ _) (.cells #[.int .i64 0, .slice none 0 0, .slice none 0 0, .int .i64 0] 37)))
    have hah := Lib.hid (Below.alloc' hqB.out (.cells #[.int .i64 0, .slice none 0 0, .slice none 0 0, .int .i64 0] 37))
    refine hK.out _ _ hah.out (fun _ => ?_)
    clear hK K
    (try simp only [Act.put, List.getElem_toArray, List.getElem_cons_succ, List.getElem_cons_zero, List.setIfInBounds_toArray, List.set_cons_zero, List.set_cons_succ])
    refine wpAnyH_ready (rs := [6]) (by kernel_rfl) (by simp) (AllReadyH.cons rfl (fun K hK => ?_) AllReadyH.nil); go_simp
    have bg := Lib.hid (show Wb ((wB.alloc (.cells #[.int .i64 0, .slice none 0 0, .slice none 0 0, .int .i64 0] 37)).alloc (.cells #[.int .i64 0, .slice none 0 0, .slice none 0 0, .int .i64 0] 37)) ((wB.alloc (.cells #[.int .i64 0, .slice none 0 0, .slice none 0 0, .int .i64 0] 37))).heap.size 37 #[.int .i64 0, .slice none 0 0, .slice none 0 0, .int .i64 0] from Wb.new (wB.alloc (.cells #[.int .i64 0, .slice none 0 0, .slice none 0 0, .int .i64 0] 37)) _ _)
    have log : W2.heap.size ≤ ((wB.alloc (.cells #[.int .i64 0, .slice none 0 0, .slice none 0 0, .int .i64 0] 37))).heap.size := (hah.out).size
    have outgA : wA.heap.size ≤ ((wB.alloc (.cells #[.int .i64 0, .slice none 0 0, .slice none 0 0, .int .i64 0] 37))).heap.size := (show Below wA.heap.size wA _ from Below.alloc' (Below.via' (Below.refl _ _) hbB) _).size
    replace oA := Lib.hid (oA.out.below (Below.alloc' (Below.refl _ _) (.cells #[.int .i64 0, .slice none 0 0, .slice none 0 0, .int .i64 0] 37)))
    have outgB : wB.heap.size ≤ ((wB.alloc (.cells #[.int .i64 0, .slice none 0 0, .slice none 0 0, .int .i64 0] 37))).heap.size := (show Below wB.heap.size wB _ from Below.alloc' (Below.refl _ _) _).size
    replace oB := Lib.hid (oB.out.below (Below.alloc' (Below.refl _ _) (.cells #[.int .i64 0, .slice none 0 0, .slice none 0 0, .int .i64 0] 37)))
    have inhg := bh.out.inside
    replace bh := Lib.hid (bh.out.kept (Below.alloc' (Below.refl _ _) (.cells #[.int .i64 0, .slice none 0 0, .slice none 0 0, .int .i64 0] 37)))
    have hag := Lib.hid (Below.alloc' hah.out (.cells #[.int .i64 0, .slice none 0 0, .slice none 0 0, .int .i64 0] 37))
    refine hK.out _ _ hag.out (fun _ => ?_)
    clear hK K
    (try simp only [Act.put, List.getElem_toArray, List.getElem_cons_succ, List.getElem_cons_zero, List.setIfInBounds_toArray, List.set_cons_zero, List.set_cons_succ])
    have hne : ((wB.alloc (.cells #[.int .i64 0, .slice none 0 0, .slice none 0 0, .int .i64 0] 37))).heap.size ≠ (wB).heap.size := (Nat.ne_of_lt (by first | exact inhg | simpa using inhg)).symm
    obtain ⟨Wf, hWf⟩ : ∃ Wf, Wf = ((wB.alloc (.cells #[.int .i64 0, .slice none 0 0, .slice none 0 0, .int .i64 0] 37)).alloc (.cells #[.int .i64 0, .slice none 0 0, .slice none 0 0, .int .i64 0] 37)) := ⟨_, rfl⟩
    have hcf : Below W2.heap.size W2 Wf := by rw [hWf]; exact hag.out
    have fg : Wb Wf ((wB.alloc (.cells #[.int .i64 0, .slice none 0 0, .slice none 0 0, .int .i64 0] 37))).heap.size 37 #[.int .i64 0, .slice none 0 0, .slice none 0 0, .int .i64 0] := by rw [hWf]; exact bg.out
    have fh : Wb Wf (wB).heap.size 37 #[.int .i64 0, .slice none 0 0, .slice none 0 0, .int .i64 0] := by rw [hWf]; exact bh.out
    have eA1 : ∃ lo hi, (((wB.alloc (.cells #[.int .i64 0, .slice none 0 0, .slice none 0 0, .int .i64 0] 37))).heap.size < lo ∨ hi ≤ ((wB.alloc (.cells #[.int .i64 0, .slice none 0 0, .slice none 0 0, .int .i64 0] 37))).heap.size) ∧ ((wB).heap.size < lo ∨ hi ≤ (wB).heap.size) ∧ OwY (((wB.alloc (.cells #[.int .i64 0, .slice none 0 0, .slice none 0 0, .int .i64 0] 37)).alloc (.cells #[.int .i64 0, .slice none 0 0, .slice none 0 0, .int .i64 0] 37))) lo hi (.slice xA F.length cA) (.slice zA (nwL S W).length dA) F (nwL S W) := ⟨_, _, Or.inr outgA, Or.inr outhA, oA.out⟩
    obtain ⟨loA, hiA, sgA, shA, pA⟩ := eA1
    rw [← hWf] at pA
    have eB1 : ∃ lo hi, (((wB.alloc (.cells #[.int .i64 0, .slice none 0 0, .slice none 0 0, .int .i64 0] 37))).heap.size < lo ∨ hi ≤ ((wB.alloc (.cells #[.int .i64 0, .slice none 0 0, .slice none 0 0, .int .i64 0] 37))).heap.size) ∧ ((wB).heap.size < lo ∨ hi ≤ (wB).heap.size) ∧ OwY (((wB.alloc (.cells #[.int .i64 0, .slice none 0 0, .slice none 0 0, .int .i64 0] 37)).alloc (.cells #[.int .i64 0, .slice none 0 0, .slice none 0 0, .int .i64 0] 37))) lo hi (.slice xB G.length cB) (.slice zB (nwL S U).length dB) G (nwL S U) := ⟨_, _, Or.inr outgB, Or.inr outhB, oB.out⟩
    obtain ⟨loB, hiB, sgB, shB, pB⟩ := eB1
    rw [← hWf] at pB
    rw [← hWf]
    obtain ⟨g, hg⟩ : ∃ g, g = ((wB.alloc (.cells #[.int .i64 0, .slice none 0 0, .slice none 0 0, .int .i64 0] 37))).heap.size := ⟨_, rfl⟩
    obtain ⟨h, hh⟩ : ∃ h, h = (wB).heap.size := ⟨_, rfl⟩
    rw [← hg] at sgA
    rw [← hg] at sgB
    have lg : W2.heap.size ≤ g := by rw [hg]; exact log
    rw [← hh] at shA
    rw [← hh] at shB
    have lh : W2.heap.size ≤ h := by rw [hh]; exact loh
    rw [← hg] at fg hne
    rw [← hh] at fh hne
    (try simp only [drew_sizeN] at hg)
    (try simp only [drew_sizeN] at hh)
    (try simp only [World.size_alloc] at hg)
    (try simp only [World.size_alloc] at hh)
    simp only [← hg]
    try simp only [← hh]
    replace hWf := Lib.hid hWf
    replace hg := Lib.hid hg
    replace hh := Lib.hid hh
    replace fg := Lib.hid fg
    replace fh := Lib.hid fh
    replace pA := Lib.hid pA
    replace pB := Lib.hid pB
    have ya := fg.out.read 0
    have yb := fg.out.read 1
    have yc := fg.out.read 2
    have yd := fg.out.read 3
    have ye := fg.out.free 0
    have yf := fg.out.free 1
    have yg := fg.out.free 2
    have yh := fg.out.free 3
    have yin := fg.out.inside
    refine wpAnyH_ready (rs := [8]) (by kernel_rfl) (by simp) (AllReadyH.cons rfl (fun K hK => ?_) AllReadyH.nil); go_simp
    have g1 : Below W2.heap.size W2 (st4 Wf g l xA F.length cA zA (nwL S W).length dA m) := st4_below hcf lg
    refine hK.out _ _ (by first | exact g1 | (have h0 := g1; rw [← hg.out] at h0; exact h0) | (have h0 := g1; rw [← hh.out] at h0; exact h0)) (fun _ => ?_)
    clear hK K ya yb yc yd ye yf yg yh
    (try simp only [Act.put, List.getElem_toArray, List.getElem_cons_succ, List.getElem_cons_zero, List.setIfInBounds_toArray, List.set_cons_zero, List.set_cons_succ])
    obtain ⟨X1, hX1⟩ : ∃ X1, X1 = (st4 Wf g l xA F.length cA zA (nwL S W).length dA m) := ⟨_, rfl⟩
    have hX1b := hX1
    unfold st4 at hX1b
    rw [← hX1b]
    rw [← hX1] at g1
    have f3 : Wb X1 h 37 #[.int .i64 0, .slice none 0 0, .slice none 0 0, .int .i64 0] := by rw [hX1]; exact st4_far fh.out hne.symm
    have f4 : Wb X1 g 37 #[.int .i64 l, .slice xA F.length cA, .slice zA (nwL S W).length dA, .int .i64 m] := by rw [hX1]; exact st4_wb fg.out
    have oA1 := st4_own (g := g) (l := l) (x := xA) (n := F.length) (c := cA) (z := zA) (k := (nwL S W).length) (d := dA) (m := m) pA.out sgA
    rw [← hX1] at oA1
    have oB1 := st4_own (g := g) (l := l) (x := xA) (n := F.length) (c := cA) (z := zA) (k := (nwL S W).length) (d := dA) (m := m) pB.out sgB
    rw [← hX1] at oB1
    replace hX1 := Lib.hid hX1
    replace hX1b := Lib.hid hX1b
    replace f3 := Lib.hid f3
    replace f4 := Lib.hid f4
    replace oA1 := Lib.hid oA1
    replace oB1 := Lib.hid oB1
    have ya := f3.out.read 0
    have yb := f3.out.read 1
    have yc := f3.out.read 2
    have yd := f3.out.read 3
    have ye := f3.out.free 0
    have yf := f3.out.free 1
    have yg := f3.out.free 2
    have yh := f3.out.free 3
    have yin2 := f3.out.inside
    refine wpAnyH_ready (rs := [9]) (by kernel_rfl) (by simp) (AllReadyH.cons rfl (fun K hK => ?_) AllReadyH.nil); go_simp
    have g2 : Below W2.heap.size W2 (st4 X1 h k xB G.length cB zB (nwL S U).length dB n) := st4_below g1 lh
    refine hK.out _ _ (by first | exact g2 | (have h0 := g2; rw [← hg.out] at h0; exact h0) | (have h0 := g2; rw [← hh.out] at h0; exact h0)) (fun _ => ?_)
    clear hK K ya yb yc yd ye yf yg yh
    (try simp only [Act.put, List.getElem_toArray, List.getElem_cons_succ, List.getElem_cons_zero, List.setIfInBounds_toArray, List.set_cons_zero, List.set_cons_succ])
    refine wpAnyH_done (by kernel_rfl) ?_ _
    go_wp2_with fail
    go_meet
    exact ⟨g, h, xA, cA, zA, dA, xB, cB, zB, dB, rfl, rfl, tq_of_wbN (st4_far f4.out hne), tq_of_wbN (st4_wb f3.out), (st4_own oA1.out shA).rd, (st4_own oB1.out shB).rd, Below.via' B2 g2⟩
    go_simp
    have bg := Lib.hid (show Wb (wA.alloc (.cells #[.int .i64 0, .slice none 0 0, .slice none 0 0, .int .i64 0] 37)) (wA).heap.size 37 #[.int .i64 0, .slice none 0 0, .slice none 0 0, .int .i64 0] from Wb.new wA _ _)
    have log : W2.heap.size ≤ (wA).heap.size := (hqA.out).size
    have outgA : wA.heap.size ≤ (wA).heap.size := (show Below wA.heap.size wA _ from Below.refl _ _).size
    replace oA := Lib.hid (oA.out.below (Below.alloc' (Below.refl _ _) (.cells #[.int .i64 0, .slice none 0 0, .slice none 0 0, .int .i64 0] 37)))
    have hag := Lib.hid (Below.alloc' hqA.out (.cells #[.int .i64 0, .slice none 0 0, .slice none 0 0, .int .i64 0] 37))
    refine hK.out _ _ hag.out (fun _ => ?_)
    clear hK K
    (try simp only [Act.put, List.getElem_toArray, List.getElem_cons_succ, List.getElem_cons_zero, List.setIfInBounds_toArray, List.set_cons_zero, List.set_cons_succ])
    refine wpAnyH_ready (rs := [5, 7]) (by kernel_rfl) (by simp) (AllReadyH.cons rfl (fun K hK => ?_) (AllReadyH.cons rfl (fun K hK => ?_) AllReadyH.nil))
    go_simp
    have ingB := bg.out.inside
    refine (nNormal_any y a b _ _ _ S k G U n _ hsh.out hl2h.out (hSh.out.below (Below.via' B2 hag.out)) hmG hG1.out.1 hG1.out.2 hU1.out.1 hU1.out.2 (hGh.out.below (Below.via' B2 hag.out)) (hUh.out.below (Below.via' B2 hag.out))).mono ?_
    rintro e wB ⟨xB, cB, zB, dB, rfl, hoB, hbB⟩
    have hoB := Lib.hid hoB
    have hqB := Lib.hid (Below.via' hag.out hbB)
    replace bg := Lib.hid (bg.out.kept hbB)
    replace oA := Lib.hid (oA.out.below hbB)
    have oB := hoB
    refine hK.out _ _ hqB.out (fun _ => ?_)
    clear hK K
    (try simp only [Act.put, List.getElem_toArray, List.getElem_cons_succ, List.getElem_cons_zero, List.setIfInBounds_toArray, List.set_cons_zero, List.set_cons_succ])
    refine wpAnyH_ready (rs := [7]) (by kernel_rfl) (by simp) (AllReadyH.cons rfl (fun K hK => ?_) AllReadyH.nil); go_simp
    have bh := Lib.hid (show Wb (wB.alloc (.cells #[.int .i64 0, .slice none 0 0, .slice none 0 0, .int .i64 0] 37)) (wB).heap.size 37 #[.int .i64 0, .slice none 0 0, .slice none 0 0, .int .i64 0] from Wb.new wB _ _)
    have loh : W2.heap.size ≤ (wB).heap.size := (hqB.out).size
    have outhA : wA.heap.size ≤ (wB).heap.size := (show Below wA.heap.size wA _ from Below.via' (Below.alloc' (Below.refl _ _) _) hbB).size
    replace oA := Lib.hid (oA.out.below (Below.alloc' (Below.refl _ _) (.cells #[.int .i64 0, .slice none 0 0, .slice none 0 0, .int .i64 0] 37)))
    have outhB : wB.heap.size ≤ (wB).heap.size := (show Below wB.heap.size wB _ from Below.refl _ _).size
    replace oB := Lib.hid (oB.out.below (Below.alloc' (Below.refl _ _) (.cells #[.int .i64 0, .slice none 0 0, .slice none 0 0, .int .i64 0] 37)))
    have ingh := bg.out.inside
    replace bg := Lib.hid (bg.out.kept (Below.alloc' (Below.refl _ _) (.cells #[.int .i64 0, .slice none 0 0, .slice none 0 0, .int .i64 0] 37)))
    have hah := Lib.hid (Below.alloc' hqB.out (.cells #[.int .i64 0, .slice none 0 0, .slice none 0 0, .int .i64 0] 37))
    refine hK.out _ _ hah.out (fun _ => ?_)
    clear hK K
    (try simp only [Act.put, List.getElem_toArray, List.getElem_cons_succ, List.getElem_cons_zero, List.setIfInBounds_toArray, List.set_cons_zero, List.set_cons_succ])
    have hne : (wA).heap.size ≠ (wB).heap.size := Nat.ne_of_lt (by first | exact ingh | simpa using ingh)
    obtain ⟨Wf, hWf⟩ : ∃ Wf, Wf = (wB.alloc (.cells #[.int .i64 0, .slice none 0 0, .slice none 0 0, .int .i64 0] 37)) := ⟨_, rfl⟩
    have hcf : Below W2.heap.size W2 Wf := by rw [hWf]; exact hah.out
    have fg : Wb Wf (wA).heap.size 37 #[.int .i64 0, .slice none 0 0, .slice none 0 0, .int .i64 0] := by rw [hWf]; exact bg.out
    have fh : Wb Wf (wB).heap.size 37 #[.int .i64 0, .slice none 0 0, .slice none 0 0, .int .i64 0] := by rw [hWf]; exact bh.out
    have eA1 : ∃ lo hi, ((wA).heap.size < lo ∨ hi ≤ (wA).heap.size) ∧ ((wB).heap.size < lo ∨ hi ≤ (wB).heap.size) ∧ OwY ((wB.alloc (.cells #[.int .i64 0, .slice none 0 0, .slice none 0 0, .int .i64 0] 37))) lo hi (.slice xA F.length cA) (.slice zA (nwL S W).length dA) F (nwL S W) := ⟨_, _, Or.inr outgA, Or.inr outhA, oA.out⟩
    obtain ⟨loA, hiA, sgA, shA, pA⟩ := eA1
    rw [← hWf] at pA
    have eB1 : ∃ lo hi, ((wA).heap.size < lo ∨ hi ≤ (wA).heap.size) ∧ ((wB).heap.size < lo ∨ hi ≤ (wB).heap.size) ∧ OwY ((wB.alloc (.cells #[.int .i64 0, .slice none 0 0, .slice none 0 0, .int .i64 0] 37))) lo hi (.slice xB G.length cB) (.slice zB (nwL S U).length dB) G (nwL S U) := ⟨_, _, Or.inl ingB, Or.inr outhB, oB.out⟩
    obtain ⟨loB, hiB, sgB, shB, pB⟩ := eB1
    rw [← hWf] at pB
    rw [← hWf]
    obtain ⟨g, hg⟩ : ∃ g, g = (wA).heap.size := ⟨_, rfl⟩
    obtain ⟨h, hh⟩ : ∃ h, h = (wB).heap.size := ⟨_, rfl⟩
    rw [← hg] at sgA
    rw [← hg] at sgB
    have lg : W2.heap.size ≤ g := by rw [hg]; exact log
    rw [← hh] at shA
    rw [← hh] at shB
    have lh : W2.heap.size ≤ h := by rw [hh]; exact loh
    rw [← hg] at fg hne
    rw [← hh] at fh hne
    (try simp only [drew_sizeN] at hg)
    (try simp only [drew_sizeN] at hh)
    (try simp only [World.size_alloc] at hg)
    (try simp only [World.size_alloc] at hh)
    simp only [← hh]
    try simp only [← hg]
    replace hWf := Lib.hid hWf
    replace hg := Lib.hid hg
    replace hh := Lib.hid hh
    replace fg := Lib.hid fg
    replace fh := Lib.hid fh
    replace pA := Lib.hid pA
    replace pB := Lib.hid pB
    have ya := fg.out.read 0
    have yb := fg.out.read 1
    have yc := fg.out.read 2
    have yd := fg.out.read 3
    have ye := fg.out.free 0
    have yf := fg.out.free 1
    have yg := fg.out.free 2
    have yh := fg.out.free 3
    have yin := fg.out.inside
    refine wpAnyH_ready (rs := [8]) (by kernel_rfl) (by simp) (AllReadyH.cons rfl (fun K hK => ?_) AllReadyH.nil); go_simp
    have g1 : Below W2.heap.size W2 (st4 Wf g l xA F.length cA zA (nwL S W).length dA m) := st4_below hcf lg
    refine hK.out _ _ (by first | exact g1 | (have h0 := g1; rw [← hg.out] at h0; exact h0) | (have h0 := g1; rw [← hh.out] at h0; exact h0)) (fun _ => ?_)
    clear hK K ya yb yc yd ye yf yg yh
    (try simp only [Act.put, List.getElem_toArray, List.getElem_cons_succ, List.getElem_cons_zero, List.setIfInBounds_toArray, List.set_cons_zero, List.set_cons_succ])
    obtain ⟨X1, hX1⟩ : ∃ X1, X1 = (st4 Wf g l xA F.length cA zA (nwL S W).length dA m) := ⟨_, rfl⟩
    have hX1b := hX1
    unfold st4 at hX1b
    rw [← hX1b]
    rw [← hX1] at g1
    have f3 : Wb X1 h 37 #[.int .i64 0, .slice none 0 0, .slice none 0 0, .int .i64 0] := by rw [hX1]; exact st4_far fh.out hne.symm
    have f4 : Wb X1 g 37 #[.int .i64 l, .slice xA F.length cA, .slice zA (nwL S W).length dA, .int .i64 m] := by rw [hX1]; exact st4_wb fg.out
    have oA1 := st4_own (g := g) (l := l) (x := xA) (n := F.length) (c := cA) (z := zA) (k := (nwL S W).length) (d := dA) (m := m) pA.out sgA
    rw [← hX1] at oA1
    have oB1 := st4_own (g := g) (l := l) (x := xA) (n := F.length) (c := cA) (z := zA) (k := (nwL S W).length) (d := dA) (m := m) pB.out sgB
    rw [← hX1] at oB1
    replace hX1 := Lib.hid hX1
    replace hX1b := Lib.hid hX1b
    replace f3 := Lib.hid f3
    replace f4 := Lib.hid f4
    replace oA1 := Lib.hid oA1
    replace oB1 := Lib.hid oB1
    have ya := f3.out.read 0
    have yb := f3.out.read 1
    have yc := f3.out.read 2
    have yd := f3.out.read 3
    have ye := f3.out.free 0
    have yf := f3.out.free 1
    have yg := f3.out.free 2
    have yh := f3.out.free 3
    have yin2 := f3.out.inside
    refine wpAnyH_ready (rs := [9]) (by kernel_rfl) (by simp) (AllReadyH.cons rfl (fun K hK => ?_) AllReadyH.nil); go_simp
    have g2 : Below W2.heap.size W2 (st4 X1 h k xB G.length cB zB (nwL S U).length dB n) := st4_below g1 lh
    refine hK.out _ _ (by first | exact g2 | (have h0 := g2; rw [← hg.out] at h0; exact h0) | (have h0 := g2; rw [← hh.out] at h0; exact h0)) (fun _ => ?_)
    clear hK K ya yb yc yd ye yf yg yh
    (try simp only [Act.put, List.getElem_toArray, List.getElem_cons_succ, List.getElem_cons_zero, List.setIfInBounds_toArray, List.set_cons_zero, List.set_cons_succ])
    refine wpAnyH_done (by kernel_rfl) ?_ _
    go_wp2_with fail
    go_meet
    exact ⟨g, h, xA, cA, zA, dA, xB, cB, zB, dB, rfl, rfl, tq_of_wbN (st4_far f4.out hne), tq_of_wbN (st4_wb f3.out), (st4_own oA1.out shA).rd, (st4_own oB1.out shB).rd, Below.via' B2 g2⟩
    go_simp
    have bh := Lib.hid (show Wb ((wA.alloc (.cells #[.int .i64 0, .slice none 0 0, .slice none 0 0, .int .i64 0] 37)).alloc (.cells #[.int .i64 0, .slice none 0 0, .slice none 0 0, .int .i64 0] 37)) ((wA.alloc (.cells #[.int .i64 0, .slice none 0 0, .slice none 0 0, .int .i64 0] 37))).heap.size 37 #[.int .i64 0, .slice none 0 0, .slice none 0 0, .int .i64 0] from Wb.new (wA.alloc (.cells #[.int .i64 0, .slice none 0 0, .slice none 0 0, .int .i64 0] 37)) _ _)
    have loh : W2.heap.size ≤ ((wA.alloc (.cells #[.int .i64 0, .slice none 0 0, .slice none 0 0, .int .i64 0] 37))).heap.size := (hag.out).size
    have outhA : wA.heap.size ≤ ((wA.alloc (.cells #[.int .i64 0, .slice none 0 0, .slice none 0 0, .int .i64 0] 37))).heap.size := (show Below wA.heap.size wA _ from Below.alloc' (Below.refl _ _) _).size
    replace oA := Lib.hid (oA.out.below (Below.alloc' (Below.refl _ _) (.cells #[.int .i64 0, .slice none 0 0, .slice none 0 0, .int .i64 0] 37)))
    have ingh := bg.out.inside
    replace bg := Lib.hid (bg.out.kept (Below.alloc' (Below.refl _ _) (.cells #[.int .i64 0, .slice none 0 0, .slice none 0 0, .int .i64 0] 37)))
    have hah := Lib.hid (Below.alloc' hag.out (.cells #[.int .i64 0, .slice none 0 0, .slice none 0 0, .int .i64 0] 37))
    refine hK.out _ _ hah.out (fun _ => ?_)
    clear hK K
    (try simp only [Act.put, List.getElem_toArray, List.getElem_cons_succ, List.getElem_cons_zero, List.setIfInBounds_toArray, List.set_cons_zero, List.set_cons_succ])
    refine wpAnyH_ready (rs := [5]) (by kernel_rfl) (by simp) (AllReadyH.cons rfl (fun K hK => ?_) AllReadyH.nil); go_simp
    have ingB := bg.out.inside
    have inhB := bh.out.inside
    refine (nNormal_any y a b _ _ _ S k G U n _ hsh.out hl2h.out (hSh.out.below (Below.via' B2 hah.out)) hmG hG1.out.1 hG1.out.2 hU1.out.1 hU1.out.2 (hGh.out.below (Below.via' B2 hah.out)) (hUh.out.below (Below.via' B2 hah.out))).mono ?_
    rintro e wB ⟨xB, cB, zB, dB, rfl, hoB, hbB⟩
    have hoB := Lib.hid hoB
    have hqB := Lib.hid (Below.via' hah.out hbB)
    replace bg := Lib.hid (bg.out.kept hbB)
    replace bh := Lib.hid (bh.out.kept hbB)
    replace oA := Lib.hid (oA.out.below hbB)
    have oB := hoB
    refine hK.out _ _ hqB.out (fun _ => ?_)
    clear hK K
    (try simp only [Act.put, List.getElem_toArray, List.getElem_cons_succ, List.getElem_cons_zero, List.setIfInBounds_toArray, List.set_cons_zero, List.set_cons_succ])
    have hne : (wA).heap.size ≠ ((wA.alloc (.cells #[.int .i64 0, .slice none 0 0, .slice none 0 0, .int .i64 0] 37))).heap.size := Nat.ne_of_lt (by first | exact ingh | simpa using ingh)
    obtain ⟨Wf, hWf⟩ : ∃ Wf, Wf = wB := ⟨_, rfl⟩
    have hcf : Below W2.heap.size W2 Wf := by rw [hWf]; exact hqB.out
    have fg : Wb Wf (wA).heap.size 37 #[.int .i64 0, .slice none 0 0, .slice none 0 0, .int .i64 0] := by rw [hWf]; exact bg.out
    have fh : Wb Wf ((wA.alloc (.cells #[.int .i64 0, .slice none 0 0, .slice none 0 0, .int .i64 0] 37))).heap.size 37 #[.int .i64 0, .slice none 0 0, .slice none 0 0, .int .i64 0] := by rw [hWf]; exact bh.out
    have eA1 : ∃ lo hi, ((wA).heap.size < lo ∨ hi ≤ (wA).heap.size) ∧ (((wA.alloc (.cells #[.int .i64 0, .slice none 0 0, .slice none 0 0, .int .i64 0] 37))).heap.size < lo ∨ hi ≤ ((wA.alloc (.cells #[.int .i64 0, .slice none 0 0, .slice none 0 0, .int .i64 0] 37))).heap.size) ∧ OwY (wB) lo hi (.slice xA F.length cA) (.slice zA (nwL S W).length dA) F (nwL S W) := ⟨_, _, Or.inr outgA, Or.inr outhA, oA.out⟩
    obtain ⟨loA, hiA, sgA, shA, pA⟩ := eA1
    rw [← hWf] at pA
    have eB1 : ∃ lo hi, ((wA).heap.size < lo ∨ hi ≤ (wA).heap.size) ∧ (((wA.alloc (.cells #[.int .i64 0, .slice none 0 0, .slice none 0 0, .int .i64 0] 37))).heap.size < lo ∨ hi ≤ ((wA.alloc (.cells #[.int .i64 0, .slice none 0 0, .slice none 0 0, .int .i64 0] 37))).heap.size) ∧ OwY (wB) lo hi (.slice xB G.length cB) (.slice zB (nwL S U).length dB) G (nwL S U) := ⟨_, _, Or.inl ingB, Or.inl inhB, oB.out⟩
    obtain ⟨loB, hiB, sgB, shB, pB⟩ := eB1
    rw [← hWf] at pB
    rw [← hWf]
    obtain ⟨g, hg⟩ : ∃ g, g = (wA).heap.size := ⟨_, rfl⟩
    obtain ⟨h, hh⟩ : ∃ h, h = ((wA.alloc (.cells #[.int .i64 0, .slice none 0 0, .slice none 0 0, .int .i64 0] 37))).heap.size := ⟨_, rfl⟩
    rw [← hg] at sgA
    rw [← hg] at sgB
    have lg : W2.heap.size ≤ g := by rw [hg]; exact log
    rw [← hh] at shA
    rw [← hh] at shB
    have lh : W2.heap.size ≤ h := by rw [hh]; exact loh
    rw [← hg] at fg hne
    rw [← hh] at fh hne
    (try simp only [drew_sizeN] at hg)
    (try simp only [drew_sizeN] at hh)
    (try simp only [World.size_alloc] at hg)
    (try simp only [World.size_alloc] at hh)
    simp only [← hh]
    try simp only [← hg]
    replace hWf := Lib.hid hWf
    replace hg := Lib.hid hg
    replace hh := Lib.hid hh
    replace fg := Lib.hid fg
    replace fh := Lib.hid fh
    replace pA := Lib.hid pA
    replace pB := Lib.hid pB
    have ya := fg.out.read 0
    have yb := fg.out.read 1
    have yc := fg.out.read 2
    have yd := fg.out.read 3
    have ye := fg.out.free 0
    have yf := fg.out.free 1
    have yg := fg.out.free 2
    have yh := fg.out.free 3
    have yin := fg.out.inside
    refine wpAnyH_ready (rs := [8]) (by kernel_rfl) (by simp) (AllReadyH.cons rfl (fun K hK => ?_) AllReadyH.nil); go_simp
    have g1 : Below W2.heap.size W2 (st4 Wf g l xA F.length cA zA (nwL S W).length dA m) := st4_below hcf lg
    refine hK.out _ _ (by first | exact g1 | (have h0 := g1; rw [← hg.out] at h0; exact h0) | (have h0 := g1; rw [← hh.out] at h0; exact h0)) (fun _ => ?_)
    clear hK K ya yb yc yd ye yf yg yh
    (try simp only [Act.put, List.getElem_toArray, List.getElem_cons_succ, List.getElem_cons_zero, List.setIfInBounds_toArray, List.set_cons_zero, List.set_cons_succ])
    obtain ⟨X1, hX1⟩ : ∃ X1, X1 = (st4 Wf g l xA F.length cA zA (nwL S W).length dA m) := ⟨_, rfl⟩
    have hX1b := hX1
    unfold st4 at hX1b
    rw [← hX1b]
    rw [← hX1] at g1
    have f3 : Wb X1 h 37 #[.int .i64 0, .slice none 0 0, .slice none 0 0, .int .i64 0] := by rw [hX1]; exact st4_far fh.out hne.symm
    have f4 : Wb X1 g 37 #[.int .i64 l, .slice xA F.length cA, .slice zA (nwL S W).length dA, .int .i64 m] := by rw [hX1]; exact st4_wb fg.out
    have oA1 := st4_own (g := g) (l := l) (x := xA) (n := F.length) (c := cA) (z := zA) (k := (nwL S W).length) (d := dA) (m := m) pA.out sgA
    rw [← hX1] at oA1
    have oB1 := st4_own (g := g) (l := l) (x := xA) (n := F.length) (c := cA) (z := zA) (k := (nwL S W).length) (d := dA) (m := m) pB.out sgB
    rw [← hX1] at oB1
    replace hX1 := Lib.hid hX1
    replace hX1b := Lib.hid hX1b
    replace f3 := Lib.hid f3
    replace f4 := Lib.hid f4
    replace oA1 := Lib.hid oA1
    replace oB1 := Lib.hid oB1
    have ya := f3.out.read 0
    have yb := f3.out.read 1
    have yc := f3.out.read 2
    have yd := f3.out.read 3
    have ye := f3.out.free 0
    have yf := f3.out.free 1
    have yg := f3.out.free 2
    have yh := f3.out.free 3
    have yin2 := f3.out.inside
    refine wpAnyH_ready (rs := [9]) (by kernel_rfl) (by simp) (AllReadyH.cons rfl (fun K hK => ?_) AllReadyH.nil); go_simp
    have g2 : Below W2.heap.size W2 (st4 X1 h k xB G.length cB zB (nwL S U).length dB n) := st4_below g1 lh
    refine hK.out _ _ (by first | exact g2 | (have h0 := g2; rw [← hg.out] at h0; exact h0) | (have h0 := g2; rw [← hh.out] at h0; exact h0)) (fun _ => ?_)
    clear hK K ya yb yc yd ye yf yg yh
    (try simp only [Act.put, List.getElem_toArray, List.getElem_cons_succ, List.getElem_cons_zero, List.setIfInBounds_toArray, List.set_cons_zero, List.set_cons_succ])
    refine wpAnyH_done (by kernel_rfl) ?_ _
    go_wp2_with fail
    go_meet
    exact ⟨g, h, xA, cA, zA, dA, xB, cB, zB, dB, rfl, rfl, tq_of_wbN (st4_far f4.out hne), tq_of_wbN (st4_wb f3.out), (st4_own oA1.out shA).rd, (st4_own oB1.out shB).rd, Below.via' B2 g2⟩
    go_simp
    have bh := Lib.hid (show Wb (wA.alloc (.cells #[.int .i64 0, .slice none 0 0, .slice none 0 0, .int .i64 0] 37)) (wA).heap.size 37 #[.int .i64 0, .slice none 0 0, .slice none 0 0, .int .i64 0] from Wb.new wA _ _)
    have loh : W2.heap.size ≤ (wA).heap.size := (hqA.out).size
    have outhA : wA.heap.size ≤ (wA).heap.size := (show Below wA.heap.size wA _ from Below.refl _ _).size
    replace oA := Lib.hid (oA.out.below (Below.alloc' (Below.refl _ _) (.cells #[.int .i64 0, .slice none 0 0, .slice none 0 0, .int .i64 0] 37)))
    have hah := Lib.hid (Below.alloc' hqA.out (.cells #[.int .i64 0, .slice none 0 0, .slice none 0 0, .int .i64 0] 37))
    refine hK.out _ _ hah.out (fun _ => ?_)
    clear hK K
    (try simp only [Act.put, List.getElem_toArray, List.getElem_cons_succ, List.getElem_cons_zero, List.setIfInBounds_toArray, List.set_cons_zero, List.set_cons_succ])
    refine wpAnyH_ready (rs := [5, 6]) (by kernel_rfl) (by simp) (AllReadyH.cons rfl (fun K hK => ?_) (AllReadyH.cons rfl (fun K hK => ?_) AllReadyH.nil))
    go_simp
    have inhB := bh.out.inside
    refine (nNormal_any y a b _ _ _ S k G U n _ hsh.out hl2h.out (hSh.out.below (Below.via' B2 hah.out)) hmG hG1.out.1 hG1.out.2 hU1.out.1 hU1.out.2 (hGh.out.below (Below.via' B2 hah.out)) (hUh.out.below (Below.via' B2 hah.out))).mono ?_
    rintro e wB ⟨xB, cB, zB, dB, rfl, hoB, hbB⟩
    have hoB := Lib.hid hoB
    have hqB := Lib.hid (Below.via' hah.out hbB)
    replace bh := Lib.hid (bh.out.kept hbB)
    replace oA := Lib.hid (oA.out.below hbB)
    have oB := hoB
    refine hK.out _ _ hqB.out (fun _ => ?_)
    clear hK K
    (try simp only [Act.put, List.getElem_toArray, List.getElem_cons_succ, List.getElem_cons_zero, List.setIfInBounds_toArray, List.set_cons_zero, List.set_cons_succ])
    refine wpAnyH_ready (rs := [6]) (by kernel_rfl) (by simp) (AllReadyH.cons rfl (fun K hK => ?_) AllReadyH.nil); go_simp
    have bg := Lib.hid (show Wb (wB.alloc (.cells #[.int .i64 0, .slice none 0 0, .slice none 0 0, .int .i64 0] 37)) (wB).heap.size 37 #[.int .i64 0, .slice none 0 0, .slice none 0 0, .int .i64 0] from Wb.new wB _ _)
    have log : W2.heap.size ≤ (wB).heap.size := (hqB.out).size
    have outgA : wA.heap.size ≤ (wB).heap.size := (show Below wA.heap.size wA _ from Below.via' (Below.alloc' (Below.refl _ _) _) hbB).size
    replace oA := Lib.hid (oA.out.below (Below.alloc' (Below.refl _ _) (.cells #[.int .i64 0, .slice none 0 0, .slice none 0 0, .int .i64 0] 37)))
    have outgB : wB.heap.size ≤ (wB).heap.size := (show Below wB.heap.size wB _ from Below.refl _ _).size
    replace oB := Lib.hid (oB.out.below (Below.alloc' (Below.refl _ _) (.cells #[.int .i64 0, .slice none 0 0, .slice none 0 0, .int .i64 0] 37)))
    have inhg := bh.out.inside
    replace bh := Lib.hid (bh.out.kept (Below.alloc' (Below.refl _ _) (.cells #[.int .i64 0, .slice none 0 0, .slice none 0 0, .int .i64 0] 37)))
    have hag := Lib.hid (Below.alloc' hqB.out (.cells #[.int .i64 0, .slice none 0 0, .slice none 0 0, .int .i64 0] 37))
    refine hK.out _ _ hag.out (fun _ => ?_)
    clear hK K
    (try simp only [Act.put, List.getElem_toArray, List.getElem_cons_succ, List.getElem_cons_zero, List.setIfInBounds_toArray, List.set_cons_zero, List.set_cons_succ])
    have hne : (wB).heap.size ≠ (wA).heap.size := (Nat.ne_of_lt (by first | exact inhg | simpa using inhg)).symm
    obtain ⟨Wf, hWf⟩ : ∃ Wf, Wf = (wB.alloc (.cells #[.int .i64 0, .slice none 0 0, .slice none 0 0, .int .i64 0] 37)) := ⟨_, rfl⟩
    have hcf : Below W2.heap.size W2 Wf := by rw [hWf]; exact hag.out
    have fg : Wb Wf (wB).heap.size 37 #[.int .i64 0, .slice none 0 0, .slice none 0 0, .int .i64 0] := by rw [hWf]; exact bg.out
    have fh : Wb Wf (wA).heap.size 37 #[.int .i64 0, .slice none 0 0, .slice none 0 0, .int .i64 0] := by rw [hWf]; exact bh.out
    have eA1 : ∃ lo hi, ((wB).heap.size < lo ∨ hi ≤ (wB).heap.size) ∧ ((wA).heap.size < lo ∨ hi ≤ (wA).heap.size) ∧ OwY ((wB.alloc (.cells #[.int .i64 0, .slice none 0 0, .slice none 0 0, .int .i64 0] 37))) lo hi (.slice xA F.length cA) (.slice zA (nwL S W).length dA) F (nwL S W) := ⟨_, _, Or.inr outgA, Or.inr outhA, oA.out⟩
    obtain ⟨loA, hiA, sgA, shA, pA⟩ := eA1
    rw [← hWf] at pA
    have eB1 : ∃ lo hi, ((wB).heap.size < lo ∨ hi ≤ (wB).heap.size) ∧ ((wA).heap.size < lo ∨ hi ≤ (wA).heap.size) ∧ OwY ((wB.alloc (.cells #[.int .i64 0, .slice none 0 0, .slice none 0 0, .int .i64 0] 37))) lo hi (.slice xB G.length cB) (.slice zB (nwL S U).length dB) G (nwL S U) := ⟨_, _, Or.inr outgB, Or.inl inhB, oB.out⟩
    obtain ⟨loB, hiB, sgB, shB, pB⟩ := eB1
    rw [← hWf] at pB
    rw [← hWf]
    obtain ⟨g, hg⟩ : ∃ g, g = (wB).heap.size := ⟨_, rfl⟩
    obtain ⟨h, hh⟩ : ∃ h, h = (wA).heap.size := ⟨_, rfl⟩
    rw [← hg] at sgA
    rw [← hg] at sgB
    have lg : W2.heap.size ≤ g := by rw [hg]; exact log
    rw [← hh] at shA
    rw [← hh] at shB
    have lh : W2.heap.size ≤ h := by rw [hh]; exact loh
    rw [← hg] at fg hne
    rw [← hh] at fh hne
    (try simp only [drew_sizeN] at hg)
    (try simp only [drew_sizeN] at hh)
    (try simp only [World.size_alloc] at hg)
    (try simp only [World.size_alloc] at hh)
    simp only [← hg]
    try simp only [← hh]
    replace hWf := Lib.hid hWf
    replace hg := Lib.hid hg
    replace hh := Lib.hid hh
    replace fg := Lib.hid fg
    replace fh := Lib.hid fh
    replace pA := Lib.hid pA
    replace pB := Lib.hid pB
    have ya := fg.out.read 0
    have yb := fg.out.read 1
    have yc := fg.out.read 2
    have yd := fg.out.read 3
    have ye := fg.out.free 0
    have yf := fg.out.free 1
    have yg := fg.out.free 2
    have yh := fg.out.free 3
    have yin := fg.out.inside
    refine wpAnyH_ready (rs := [8]) (by kernel_rfl) (by simp) (AllReadyH.cons rfl (fun K hK => ?_) AllReadyH.nil); go_simp
    have g1 : Below W2.heap.size W2 (st4 Wf g l xA F.length cA zA (nwL S W).length dA m) := st4_below hcf lg
    refine hK.out _ _ (by first | exact g1 | (have h0 := g1; rw [← hg.out] at h0; exact h0) | (have h0 := g1; rw [← hh.out] at h0; exact h0)) (fun _ => ?_)
    clear hK K ya yb yc yd ye yf yg yh
    (try simp only [Act.put, List.getElem_toArray, List.getElem_cons_succ, List.getElem_cons_zero, List.setIfInBounds_toArray, List.set_cons_zero, List.set_cons_succ])
    obtain ⟨X1, hX1⟩ : ∃ X1, X1 = (st4 Wf g l xA F.length cA zA (nwL S W).length dA m) := ⟨_, rfl⟩
    have hX1b := hX1
    unfold st4 at hX1b
    rw [← hX1b]
    rw [← hX1] at g1
    have f3 : Wb X1 h 37 #[.int .i64 0, .slice none 0 0, .slice none 0 0, .int .i64 0] := by rw [hX1]; exact st4_far fh.out hne.symm
    have f4 : Wb X1 g 37 #[.int .i64 l, .slice xA F.length cA, .slice zA (nwL S W).length dA, .int .i64 m] := by rw [hX1]; exact st4_wb fg.out
    have oA1 := st4_own (g := g) (l := l) (x := xA) (n := F.length) (c := cA) (z := zA) (k := (nwL S W).length) (d := dA) (m := m) pA.out sgA
    rw [← hX1] at oA1
    have oB1 := st4_own (g := g) (l := l) (x := xA) (n := F.length) (c := cA) (z := zA) (k := (nwL S W).length) (d := dA) (m := m) pB.out sgB
    rw [← hX1] at oB1
    replace hX1 := Lib.hid hX1
    replace hX1b := Lib.hid hX1b
    replace f3 := Lib.hid f3
    replace f4 := Lib.hid f4
    replace oA1 := Lib.hid oA1
    replace oB1 := Lib.hid oB1
    have ya := f3.out.read 0
    have yb := f3.out.read 1
    have yc := f3.out.read 2
    have yd := f3.out.read 3
    have ye := f3.out.free 0
    have yf := f3.out.free 1
    have yg := f3.out.free 2
    have yh := f3.out.free 3
    have yin2 := f3.out.inside
    refine wpAnyH_ready (rs := [9]) (by kernel_rfl) (by simp) (AllReadyH.cons rfl (fun K hK => ?_) AllReadyH.nil); go_simp
    have g2 : Below W2.heap.size W2 (st4 X1 h k xB G.length cB zB (nwL S U).length dB n) := st4_below g1 lh
    refine hK.out _ _ (by first | exact g2 | (have h0 := g2; rw [← hg.out] at h0; exact h0) | (have h0 := g2; rw [← hh.out] at h0; exact h0)) (fun _ => ?_)
    clear hK K ya yb yc yd ye yf yg yh
    (try simp only [Act.put, List.getElem_toArray, List.getElem_cons_succ, List.getElem_cons_zero, List.setIfInBounds_toArray, List.set_cons_zero, List.set_cons_succ])
    refine wpAnyH_done (by kernel_rfl) ?_ _
    go_wp2_with fail
    go_meet
    exact ⟨g, h, xA, cA, zA, dA, xB, cB, zB, dB, rfl, rfl, tq_of_wbN (st4_far f4.out hne), tq_of_wbN (st4_wb f3.out), (st4_own oA1.out shA).rd, (st4_own oB1.out shB).rd, Below.via' B2 g2⟩
    go_simp
    have bg := Lib.hid (show Wb ((wA.alloc (.cells #[.int .i64 0, .slice none 0 0, .slice none 0 0, .int .i64 0] 37)).alloc (.cells #[.int .i64 0, .slice none 0 0, .slice none 0 0, .int .i64 0] 37)) ((wA.alloc (.cells #[.int .i64 0, .slice none 0 0, .slice none 0 0, .int .i64 0] 37))).heap.size 37 #[.int .i64 0, .slice none 0 0, .slice none 0 0, .int .i64 0] from Wb.new (wA.alloc (.cells #[.int .i64 0, .slice none 0 0, .slice none 0 0, .int .i64 0] 37)) _ _)
    have log : W2.heap.size ≤ ((wA.alloc (.cells #[.int .i64 0, .slice none 0 0, .slice none 0 0, .int .i64 0] 37))).heap.size := (hah.out).size
    have outgA : wA.heap.size ≤ ((wA.alloc (.cells #[.int .i64 0, .slice none 0 0, .slice none 0 0, .int .i64 0] 37))).heap.size := (show Below wA.heap.size wA _ from Below.alloc' (Below.refl _ _) _).size
    replace oA := Lib.hid (oA.out.below (Below.alloc' (Below.refl _ _) (.cells #[.int .i64 0, .slice none 0 0, .slice none 0 0, .int .i64 0] 37)))
    have inhg := bh.out.inside
    replace bh := Lib.hid (bh.out.kept (Below.alloc' (Below.refl _ _) (.cells #[.int .i64 0, .slice none 0 0, .slice none 0 0, .int .i64 0] 37)))
    have hag := Lib.hid (Below.alloc' hah.out (.cells #[.int .i64 0, .slice none 0 0, .slice none 0 0, .int .i64 0] 37))
    refine hK.out _ _ hag.out (fun _ => ?_)
    clear hK K
    (try simp only [Act.put, List.getElem_toArray, List.getElem_cons_succ, List.getElem_cons_zero, List.setIfInBounds_toArray, List.set_cons_zero, List.set_cons_succ])
    refine wpAnyH_ready (rs := [5]) (by kernel_rfl) (by simp) (AllReadyH.cons rfl (fun K hK => ?_) AllReadyH.nil); go_simp
    have inhB := bh.out.inside
    have ingB := bg.out.inside
    refine (nNormal_any y a b _ _ _ S k G U n _ hsh.out hl2h.out (hSh.out.below (Below.via' B2 hag.out)) hmG hG1.out.1 hG1.out.2 hU1.out.1 hU1.out.2 (hGh.out.below (Below.via' B2 hag.out)) (hUh.out.below (Below.via' B2 hag.out))).mono ?_
    rintro e wB ⟨xB, cB, zB, dB, rfl, hoB, hbB⟩
    have hoB := Lib.hid hoB
    have hqB := Lib.hid (Below.via' hag.out hbB)
    replace bh := Lib.hid (bh.out.kept hbB)
    replace bg := Lib.hid (bg.out.kept hbB)
    replace oA := Lib.hid (oA.out.below hbB)
    have oB := hoB
    refine hK.out _ _ hqB.out (fun _ => ?_)
    clear hK K
    (try simp only [Act.put, List.getElem_toArray, List.getElem_cons_succ, List.getElem_cons_zero, List.setIfInBounds_toArray, List.set_cons_zero, List.set_cons_succ])
    have hne : ((wA.alloc (.cells #[.int .i64 0, .slice none 0 0, .slice none 0 0, .int .i64 0] 37))).heap.size ≠ (wA).heap.size := (Nat.ne_of_lt (by first | exact inhg | simpa using inhg)).symm
    obtain ⟨Wf, hWf⟩ : ∃ Wf, Wf = wB := ⟨_, rfl⟩
    have hcf : Below W2.heap.size W2 Wf := by rw [hWf]; exact hqB.out
    have fg : Wb Wf ((wA.alloc (.cells #[.int .i64 0, .slice none 0 0, .slice none 0 0, .int .i64 0] 37))).heap.size 37 #[.int .i64 0, .slice none 0 0, .slice none 0 0, .int .i64 0] := by rw [hWf]; exact bg.out
    have fh : Wb Wf (wA).heap.size 37 #[.int .i64 0, .slice none 0 0, .slice none 0 0, .int .i64 0] := by rw [hWf]; exact bh.out
    have eA1 : ∃ lo hi, (((wA.alloc (.cells #[.int .i64 0, .slice none 0 0, .slice none 0 0, .int .i64 0] 37))).heap.size < lo ∨ hi ≤ ((wA.alloc (.cells #[.int .i64 0, .slice none 0 0, .slice none 0 0, .int .i64 0] 37))).heap.size) ∧ ((wA).heap.size < lo ∨ hi ≤ (wA).heap.size) ∧ OwY (wB) lo hi (.slice xA F.length cA) (.slice zA (nwL S W).length dA) F (nwL S W) := ⟨_, _, Or.inr outgA, Or.inr outhA, oA.out⟩
    obtain ⟨loA, hiA, sgA, shA, pA⟩ := eA1
    rw [← hWf] at pA
    have eB1 : ∃ lo hi, (((wA.alloc (.cells #[.int .i64 0, .slice none 0 0, .slice none 0 0, .int .i64 0] 37))).heap.size < lo ∨ hi ≤ ((wA.alloc (.cells #[.int .i64 0, .slice none 0 0, .slice none 0 0, .int .i64 0] 37))).heap.size) ∧ ((wA).heap.size < lo ∨ hi ≤ (wA).heap.size) ∧ OwY (wB) lo hi (.slice xB G.length cB) (.slice zB (nwL S U).length dB) G (nwL S U) := ⟨_, _, Or.inl ingB, Or.inl inhB, oB.out⟩
    obtain ⟨loB, hiB, sgB, shB, pB⟩ := eB1
    rw [← hWf] at pB
    rw [← hWf]
    obtain ⟨g, hg⟩ : ∃ g, g = ((wA.alloc (.cells #[.int .i64 0, .slice none 0 0, .slice none 0 0, .int .i64 0] 37))).heap.size := ⟨_, rfl⟩
    obtain ⟨h, hh⟩ : ∃ h, h = (wA).heap.size := ⟨_, rfl⟩
    rw [← hg] at sgA
    rw [← hg] at sgB
    have lg : W2.heap.size ≤ g := by rw [hg]; exact log
    rw [← hh] at shA
    rw [← hh] at shB
    have lh : W2.heap.size ≤ h := by rw [hh]; exact loh
    rw [← hg] at fg hne
    rw [← hh] at fh hne
    (try simp only [drew_sizeN] at hg)
    (try simp only [drew_sizeN] at hh)
    (try simp only [World.size_alloc] at hg)
    (try simp only [World.size_alloc] at hh)
    simp only [← hg]
    try simp only [← hh]
    replace hWf := Lib.hid hWf
    replace hg := Lib.hid hg
    replace hh := Lib.hid hh
    replace fg := Lib.hid fg
    replace fh := Lib.hid fh
    replace pA := Lib.hid pA
    replace pB := Lib.hid pB
    have ya := fg.out.read 0
    have yb := fg.out.read 1
    have yc := fg.out.read 2
    have yd := fg.out.read 3
    have ye := fg.out.free 0
    have yf := fg.out.free 1
    have yg := fg.out.free 2
    have yh := fg.out.free 3
    have yin := fg.out.inside
    refine wpAnyH_ready (rs := [8]) (by kernel_rfl) (by simp) (AllReadyH.cons rfl (fun K hK => ?_) AllReadyH.nil); go_simp
    have g1 : Below W2.heap.size W2 (st4 Wf g l xA F.length cA zA (nwL S W).length dA m) := st4_below hcf lg
    refine hK.out _ _ (by first | exact g1 | (have h0 := g1; rw [← hg.out] at h0; exact h0) | (have h0 := g1; rw [← hh.out] at h0; exact h0)) (fun _ => ?_)
    clear hK K ya yb yc yd ye yf yg yh
    (try simp only [Act.put, List.getElem_toArray, List.getElem_cons_succ, List.getElem_cons_zero, List.setIfInBounds_toArray, List.set_cons_zero, List.set_cons_succ])
    obtain ⟨X1, hX1⟩ : ∃ X1, X1 = (st4 Wf g l xA F.length cA zA (nwL S W).length dA m) := ⟨_, rfl⟩
    have hX1b := hX1
    unfold st4 at hX1b
    rw [← hX1b]
    rw [← hX1] at g1
    have f3 : Wb X1 h 37 #[.int .i64 0, .slice none 0 0, .slice none 0 0, .int .i64 0] := by rw [hX1]; exact st4_far fh.out hne.symm
    have f4 : Wb X1 g 37 #[.int .i64 l, .slice xA F.length cA, .slice zA (nwL S W).length dA, .int .i64 m] := by rw [hX1]; exact st4_wb fg.out
    have oA1 := st4_own (g := g) (l := l) (x := xA) (n := F.length) (c := cA) (z := zA) (k := (nwL S W).length) (d := dA) (m := m) pA.out sgA
    rw [← hX1] at oA1
    have oB1 := st4_own (g := g) (l := l) (x := xA) (n := F.length) (c := cA) (z := zA) (k := (nwL S W).length) (d := dA) (m := m) pB.out sgB
    rw [← hX1] at oB1
    replace hX1 := Lib.hid hX1
    replace hX1b := Lib.hid hX1b
    replace f3 := Lib.hid f3
    replace f4 := Lib.hid f4
    replace oA1 := Lib.hid oA1
    replace oB1 := Lib.hid oB1
    have ya := f3.out.read 0
    have yb := f3.out.read 1
    have yc := f3.out.read 2
    have yd := f3.out.read 3
    have ye := f3.out.free 0
    have yf := f3.out.free 1
    have yg := f3.out.free 2
    have yh := f3.out.free 3
    have yin2 := f3.out.inside
    refine wpAnyH_ready (rs := [9]) (by kernel_rfl) (by simp) (AllReadyH.cons rfl (fun K hK => ?_) AllReadyH.nil); go_simp
    have g2 : Below W2.heap.size W2 (st4 X1 h k xB G.length cB zB (nwL S U).length dB n) := st4_below g1 lh
    refine hK.out _ _ (by first | exact g2 | (have h0 := g2; rw [← hg.out] at h0; exact h0) | (have h0 := g2; rw [← hh.out] at h0; exact h0)) (fun _ => ?_)
    clear hK K ya yb yc yd ye yf yg yh
    (try simp only [Act.put, List.getElem_toArray, List.getElem_cons_succ, List.getElem_cons_zero, List.setIfInBounds_toArray, List.set_cons_zero, List.set_cons_succ])
    refine wpAnyH_done (by kernel_rfl) ?_ _
    go_wp2_with fail
    go_meet
    exact ⟨g, h, xA, cA, zA, dA, xB, cB, zB, dB, rfl, rfl, tq_of_wbN (st4_far f4.out hne), tq_of_wbN (st4_wb f3.out), (st4_own oA1.out shA).rd, (st4_own oB1.out shB).rd, Below.via' B2 g2⟩
    go_simp
    have bg := Lib.hid (show Wb (W2.drew.alloc (.cells #[.int .i64 0, .slice none 0 0, .slice none 0 0, .int .i64 0] 37)) (W2).heap.size 37 #[.int .i64 0, .slice none 0 0, .slice none 0 0, .int .i64 0] from Wb.new W2.drew _ _)
    have log : W2.heap.size ≤ (W2).heap.size := (hH.out).size
    have hag := Lib.hid (Below.alloc' hH.out (.cells #[.int .i64 0, .slice none 0 0, .slice none 0 0, .int .i64 0] 37))
    refine hK.out _ _ hag.out (fun _ => ?_)
    clear hK K
    (try simp only [Act.put, List.getElem_toArray, List.getElem_cons_succ, List.getElem_cons_zero, List.setIfInBounds_toArray, List.set_cons_zero, List.set_cons_succ])
    refine wpAnyH_ready (rs := [2, 7]) (by kernel_rfl) (by simp) (AllReadyH.cons rfl (fun K hK => ?_) (AllReadyH.cons rfl (fun K hK => ?_) AllReadyH.nil))
    go_simp
    have ingA := bg.out.inside
    refine (nNormal_any y x z _ _ _ S l F W m _ hsh.out hlh.out (hSh.out.below (Below.via' B2 hag.out)) hmF hF1.out.1 hF1.out.2 hW1.out.1 hW1.out.2 (hFh.out.below (Below.via' B2 hag.out)) (hWh.out.below (Below.via' B2 hag.out))).mono ?_
    rintro e wA ⟨xA, cA, zA, dA, rfl, hoA, hbA⟩
    have hoA := Lib.hid hoA
    have hqA := Lib.hid (Below.via' hag.out hbA)
    replace bg := Lib.hid (bg.out.kept hbA)
    have oA := hoA
    refine hK.out _ _ hqA.out (fun _ => ?_)
    clear hK K
    (try simp only [Act.put, List.getElem_toArray, List.getElem_cons_succ, List.getElem_cons_zero, List.setIfInBounds_toArray, List.set_cons_zero, List.set_cons_succ])
    refine wpAnyH_ready (rs := [5, 7]) (by kernel_rfl) (by simp) (AllReadyH.cons rfl (fun K hK => ?_) (AllReadyH.cons rfl (fun K hK => ?_) AllReadyH.nil))
    go_simp
    have ingB := bg.out.inside
    refine (nNormal_any y a b _ _ _ S k G U n _ hsh.out hl2h.out (hSh.out.below (Below.via' B2 hqA.out)) hmG hG1.out.1 hG1.out.2 hU1.out.1 hU1.out.2 (hGh.out.below (Below.via' B2 hqA.out)) (hUh.out.below (Below.via' B2 hqA.out))).mono ?_
    rintro e wB ⟨xB, cB, zB, dB, rfl, hoB, hbB⟩
    have hoB := Lib.hid hoB
    have hqB := Lib.hid (Below.via' hqA.out hbB)
    replace bg := Lib.hid (bg.out.kept hbB)
    replace oA := Lib.hid (oA.out.below hbB)
    have oB := hoB
    refine hK.out _ _ hqB.out (fun _ => ?_)
    clear hK K
    (try simp only [Act.put, List.getElem_toArray, List.getElem_cons_succ, List.getElem_cons_zero, List.setIfInBounds_toArray, List.set_cons_zero, List.set_cons_succ])
    refine wpAnyH_ready (rs := [7]) (by kernel_rfl) (by simp) (AllReadyH.cons rfl (fun K hK => ?_) AllReadyH.nil); go_simp
    have bh := Lib.hid (show Wb (wB.alloc (.cells #[.int .i64 0, .slice none 0 0, .slice none 0 0, .int .i64 0] 37)) (wB).heap.size 37 #[.int .i64 0, .slice none 0 0, .slice none 0 0, .int .i64 0] from Wb.new wB _ _)
    have loh : W2.heap.size ≤ (wB).heap.size := (hqB.out).size
    have outhA : wA.heap.size ≤ (wB).heap.size := (show Below wA.heap.size wA _ from Below.via' (Below.refl _ _) hbB).size
    replace oA := Lib.hid (oA.out.below (Below.alloc' (Below.refl _ _) (.cells #[.int .i64 0, .slice none 0 0, .slice none 0 0, .int .i64 0] 37)))
    have outhB : wB.heap.size ≤ (wB).heap.size := (show Below wB.heap.size wB _ from Below.refl _ _).size
    replace oB := Lib.hid (oB.out.below (Below.alloc' (Below.refl _ _) (.cells #[.int .i64 0, .slice none 0 0, .slice none 0 0, .int .i64 0] 37)))
    have ingh := bg.out.inside
    replace bg := Lib.hid (bg.out.kept (Below.alloc' (Below.refl _ _) (.cells #[.int .i64 0, .slice none 0 0, .slice none 0 0, .int .i64 0] 37)))
    have hah := Lib.hid (Below.alloc' hqB.out (.cells #[.int .i64 0, .slice none 0 0, .slice none 0 0, .int .i64 0] 37))
    refine hK.out _ _ hah.out (fun _ => ?_)
    clear hK K
    (try simp only [Act.put, List.getElem_toArray, List.getElem_cons_succ, List.getElem_cons_zero, List.setIfInBounds_toArray, List.set_cons_zero, List.set_cons_succ])
    have hne : (W2).heap.size ≠ (wB).heap.size := Nat.ne_of_lt (by first | exact ingh | simpa using ingh)
    obtain ⟨Wf, hWf⟩ : ∃ Wf, Wf = (wB.alloc (.cells #[.int .i64 0, .slice none 0 0, .slice none 0 0, .int .i64 0] 37)) := ⟨_, rfl⟩
    have hcf : Below W2.heap.size W2 Wf := by rw [hWf]; exact hah.out
    have fg : Wb Wf (W2).heap.size 37 #[.int .i64 0, .slice none 0 0, .slice none 0 0, .int .i64 0] := by rw [hWf]; exact bg.out
    have fh : Wb Wf (wB).heap.size 37 #[.int .i64 0, .slice none 0 0, .slice none 0 0, .int .i64 0] := by rw [hWf]; exact bh.out
    have eA1 : ∃ lo hi, ((W2).heap.size < lo ∨ hi ≤ (W2).heap.size) ∧ ((wB).heap.size < lo ∨ hi ≤ (wB).heap.size) ∧ OwY ((wB.alloc (.cells #[.int .i64 0, .slice none 0 0, .slice none 0 0, .int .i64 0] 37))) lo hi (.slice xA F.length cA) (.slice zA (nwL S W).length dA) F (nwL S W) := ⟨_, _, Or.inl ingA, Or.inr outhA, oA.out⟩
    obtain ⟨loA, hiA, sgA, shA, pA⟩ := eA1
    rw [← hWf] at pA
    have eB1 : ∃ lo hi, ((W2).heap.size < lo ∨ hi ≤ (W2).heap.size) ∧ ((wB).heap.size < lo ∨ hi ≤ (wB).heap.size) ∧ OwY ((wB.alloc (.cells #[.int .i64 0, .slice none 0 0, .slice none 0 0, .int .i64 0] 37))) lo hi (.slice xB G.length cB) (.slice zB (nwL S U).length dB) G (nwL S U) := ⟨_, _, Or.inl ingB, Or.inr outhB, oB.out⟩
    obtain ⟨loB, hiB, sgB, shB, pB⟩ := eB1
    rw [← hWf] at pB
    rw [← hWf]
    obtain ⟨g, hg⟩ : ∃ g, g = (W2).heap.size := ⟨_, rfl⟩
    obtain ⟨h, hh⟩ : ∃ h, h = (wB).heap.size := ⟨_, rfl⟩
    rw [← hg] at sgA
    rw [← hg] at sgB
    have lg : W2.heap.size ≤ g := by rw [hg]; exact log
    rw [← hh] at shA
    rw [← hh] at shB
    have lh : W2.heap.size ≤ h := by rw [hh]; exact loh
    rw [← hg] at fg hne
    rw [← hh] at fh hne
    (try simp only [drew_sizeN] at hg)
    (try simp only [drew_sizeN] at hh)
    (try simp only [World.size_alloc] at hg)
    (try simp only [World.size_alloc] at hh)
    simp only [← hh]
    try simp only [← hg]
    replace hWf := Lib.hid hWf
    replace hg := Lib.hid hg
    replace hh := Lib.hid hh
    replace fg := Lib.hid fg
    replace fh := Lib.hid fh
    replace pA := Lib.hid pA
    replace pB := Lib.hid pB
    have ya := fg.out.read 0
    have yb := fg.out.read 1
    have yc := fg.out.read 2
    have yd := fg.out.read 3
    have ye := fg.out.free 0
    have yf := fg.out.free 1
    have yg := fg.out.free 2
    have yh := fg.out.free 3
    have yin := fg.out.inside
    refine wpAnyH_ready (rs := [8]) (by kernel_rfl) (by simp) (AllReadyH.cons rfl (fun K hK => ?_) AllReadyH.nil); go_simp
    have g1 : Below W2.heap.size W2 (st4 Wf g l xA F.length cA zA (nwL S W).length dA m) := st4_below hcf lg
    refine hK.out _ _ (by first | exact g1 | (have h0 := g1; rw [← hg.out] at h0; exact h0) | (have h0 := g1; rw [← hh.out] at h0; exact h0)) (fun _ => ?_)
    clear hK K ya yb yc yd ye yf yg yh
    (try simp only [Act.put, List.getElem_toArray, List.getElem_cons_succ, List.getElem_cons_zero, List.setIfInBounds_toArray, List.set_cons_zero, List.set_cons_succ])
    obtain ⟨X1, hX1⟩ : ∃ X1, X1 = (st4 Wf g l xA F.length cA zA (nwL S W).length dA m) := ⟨_, rfl⟩
    have hX1b := hX1
    unfold st4 at hX1b
    rw [← hX1b]
    rw [← hX1] at g1
    have f3 : Wb X1 h 37 #[.int .i64 0, .slice none 0 0, .slice none 0 0, .int .i64 0] := by rw [hX1]; exact st4_far fh.out hne.symm
    have f4 : Wb X1 g 37 #[.int .i64 l, .slice xA F.length cA, .slice zA (nwL S W).length dA, .int .i64 m] := by rw [hX1]; exact st4_wb fg.out
    have oA1 := st4_own (g := g) (l := l) (x := xA) (n := F.length) (c := cA) (z := zA) (k := (nwL S W).length) (d := dA) (m := m) pA.out sgA
    rw [← hX1] at oA1
    have oB1 := st4_own (g := g) (l := l) (x := xA) (n := F.length) (c := cA) (z := zA) (k := (nwL S W).length) (d := dA) (m := m) pB.out sgB
    rw [← hX1] at oB1
    replace hX1 := Lib.hid hX1
    replace hX1b := Lib.hid hX1b
    replace f3 := Lib.hid f3
    replace f4 := Lib.hid f4
    replace oA1 := Lib.hid oA1
    replace oB1 := Lib.hid oB1
    have ya := f3.out.read 0
    have yb := f3.out.read 1
    have yc := f3.out.read 2
    have yd := f3.out.read 3
    have ye := f3.out.free 0
    have yf := f3.out.free 1
    have yg := f3.out.free 2
    have yh := f3.out.free 3
    have yin2 := f3.out.inside
    refine wpAnyH_ready (rs := [9]) (by kernel_rfl) (by simp) (AllReadyH.cons rfl (fun K hK => ?_) AllReadyH.nil); go_simp
    have g2 : Below W2.heap.size W2 (st4 X1 h k xB G.length cB zB (nwL S U).length dB n) := st4_below g1 lh
    refine hK.out _ _ (by first | exact g2 | (have h0 := g2; rw [← hg.out] at h0; exact h0) | (have h0 := g2; rw [← hh.out] at h0; exact h0)) (fun _ => ?_)
    clear hK K ya yb yc yd ye yf yg yh
    (try simp only [Act.put, List.getElem_toArray, List.getElem_cons_succ, List.getElem_cons_zero, List.setIfInBounds_toArray, List.set_cons_zero, List.set_cons_succ])
    refine wpAnyH_done (by kernel_rfl) ?_ _
    go_wp2_with fail
    go_meet
    exact ⟨g, h, xA, cA, zA, dA, xB, cB, zB, dB, rfl, rfl, tq_of_wbN (st4_far f4.out hne), tq_of_wbN (st4_wb f3.out), (st4_own oA1.out shA).rd, (st4_own oB1.out shB).rd, Below.via' B2 g2⟩
    go_simp
    have bh := Lib.hid (show Wb (wA.alloc (.cells #[.int .i64 0, .slice none 0 0, .slice none 0 0, .int .i64 0] 37)) (wA).heap.size 37 #[.int .i64 0, .slice none 0 0, .slice none 0 0, .int .i64 0] from Wb.new wA _ _)
    have loh : W2.heap.size ≤ (wA).heap.size := (hqA.out).size
    have outhA : wA.heap.size ≤ (wA).heap.size := (show Below wA.heap.size wA _ from Below.refl _ _).size
    replace oA := Lib.hid (oA.out.below (Below.alloc' (Below.refl _ _) (.cells #[.int .i64 0, .slice none 0 0, .slice none 0 0, .int .i64 0] 37)))
    have ingh := bg.out.inside
    replace bg := Lib.hid (bg.out.kept (Below.alloc' (Below.refl _ _) (.cells #[.int .i64 0, .slice none 0 0, .slice none 0 0, .int .i64 0] 37)))
    have hah := Lib.hid (Below.alloc' hqA.out (.cells #[.int .i64 0, .slice none 0 0, .slice none 0 0, .int .i64 0] 37))
    refine hK.out _ _ hah.out (fun _ => ?_)
    clear hK K
    (try simp only [Act.put, List.getElem_toArray, List.getElem_cons_succ, List.getElem_cons_zero, List.setIfInBounds_toArray, List.set_cons_zero, List.set_cons_succ])
    refine wpAnyH_ready (rs := [5]) (by kernel_rfl) (by simp) (AllReadyH.cons rfl (fun K hK => ?_) AllReadyH.nil); go_simp
    have ingB := bg.out.inside
    have inhB := bh.out.inside
    refine (nNormal_any y a b _ _ _ S k G U n _ hsh.out hl2h.out (hSh.out.below (Below.via' B2 hah.out)) hmG hG1.out.1 hG1.out.2 hU1.out.1 hU1.out.2 (hGh.out.below (Below.via' B2 hah.out)) (hUh.out.below (Below.via' B2 hah.out))).mono ?_
    rintro e wB ⟨xB, cB, zB, dB, rfl, hoB, hbB⟩
    have hoB := Lib.hid hoB
    have hqB := Lib.hid (Below.via' hah.out hbB)
    replace bg := Lib.hid (bg.out.kept hbB)
    replace bh := Lib.hid (bh.out.kept hbB)
    replace oA := Lib.hid (oA.out.below hbB)
    have oB := hoB
    refine hK.out _ _ hqB.out (fun _ => ?_)
    clear hK K
    (try simp only [Act.put, List.getElem_toArray, List.getElem_cons_succ, List.getElem_cons_zero, List.setIfInBounds_toArray, List.set_cons_zero, List.set_cons_succ])
    have hne : (W2).heap.size ≠ (wA).heap.size := Nat.ne_of_lt (by first | exact ingh | simpa using ingh)
    obtain ⟨Wf, hWf⟩ : ∃ Wf, Wf = wB := ⟨_, rfl⟩
    have hcf : Below W2.heap.size W2 Wf := by rw [hWf]; exact hqB.out
    have fg : Wb Wf (W2).heap.size 37 #[.int .i64 0, .slice none 0 0, .slice none 0 0, .int .i64 0] := by rw [hWf]; exact bg.out
    have fh : Wb Wf (wA).heap.size 37 #[.int .i64 0, .slice none 0 0, .slice none 0 0, .int .i64 0] := by rw [hWf]; exact bh.out
    have eA1 : ∃ lo hi, ((W2).heap.size < lo ∨ hi ≤ (W2).heap.size) ∧ ((wA).heap.size < lo ∨ hi ≤ (wA).heap.size) ∧ OwY (wB) lo hi (.slice xA F.length cA) (.slice zA (nwL S W).length dA) F (nwL S W) := ⟨_, _, Or.inl ingA, Or.inr outhA, oA.out⟩
    obtain ⟨loA, hiA, sgA, shA, pA⟩ := eA1
    rw [← hWf] at pA
    have eB1 : ∃ lo hi, ((W2).heap.size < lo ∨ hi ≤ (W2).heap.size) ∧ ((wA).heap.size < lo ∨ hi ≤ (wA).heap.size) ∧ OwY (wB) lo hi (.slice xB G.length cB) (.slice zB (nwL S U).length dB) G (nwL S U) := ⟨_, _, Or.inl ingB, Or.inl inhB, oB.out⟩
    obtain ⟨loB, hiB, sgB, shB, pB⟩ := eB1
    rw [← hWf] at pB
    rw [← hWf]
    obtain ⟨g, hg⟩ : ∃ g, g = (W2).heap.size := ⟨_, rfl⟩
    obtain ⟨h, hh⟩ : ∃ h, h = (wA).heap.size := ⟨_, rfl⟩
    rw [← hg] at sgA
    rw [← hg] at sgB
    have lg : W2.heap.size ≤ g := by rw [hg]; exact log
    rw [← hh] at shA
    rw [← hh] at shB
    have lh : W2.heap.size ≤ h := by rw [hh]; exact loh
    rw [← hg] at fg hne
    rw [← hh] at fh hne
    (try simp only [drew_sizeN] at hg)
    (try simp only [drew_sizeN] at hh)
    (try simp only [World.size_alloc] at hg)
    (try simp only [World.size_alloc] at hh)
    simp only [← hh]
    try simp only [← hg]
    replace hWf := Lib.hid hWf
    replace hg := Lib.hid hg
    replace hh := Lib.hid hh
    replace fg := Lib.hid fg
    replace fh := Lib.hid fh
    replace pA := Lib.hid pA
    replace pB := Lib.hid pB
    have ya := fg.out.read 0
    have yb := fg.out.read 1
    have yc := fg.out.read 2
    have yd := fg.out.read 3
    have ye := fg.out.free 0
    have yf := fg.out.free 1
    have yg := fg.out.free 2
    have yh := fg.out.free 3
    have yin := fg.out.inside
    refine wpAnyH_ready (rs := [8]) (by kernel_rfl) (by simp) (AllReadyH.cons rfl (fun K hK => ?_) AllReadyH.nil); go_simp
    have g1 : Below W2.heap.size W2 (st4 Wf g l xA F.length cA zA (nwL S W).length dA m) := st4_below hcf lg
    refine hK.out _ _ (by first | exact g1 | (have h0 := g1; rw [← hg.out] at h0; exact h0) | (have h0 := g1; rw [← hh.out] at h0; exact h0)) (fun _ => ?_)
    clear hK K ya yb yc yd ye yf yg yh
    (try simp only [Act.put, List.getElem_toArray, List.getElem_cons_succ, List.getElem_cons_zero, List.setIfInBounds_toArray, List.set_cons_zero, List.set_cons_succ])
    obtain ⟨X1, hX1⟩ : ∃ X1, X1 = (st4 Wf g l xA F.length cA zA (nwL S W).length dA m) := ⟨_, rfl⟩
    have hX1b := hX1
    unfold st4 at hX1b
    rw [← hX1b]
    rw [← hX1] at g1
    have f3 : Wb X1 h 37 #[.int .i64 0, .slice none 0 0, .slice none 0 0, .int .i64 0] := by rw [hX1]; exact st4_far fh.out hne.symm
    have f4 : Wb X1 g 37 #[.int .i64 l, .slice xA F.length cA, .slice zA (nwL S W).length dA, .int .i64 m] := by rw [hX1]; exact st4_wb fg.out
    have oA1 := st4_own (g := g) (l := l) (x := xA) (n := F.length) (c := cA) (z := zA) (k := (nwL S W).length) (d := dA) (m := m) pA.out sgA
    rw [← hX1] at oA1
    have oB1 := st4_own (g := g) (l := l) (x := xA) (n := F.length) (c := cA) (z := zA) (k := (nwL S W).length) (d := dA) (m := m) pB.out sgB
    rw [← hX1] at oB1
    replace hX1 := Lib.hid hX1
    replace hX1b := Lib.hid hX1b
    replace f3 := Lib.hid f3
    replace f4 := Lib.hid f4
    replace oA1 := Lib.hid oA1
    replace oB1 := Lib.hid oB1
    have ya := f3.out.read 0
    have yb := f3.out.read 1
    have yc := f3.out.read 2
    have yd := f3.out.read 3
    have ye := f3.out.free 0
    have yf := f3.out.free 1
    have yg := f3.out.free 2
    have yh := f3.out.free 3
    have yin2 := f3.out.inside
    refine wpAnyH_ready (rs := [9]) (by kernel_rfl) (by simp) (AllReadyH.cons rfl (fun K hK => ?_) AllReadyH.nil); go_simp
    have g2 : Below W2.heap.size W2 (st4 X1 h k xB G.length cB zB (nwL S U).length dB n) := st4_below g1 lh
    refine hK.out _ _ (by first | exact g2 | (have h0 := g2; rw [← hg.out] at h0; exact h0) | (have h0 := g2; rw [← hh.out] at h0; exact h0)) (fun _ => ?_)
    clear hK K ya yb yc yd ye yf yg yh
    (try simp only [Act.put, List.getElem_toArray, List.getElem_cons_succ, List.getElem_cons_zero, List.setIfInBounds_toArray, List.set_cons_zero, List.set_cons_succ])
    refine wpAnyH_done (by kernel_rfl) ?_ _
    go_wp2_with fail
    go_meet
    exact ⟨g, h, xA, cA, zA, dA, xB, cB, zB, dB, rfl, rfl, tq_of_wbN (st4_far f4.out hne), tq_of_wbN (st4_wb f3.out), (st4_own oA1.out shA).rd, (st4_own oB1.out shB).rd, Below.via' B2 g2⟩
    go_simp
    have bh := Lib.hid (show Wb ((W2.drew.alloc (.cells #[.int .i64 0, .slice none 0 0, .slice none 0 0, .int .i64 0] 37)).alloc (.cells #[.int .i64 0, .slice none 0 0, .slice none 0 0, .int .i64 0] 37)) ((W2.alloc (.cells #[.int .i64 0, .slice none 0 0, .slice none 0 0, .int .i64 0] 37))).heap.size 37 #[.int .i64 0, .slice none 0 0, .slice none 0 0, .int .i64 0] from Wb.new (W2.drew.alloc (.cells #[.int .i64 0, .slice none 0 0, .slice none 0 0, .int .i64 0] 37)) _ _)
    have loh : W2.heap.size ≤ ((W2.alloc (.cells #[.int .i64 0, .slice none 0 0, .slice none 0 0, .int .i64 0] 37))).heap.size := (hag.out).size
    have ingh := bg.out.inside
    replace bg := Lib.hid (bg.out.kept (Below.alloc' (Below.refl _ _) (.cells #[.int .i64 0, .slice none 0 0, .slice none 0 0, .int .i64 0] 37)))
    have hah := Lib.hid (Below.alloc' hag.out (.cells #[.int .i64 0, .slice none 0 0, .slice none 0 0, .int .i64 0] 37))
    refine hK.out _ _ hah.out (fun _ => ?_)
    clear hK K
    (try simp only [Act.put, List.getElem_toArray, List.getElem_cons_succ, List.getElem_cons_zero, List.setIfInBounds_toArray, List.set_cons_zero, List.set_cons_succ])
    refine wpAnyH_ready (rs := [2]) (by kernel_rfl) (by simp) (AllReadyH.cons rfl (fun K hK => ?_) AllReadyH.nil); go_simp
    have ingA := bg.out.inside
    have inhA := bh.out.inside
    refine (nNormal_any y x z _ _ _ S l F W m _ hsh.out hlh.out (hSh.out.below (Below.via' B2 hah.out)) hmF hF1.out.1 hF1.out.2 hW1.out.1 hW1.out.2 (hFh.out.below (Below.via' B2 hah.out)) (hWh.out.below (Below.via' B2 hah.out))).mono ?_
    rintro e wA ⟨xA, cA, zA, dA, rfl, hoA, hbA⟩
    have hoA := Lib.hid hoA
    have hqA := Lib.hid (Below.via' hah.out hbA)
    replace bg := Lib.hid (bg.out.kept hbA)
    replace bh := Lib.hid (bh.out.kept hbA)
    have oA := hoA
    refine hK.out _ _ hqA.out (fun _ => ?_)
    clear hK K
    (try simp only [Act.put, List.getElem_toArray, List.getElem_cons_succ, List.getElem_cons_zero, List.setIfInBounds_toArray, List.set_cons_zero, List.set_cons_succ])
    refine wpAnyH_ready (rs := [5]) (by kernel_rfl) (by simp) (AllReadyH.cons rfl (fun K hK => ?_) AllReadyH.nil); go_simp
    have ingB := bg.out.inside
    have inhB := bh.out.inside
    refine (nNormal_any y a b _ _ _ S k G U n _ hsh.out hl2h.out (hSh.out.below (Below.via' B2 hqA.out)) hmG hG1.out.1 hG1.out.2 hU1.out.1 hU1.out.2 (hGh.out.below (Below.via' B2 hqA.out)) (hUh.out.below (Below.via' B2 hqA.out))).mono ?_
    rintro e wB ⟨xB, cB, zB, dB, rfl, hoB, hbB⟩
    have hoB := Lib.hid hoB
    have hqB := Lib.hid (Below.via' hqA.out hbB)
    replace bg := Lib.hid (bg.out.kept hbB)
    replace bh := Lib.hid (bh.out.kept hbB)
    replace oA := Lib.hid (oA.out.below hbB)
    have oB := hoB
    refine hK.out _ _ hqB.out (fun _ => ?_)
    clear hK K
    (try simp only [Act.put, List.getElem_toArray, List.getElem_cons_succ, List.getElem_cons_zero, List.setIfInBounds_toArray, List.set_cons_zero, List.set_cons_succ])
    have hne : (W2).heap.size ≠ ((W2.alloc (.cells #[.int .i64 0, .slice none 0 0, .slice none 0 0, .int .i64 0] 37))).heap.size := Nat.ne_of_lt (by first | exact ingh | simpa using ingh)
    obtain ⟨Wf, hWf⟩ : ∃ Wf, Wf = wB := ⟨_, rfl⟩
    have hcf : Below W2.heap.size W2 Wf := by rw [hWf]; exact hqB.out
    have fg : Wb Wf (W2).heap.size 37 #[.int .i64 0, .slice none 0 0, .slice none 0 0, .int .i64 0] := by rw [hWf]; exact bg.out
    have fh : Wb Wf ((W2.alloc (.cells #[.int .i64 0, .slice none 0 0, .slice none 0 0, .int .i64 0] 37))).heap.size 37 #[.int .i64 0, .slice none 0 0, .slice none 0 0, .int .i64 0] := by rw [hWf]; exact bh.out
    have eA1 : ∃ lo hi, ((W2).heap.size < lo ∨ hi ≤ (W2).heap.size) ∧ (((W2.alloc (.cells #[.int .i64 0, .slice none 0 0, .slice none 0 0, .int .i64 0] 37))).heap.size < lo ∨ hi ≤ ((W2.alloc (.cells #[.int .i64 0, .slice none 0 0, .slice none 0 0, .int .i64 0] 37))).heap.size) ∧ OwY (wB) lo hi (.slice xA F.length cA) (.slice zA (nwL S W).length dA) F (nwL S W) := ⟨_, _, Or.inl ingA, Or.inl inhA, oA.out⟩
    obtain ⟨loA, hiA, sgA, shA, pA⟩ := eA1
    rw [← hWf] at pA
    have eB1 : ∃ lo hi, ((W2).heap.size < lo ∨ hi ≤ (W2).heap.size) ∧ (((W2.alloc (.cells #[.int .i64 0, .slice none 0 0, .slice none 0 0, .int .i64 0] 37))).heap.size < lo ∨ hi ≤ ((W2.alloc (.cells #[.int .i64 0, .slice none 0 0, .slice none 0 0, .int .i64 0] 37))).heap.size) ∧ OwY (wB) lo hi (.slice xB G.length cB) (.slice zB (nwL S U).length dB) G (nwL S U) := ⟨_, _, Or.inl ingB, Or.inl inhB, oB.out⟩
    obtain ⟨loB, hiB, sgB, shB, pB⟩ := eB1
    rw [← hWf] at pB
    rw [← hWf]
    obtain ⟨g, hg⟩ : ∃ g, g = (W2).heap.size := ⟨_, rfl⟩
    obtain ⟨h, hh⟩ : ∃ h, h = ((W2.alloc (.cells #[.int .i64 0, .slice none 0 0, .slice none 0 0, .int .i64 0] 37))).heap.size := ⟨_, rfl⟩
    rw [← hg] at sgA
    rw [← hg] at sgB
    have lg : W2.heap.size ≤ g := by rw [hg]; exact log
    rw [← hh] at shA
    rw [← hh] at shB
    have lh : W2.heap.size ≤ h := by rw [hh]; exact loh
    rw [← hg] at fg hne
    rw [← hh] at fh hne
    (try simp only [drew_sizeN] at hg)
    (try simp only [drew_sizeN] at hh)
    (try simp only [World.size_alloc] at hg)
    (try simp only [World.size_alloc] at hh)
    simp only [← hh]
    try simp only [← hg]
    replace hWf := Lib.hid hWf
    replace hg := Lib.hid hg
    replace hh := Lib.hid hh
    replace fg := Lib.hid fg
    replace fh := Lib.hid fh
    replace pA := Lib.hid pA
    replace pB := Lib.hid pB
    have ya := fg.out.read 0
    have yb := fg.out.read 1
    have yc := fg.out.read 2
    have yd := fg.out.read 3
    have ye := fg.out.free 0
    have yf := fg.out.free 1
    have yg := fg.out.free 2
    have yh := fg.out.free 3
    have yin := fg.out.inside
    refine wpAnyH_ready (rs := [8]) (by kernel_rfl) (by simp) (AllReadyH.cons rfl (fun K hK => ?_) AllReadyH.nil); go_simp
    have g1 : Below W2.heap.size W2 (st4 Wf g l xA F.length cA zA (nwL S W).length dA m) := st4_below hcf lg
    refine hK.out _ _ (by first | exact g1 | (have h0 := g1; rw [← hg.out] at h0; exact h0) | (have h0 := g1; rw [← hh.out] at h0; exact h0)) (fun _ => ?_)
    clear hK K ya yb yc yd ye yf yg yh
    (try simp only [Act.put, List.getElem_toArray, List.getElem_cons_succ, List.getElem_cons_zero, List.setIfInBounds_toArray, List.set_cons_zero, List.set_cons_succ])
    obtain ⟨X1, hX1⟩ : ∃ X1, X1 = (st4 Wf g l xA F.length cA zA (nwL S W).length dA m) := ⟨_, rfl⟩
    have hX1b := hX1
    unfold st4 at hX1b
    rw [← hX1b]
    rw [← hX1] at g1
    have f3 : Wb X1 h 37 #[.int .i64 0, .slice none 0 0, .slice none 0 0, .int .i64 0] := by rw [hX1]; exact st4_far fh.out hne.symm
    have f4 : Wb X1 g 37 #[.int .i64 l, .slice xA F.length cA, .slice zA (nwL S W).length dA, .int .i64 m] := by rw [hX1]; exact st4_wb fg.out
    have oA1 := st4_own (g := g) (l := l) (x := xA) (n := F.length) (c := cA) (z := zA) (k := (nwL S W).length) (d := dA) (m := m) pA.out sgA
    rw [← hX1] at oA1
    have oB1 := st4_own (g := g) (l := l) (x := xA) (n := F.length) (c := cA) (z := zA) (k := (nwL S W).length) (d := dA) (m := m) pB.out sgB
    rw [← hX1] at oB1
    replace hX1 := Lib.hid hX1
    replace hX1b := Lib.hid hX1b
    replace f3 := Lib.hid f3
    replace f4 := Lib.hid f4
    replace oA1 := Lib.hid oA1
    replace oB1 := Lib.hid oB1
    have ya := f3.out.read 0
    have yb := f3.out.read 1
    have yc := f3.out.read 2
    have yd := f3.out.read 3
    have ye := f3.out.free 0
    have yf := f3.out.free 1
    have yg := f3.out.free 2
    have yh := f3.out.free 3
    have yin2 := f3.out.inside
    refine wpAnyH_ready (rs := [9]) (by kernel_rfl) (by simp) (AllReadyH.cons rfl (fun K hK => ?_) AllReadyH.nil); go_simp
    have g2 : Below W2.heap.size W2 (st4 X1 h k xB G.length cB zB (nwL S U).length dB n) := st4_below g1 lh
    refine hK.out _ _ (by first | exact g2 | (have h0 := g2; rw [← hg.out] at h0; exact h0) | (have h0 := g2; rw [← hh.out] at h0; exact h0)) (fun _ => ?_)
    clear hK K ya yb yc yd ye yf yg yh
    (try simp only [Act.put, List.getElem_toArray, List.getElem_cons_succ, List.getElem_cons_zero, List.setIfInBounds_toArray, List.set_cons_zero, List.set_cons_succ])
    refine wpAnyH_done (by kernel_rfl) ?_ _
    go_wp2_with fail
    go_meet
    exact ⟨g, h, xA, cA, zA, dA, xB, cB, zB, dB, rfl, rfl, tq_of_wbN (st4_far f4.out hne), tq_of_wbN (st4_wb f3.out), (st4_own oA1.out shA).rd, (st4_own oB1.out shB).rd, Below.via' B2 g2⟩
    go_simp
    have bh := Lib.hid (show Wb (W2.drew.alloc (.cells #[.int .i64 0, .slice none 0 0, .slice none 0 0, .int .i64 0] 37)) (W2).heap.size 37 #[.int .i64 0, .slice none 0 0, .slice none 0 0, .int .i64 0] from Wb.new W2.drew _ _)
    have loh : W2.heap.size ≤ (W2).heap.size := (hH.out).size
    have hah := Lib.hid (Below.alloc' hH.out (.cells #[.int .i64 0, .slice none 0 0, .slice none 0 0, .int .i64 0] 37))
    refine hK.out _ _ hah.out (fun _ => ?_)
    clear hK K
    (try simp only [Act.put, List.getElem_toArray, List.getElem_cons_succ, List.getElem_cons_zero, List.setIfInBounds_toArray, List.set_cons_zero, List.set_cons_succ])
    refine wpAnyH_ready (rs := [2, 6]) (by kernel_rfl) (by simp) (AllReadyH.cons rfl (fun K hK => ?_) (AllReadyH.cons rfl (fun K hK => ?_) AllReadyH.nil))
    go_simp
    have inhA := bh.out.inside
    refine (nNormal_any y x z _ _ _ S l F W m _ hsh.out hlh.out (hSh.out.below (Below.via' B2 hah.out)) hmF hF1.out.1 hF1.out.2 hW1.out.1 hW1.out.2 (hFh.out.below (Below.via' B2 hah.out)) (hWh.out.below (Below.via' B2 hah.out))).mono ?_
    rintro e wA ⟨xA, cA, zA, dA, rfl, hoA, hbA⟩
    have hoA := Lib.hid hoA
    have hqA := Lib.hid (Below.via' hah.out hbA)
    replace bh := Lib.hid (bh.out.kept hbA)
    have oA := hoA
    refine hK.out _ _ hqA.out (fun _ => ?_)
    clear hK K
    (try simp only [Act.put, List.getElem_toArray, List.getElem_cons_succ, List.getElem_cons_zero, List.setIfInBounds_toArray, List.set_cons_zero, List.set_cons_succ])
    refine wpAnyH_ready (rs := [5, 6]) (by kernel_rfl) (by simp) (AllReadyH.cons rfl (fun K hK => ?_) (AllReadyH.cons rfl (fun K hK => ?_) AllReadyH.nil))
    go_simp
    have inhB := bh.out.inside
    refine (nNormal_any y a b _ _ _ S k G U n _ hsh.out hl2h.out (hSh.out.below (Below.via' B2 hqA.out)) hmG hG1.out.1 hG1.out.2 hU1.out.1 hU1.out.2 (hGh.out.below (Below.via' B2 hqA.out)) (hUh.out.below (Below.via' B2 hqA.out))).mono ?_
    rintro e wB ⟨xB, cB, zB, dB, rfl, hoB, hbB⟩
    have hoB := Lib.hid hoB
    have hqB := Lib.hid (Below.via' hqA.out hbB)
    replace bh := Lib.hid (bh.out.kept hbB)
    replace oA := Lib.hid (oA.out.below hbB)
    have oB := hoB
    refine hK.out _ _ hqB.out (fun _ => ?_)
    clear hK K
    (try simp only [Act.put, List.getElem_toArray, List.getElem_cons_succ, List.getElem_cons_zero, List.setIfInBounds_toArray, List.set_cons_zero, List.set_cons_succ])
    refine wpAnyH_ready (rs := [6]) (by kernel_rfl) (by simp) (AllReadyH.cons rfl (fun K hK => ?_) AllReadyH.nil); go_simp
    have bg := Lib.hid (show Wb (wB.alloc (.cells #[.int .i64 0, .slice none 0 0, .slice none 0 0, .int .i64 0] 37)) (wB).heap.size 37 #[.int .i64 0, .slice none 0 0, .slice none 0 0, .int .i64 0] from Wb.new wB _ _)
    have log : W2.heap.size ≤ (wB).heap.size := (hqB.out).size
    have outgA : wA.heap.size ≤ (wB).heap.size := (show Below wA.heap.size wA _ from Below.via' (Below.refl _ _) hbB).size
    replace oA := Lib.hid (oA.out.below (Below.alloc' (Below.refl _ _) (.cells #[.int .i64 0, .slice none 0 0, .slice none 0 0, .int .i64 0] 37)))
    have outgB : wB.heap.size ≤ (wB).heap.size := (show Below wB.heap.size wB _ from Below.refl _ _).size
    replace oB := Lib.hid (oB.out.below (Below.alloc' (Below.refl _ _) (.cells #[.int .i64 0, .slice none 0 0, .slice none 0 0, .int .i64 0] 37)))
    have inhg := bh.out.inside
    replace bh := Lib.hid (bh.out.kept (Below.alloc' (Below.refl _ _) (.cells #[.int .i64 0, .slice none 0 0, .slice none 0 0, .int .i64 0] 37)))
    have hag := Lib.hid (Below.alloc' hqB.out (.cells #[.int .i64 0, .slice none 0 0, .slice none 0 0, .int .i64 0] 37))
    refine hK.out _ _ hag.out (fun _ => ?_)
    clear hK K
    (try simp only [Act.put, List.getElem_toArray, List.getElem_cons_succ, List.getElem_cons_zero, List.setIfInBounds_toArray, List.set_cons_zero, List.set_cons_succ])
    have hne : (wB).heap.size ≠ (W2).heap.size := (Nat.ne_of_lt (by first | exact inhg | simpa using inhg)).symm
    obtain ⟨Wf, hWf⟩ : ∃ Wf, Wf = (wB.alloc (.cells #[.int .i64 0, .slice none 0 0, .slice none 0 0, .int .i64 0] 37)) := ⟨_, rfl⟩
    have hcf : Below W2.heap.size W2 Wf := by rw [hWf]; exact hag.out
    have fg : Wb Wf (wB).heap.size 37 #[.int .i64 0, .slice none 0 0, .slice none 0 0, .int .i64 0] := by rw [hWf]; exact bg.out
    have fh : Wb Wf (W2).heap.size 37 #[.int .i64 0, .slice none 0 0, .slice none 0 0, .int .i64 0] := by rw [hWf]; exact bh.out
    have eA1 : ∃ lo hi, ((wB).heap.size < lo ∨ hi ≤ (wB).heap.size) ∧ ((W2).heap.size < lo ∨ hi ≤ (W2).heap.size) ∧ OwY ((wB.alloc (.cells #[.int .i64 0, .slice none 0 0, .slice none 0 0, .int .i64 0] 37))) lo hi (.slice xA F.length cA) (.slice zA (nwL S W).length dA) F (nwL S W) := ⟨_, _, Or.inr outgA, Or.inl inhA, oA.out⟩
    obtain ⟨loA, hiA, sgA, shA, pA⟩ := eA1
    rw [← hWf] at pA
    have eB1 : ∃ lo hi, ((wB).heap.size < lo ∨ hi ≤ (wB).heap.size) ∧ ((W2).heap.size < lo ∨ hi ≤ (W2).heap.size) ∧ OwY ((wB.alloc (.cells #[.int .i64 0, .slice none 0 0, .slice none 0 0, .int .i64 0] 37))) lo hi (.slice xB G.length cB) (.slice zB (nwL S U).length dB) G (nwL S U) := ⟨_, _, Or.inr outgB, Or.inl inhB, oB.out⟩
    obtain ⟨loB, hiB, sgB, shB, pB⟩ := eB1
    rw [← hWf] at pB
    rw [← hWf]
    obtain ⟨g, hg⟩ : ∃ g, g = (wB).heap.size := ⟨_, rfl⟩
    obtain ⟨h, hh⟩ : ∃ h, h = (W2).heap.size := ⟨_, rfl⟩
    rw [← hg] at sgA
    rw [← hg] at sgB
    have lg : W2.heap.size ≤ g := by rw [hg]; exact log
    rw [← hh] at shA
    rw [← hh] at shB
    have lh : W2.heap.size ≤ h := by rw [hh]; exact loh
    rw [← hg] at fg hne
    rw [← hh] at fh hne
    (try simp only [drew_sizeN] at hg)
    (try simp only [drew_sizeN] at hh)
    (try simp only [World.size_alloc] at hg)
    (try simp only [World.size_alloc] at hh)
    simp only [← hg]
    try simp only [← hh]
    replace hWf := Lib.hid hWf
    replace hg := Lib.hid hg
    replace hh := Lib.hid hh
    replace fg := Lib.hid fg
    replace fh := Lib.hid fh
    replace pA := Lib.hid pA
    replace pB := Lib.hid pB
    have ya := fg.out.read 0
    have yb := fg.out.read 1
    have yc := fg.out.read 2
    have yd := fg.out.read 3
    have ye := fg.out.free 0
    have yf := fg.out.free 1
    have yg := fg.out.free 2
    have yh := fg.out.free 3
    have yin := fg.out.inside
    refine wpAnyH_ready (rs := [8]) (by kernel_rfl) (by simp) (AllReadyH.cons rfl (fun K hK => ?_) AllReadyH.nil); go_simp
    have g1 : Below W2.heap.size W2 (st4 Wf g l xA F.length cA zA (nwL S W).length dA m) := st4_below hcf lg
    refine hK.out _ _ (by first | exact g1 | (have h0 := g1; rw [← hg.out] at h0; exact h0) | (have h0 := g1; rw [← hh.out] at h0; exact h0)) (fun _ => ?_)
    clear hK K ya yb yc yd ye yf yg yh
    (try simp only [Act.put, List.getElem_toArray, List.getElem_cons_succ, List.getElem_cons_zero, List.setIfInBounds_toArray, List.set_cons_zero, List.set_cons_succ])
    obtain ⟨X1, hX1⟩ : ∃ X1, X1 = (st4 Wf g l xA F.length cA zA (nwL S W).length dA m) := ⟨_, rfl⟩
    have hX1b := hX1
    unfold st4 at hX1b
    rw [← hX1b]
    rw [← hX1] at g1
    have f3 : Wb X1 h 37 #[.int .i64 0, .slice none 0 0, .slice none 0 0, .int .i64 0] := by rw [hX1]; exact st4_far fh.out hne.symm
    have f4 : Wb X1 g 37 #[.int .i64 l, .slice xA F.length cA, .slice zA (nwL S W).length dA, .int .i64 m] := by rw [hX1]; exact st4_wb fg.out
    have oA1 := st4_own (g := g) (l := l) (x := xA) (n := F.length) (c := cA) (z := zA) (k := (nwL S W).length) (d := dA) (m := m) pA.out sgA
    rw [← hX1] at oA1
    have oB1 := st4_own (g := g) (l := l) (x := xA) (n := F.length) (c := cA) (z := zA) (k := (nwL S W).length) (d := dA) (m := m) pB.out sgB
    rw [← hX1] at oB1
    replace hX1 := Lib.hid hX1
    replace hX1b := Lib.hid hX1b
    replace f3 := Lib.hid f3
    replace f4 := Lib.hid f4
    replace oA1 := Lib.hid oA1
    replace oB1 := Lib.hid oB1
    have ya := f3.out.read 0
    have yb := f3.out.read 1
    have yc := f3.out.read 2
    have yd := f3.out.read 3
    have ye := f3.out.free 0
    have yf := f3.out.free 1
    have yg := f3.out.free 2
    have yh := f3.out.free 3
    have yin2 := f3.out.inside
    refine wpAnyH_ready (rs := [9]) (by kernel_rfl) (by simp) (AllReadyH.cons rfl (fun K hK => ?_) AllReadyH.nil); go_simp
    have g2 : Below W2.heap.size W2 (st4 X1 h k xB G.length cB zB (nwL S U).length dB n) := st4_below g1 lh
    refine hK.out _ _ (by first | exact g2 | (have h0 := g2; rw [← hg.out] at h0; exact h0) | (have h0 := g2; rw [← hh.out] at h0; exact h0)) (fun _ => ?_)
    clear hK K ya yb yc yd ye yf yg yh
    (try simp only [Act.put, List.getElem_toArray, List.getElem_cons_succ, List.getElem_cons_zero, List.setIfInBounds_toArray, List.set_cons_zero, List.set_cons_succ])
    refine wpAnyH_done (by kernel_rfl) ?_ _
    go_wp2_with fail
    go_meet
    exact ⟨g, h, xA, cA, zA, dA, xB, cB, zB, dB, rfl, rfl, tq_of_wbN (st4_far f4.out hne), tq_of_wbN (st4_wb f3.out), (st4_own oA1.out shA).rd, (st4_own oB1.out shB).rd, Below.via' B2 g2⟩
    go_simp
    have bg := Lib.hid (show Wb (wA.alloc (.cells #[.int .i64 0, .slice none 0 0, .slice none 0 0, .int .i64 0] 37)) (wA).heap.size 37 #[.int .i64 0, .slice none 0 0, .slice none 0 0, .int .i64 0] from Wb.new wA _ _)
    have log : W2.heap.size ≤ (wA).heap.size := (hqA.out).size
    have outgA : wA.heap.size ≤ (wA).heap.size := (show Below wA.heap.size wA _ from Below.refl _ _).size
    replace oA := Lib.hid (oA.out.below (Below.alloc' (Below.refl _ _) (.cells #[.int .i64 0, .slice none 0 0, .slice none 0 0, .int .i64 0] 37)))
    have inhg := bh.out.inside
    replace bh := Lib.hid (bh.out.kept (Below.alloc' (Below.refl _ _) (.cells #[.int .i64 0, .slice none 0 0, .slice none 0 0, .int .i64 0] 37)))
    have hag := Lib.hid (Below.alloc' hqA.out (.cells #[.int .i64 0, .slice none 0 0, .slice none 0 0, .int .i64 0] 37))
    refine hK.out _ _ hag.out (fun _ => ?_)
    clear hK K
    (try simp only [Act.put, List.getElem_toArray, List.getElem_cons_succ, List.getElem_cons_zero, List.setIfInBounds_toArray, List.set_cons_zero, List.set_cons_succ])
    refine wpAnyH_ready (rs := [5]) (by kernel_rfl) (by simp) (AllReadyH.cons rfl (fun K hK => ?_) AllReadyH.nil); go_simp
    have inhB := bh.out.inside
    have ingB := bg.out.inside
    refine (nNormal_any y a b _ _ _ S k G U n _ hsh.out hl2h.out (hSh.out.below (Below.via' B2 hag.out)) hmG hG1.out.1 hG1.out.2 hU1.out.1 hU1.out.2 (hGh.out.below (Below.via' B2 hag.out)) (hUh.out.below (Below.via' B2 hag.out))).mono ?_
    rintro e wB ⟨xB, cB, zB, dB, rfl, hoB, hbB⟩
    have hoB := Lib.hid hoB
    have hqB := Lib.hid (Below.via' hag.out hbB)
    replace bh := Lib.hid (bh.out.kept hbB)
    replace bg := Lib.hid (bg.out.kept hbB)
    replace oA := Lib.hid (oA.out.below hbB)
    have oB := hoB
    refine hK.out _ _ hqB.out (fun _ => ?_)
    clear hK K
    (try simp only [Act.put, List.getElem_toArray, List.getElem_cons_succ, List.getElem_cons_zero, List.setIfInBounds_toArray, List.set_cons_zero, List.set_cons_succ])
    have hne : (wA).heap.size ≠ (W2).heap.size := (Nat.ne_of_lt (by first | exact inhg | simpa using inhg)).symm
    obtain ⟨Wf, hWf⟩ : ∃ Wf, Wf = wB := ⟨_, rfl⟩
    have hcf : Below W2.heap.size W2 Wf := by rw [hWf]; exact hqB.out
    have fg : Wb Wf (wA).heap.size 37 #[.int .i64 0, .slice none 0 0, .slice none 0 0, .int .i64 0] := by rw [hWf]; exact bg.out
    have fh : Wb Wf (W2).heap.size 37 #[.int .i64 0, .slice none 0 0, .slice none 0 0, .int .i64 0] := by rw [hWf]; exact bh.out
    have eA1 : ∃ lo hi, ((wA).heap.size < lo ∨ hi ≤ (wA).heap.size) ∧ ((W2).heap.size < lo ∨ hi ≤ (W2).heap.size) ∧ OwY (wB) lo hi (.slice xA F.length cA) (.slice zA (nwL S W).length dA) F (nwL S W) := ⟨_, _, Or.inr outgA, Or.inl inhA, oA.out⟩
    obtain ⟨loA, hiA, sgA, shA, pA⟩ := eA1
    rw [← hWf] at pA
    have eB1 : ∃ lo hi, ((wA).heap.size < lo ∨ hi ≤ (wA).heap.size) ∧ ((W2).heap.size < lo ∨ hi ≤ (W2).heap.size) ∧ OwY (wB) lo hi (.slice xB G.length cB) (.slice zB (nwL S U).length dB) G (nwL S U) := ⟨_, _, Or.inl ingB, Or.inl inhB, oB.out⟩
    obtain ⟨loB, hiB, sgB, shB, pB⟩ := eB1
    rw [← hWf] at pB
    rw [← hWf]
    obtain ⟨g, hg⟩ : ∃ g, g = (wA).heap.size := ⟨_, rfl⟩
    obtain ⟨h, hh⟩ : ∃ h, h = (W2).heap.size := ⟨_, rfl⟩
    rw [← hg] at sgA
    rw [← hg] at sgB
    have lg : W2.heap.size ≤ g := by rw [hg]; exact log
    rw [← hh] at shA
    rw [← hh] at shB
    have lh : W2.heap.size ≤ h := by rw [hh]; exact loh
    rw [← hg] at fg hne
    rw [← hh] at fh hne
    (try simp only [drew_sizeN] at hg)
    (try simp only [drew_sizeN] at hh)
    (try simp only [World.size_alloc] at hg)
    (try simp only [World.size_alloc] at hh)
    simp only [← hg]
    try simp only [← hh]
    replace hWf := Lib.hid hWf
    replace hg := Lib.hid hg
    replace hh := Lib.hid hh
    replace fg := Lib.hid fg
    replace fh := Lib.hid fh
    replace pA := Lib.hid pA
    replace pB := Lib.hid pB
    have ya := fg.out.read 0
    have yb := fg.out.read 1
    have yc := fg.out.read 2
    have yd := fg.out.read 3
    have ye := fg.out.free 0
    have yf := fg.out.free 1
    have yg := fg.out.free 2
    have yh := fg.out.free 3
    have yin := fg.out.inside
    refine wpAnyH_ready (rs := [8]) (by kernel_rfl) (by simp) (AllReadyH.cons rfl (fun K hK => ?_) AllReadyH.nil); go_simp
    have g1 : Below W2.heap.size W2 (st4 Wf g l xA F.length cA zA (nwL S W).length dA m) := st4_below hcf lg
    refine hK.out _ _ (by first | exact g1 | (have h0 := g1; rw [← hg.out] at h0; exact h0) | (have h0 := g1; rw [← hh.out] at h0; exact h0)) (fun _ => ?_)
    clear hK K ya yb yc yd ye yf yg yh
    (try simp only [Act.put, List.getElem_toArray, List.getElem_cons_succ, List.getElem_cons_zero, List.setIfInBounds_toArray, List.set_cons_zero, List.set_cons_succ])
    obtain ⟨X1, hX1⟩ : ∃ X1, X1 = (st4 Wf g l xA F.length cA zA (nwL S W).length dA m) := ⟨_, rfl⟩
    have hX1b := hX1
    unfold st4 at hX1b
    rw [← hX1b]
    rw [← hX1] at g1
    have f3 : Wb X1 h 37 #[.int .i64 0, .slice none 0 0, .slice none 0 0, .int .i64 0] := by rw [hX1]; exact st4_far fh.out hne.symm
    have f4 : Wb X1 g 37 #[.int .i64 l, .slice xA F.length cA, .slice zA (nwL S W).length dA, .int .i64 m] := by rw [hX1]; exact st4_wb fg.out
    have oA1 := st4_own (g := g) (l := l) (x := xA) (n := F.length) (c := cA) (z := zA) (k := (nwL S W).length) (d := dA) (m := m) pA.out sgA
    rw [← hX1] at oA1
    have oB1 := st4_own (g := g) (l := l) (x := xA) (n := F.length) (c := cA) (z := zA) (k := (nwL S W).length) (d := dA) (m := m) pB.out sgB
    rw [← hX1] at oB1
    replace hX1 := Lib.hid hX1
    replace hX1b := Lib.hid hX1b
    replace f3 := Lib.hid f3
    replace f4 := Lib.hid f4
    replace oA1 := Lib.hid oA1
    replace oB1 := Lib.hid oB1
    have ya := f3.out.read 0
    have yb := f3.out.read 1
    have yc := f3.out.read 2
    have yd := f3.out.read 3
    have ye := f3.out.free 0
    have yf := f3.out.free 1
    have yg := f3.out.free 2
    have yh := f3.out.free 3
    have yin2 := f3.out.inside
    refine wpAnyH_ready (rs := [9]) (by kernel_rfl) (by simp) (AllReadyH.cons rfl (fun K hK => ?_) AllReadyH.nil); go_simp
    have g2 : Below W2.heap.size W2 (st4 X1 h k xB G.length cB zB (nwL S U).length dB n) := st4_below g1 lh
    refine hK.out _ _ (by first | exact g2 | (have h0 := g2; rw [← hg.out] at h0; exact h0) | (have h0 := g2; rw [← hh.out] at h0; exact h0)) (fun _ => ?_)
    clear hK K ya yb yc yd ye yf yg yh
    (try simp only [Act.put, List.getElem_toArray, List.getElem_cons_succ, List.getElem_cons_zero, List.setIfInBounds_toArray, List.set_cons_zero, List.set_cons_succ])
    refine wpAnyH_done (by kernel_rfl) ?_ _
    go_wp2_with fail
    go_meet
    exact ⟨g, h, xA, cA, zA, dA, xB, cB, zB, dB, rfl, rfl, tq_of_wbN (st4_far f4.out hne), tq_of_wbN (st4_wb f3.out), (st4_own oA1.out shA).rd, (st4_own oB1.out shB).rd, Below.via' B2 g2⟩
    go_simp
    have bg := Lib.hid (show Wb ((W2.drew.alloc (.cells #[.int .i64 0, .slice none 0 0, .slice none 0 0, .int .i64 0] 37)).alloc (.cells #[.int .i64 0, .slice none 0 0, .slice none 0 0, .int .i64 0] 37)) ((W2.alloc (.cells #[.int .i64 0, .slice none 0 0, .slice none 0 0, .int .i64 0] 37))).heap.size 37 #[.int .i64 0, .slice none 0 0, .slice none 0 0, .int .i64 0] from Wb.new (W2.drew.alloc (.cells #[.int .i64 0, .slice none 0 0, .slice none 0 0, .int .i64 0] 37)) _ _)
    have log : W2.heap.size ≤ ((W2.alloc (.cells #[.int .i64 0, .slice none 0 0, .slice none 0 0, .int .i64 0] 37))).heap.size := (hah.out).size
    have inhg := bh.out.inside
    replace bh := Lib.hid (bh.out.kept (Below.alloc' (Below.refl _ _) (.cells #[.int .i64 0, .slice none 0 0, .slice none 0 0, .int .i64 0] 37)))
    have hag := Lib.hid (Below.alloc' hah.out (.cells #[.int .i64 0, .slice none 0 0, .slice none 0 0, .int .i64 0] 37))
    refine hK.out _ _ hag.out (fun _ => ?_)
    clear hK K
    (try simp only [Act.put, List.getElem_toArray, List.getElem_cons_succ, List.getElem_cons_zero, List.setIfInBounds_toArray, List.set_cons_zero, List.set_cons_succ])
    refine wpAnyH_ready (rs := [2]) (by kernel_rfl) (by simp) (AllReadyH.cons rfl (fun K hK => ?_) AllReadyH.nil); go_simp
    have inhA := bh.out.inside
    have ingA := bg.out.inside
    refine (nNormal_any y x z _ _ _ S l F W m _ hsh.out hlh.out (hSh.out.below (Below.via' B2 hag.out)) hmF hF1.out.1 hF1.out.2 hW1.out.1 hW1.out.2 (hFh.out.below (Below.via' B2 hag.out)) (hWh.out.below (Below.via' B2 hag.out))).mono ?_
    rintro e wA ⟨xA, cA, zA, dA, rfl, hoA, hbA⟩
    have hoA := Lib.hid hoA
    have hqA := Lib.hid (Below.via' hag.out hbA)
    replace bh := Lib.hid (bh.out.kept hbA)
    replace bg := Lib.hid (bg.out.kept hbA)
    have oA := hoA
    refine hK.out _ _ hqA.out (fun _ => ?_)
    clear hK K
    (try simp only [Act.put, List.getElem_toArray, List.getElem_cons_succ, List.getElem_cons_zero, List.setIfInBounds_toArray, List.set_cons_zero, List.set_cons_succ])
    refine wpAnyH_ready (rs := [5]) (by kernel_rfl) (by simp) (AllReadyH.cons rfl (fun K hK => ?_) AllReadyH.nil); go_simp
    have inhB := bh.out.inside
    have ingB := bg.out.inside
    refine (nNormal_any y a b _ _ _ S k G U n _ hsh.out hl2h.out (hSh.out.below (Below.via' B2 hqA.out)) hmG hG1.out.1 hG1.out.2 hU1.out.1 hU1.out.2 (hGh.out.below (Below.via' B2 hqA.out)) (hUh.out.below (Below.via' B2 hqA.out))).mono ?_
    rintro e wB ⟨xB, cB, zB, dB, rfl, hoB, hbB⟩
    have hoB := Lib.hid hoB
    have hqB := Lib.hid (Below.via' hqA.out hbB)
    replace bh := Lib.hid (bh.out.kept hbB)
    replace bg := Lib.hid (bg.out.kept hbB)
    replace oA := Lib.hid (oA.out.below hbB)
    have oB := hoB
    refine hK.out _ _ hqB.out (fun _ => ?_)
    clear hK K
    (try simp only [Act.put, List.getElem_toArray, List.getElem_cons_succ, List.getElem_cons_zero, List.setIfInBounds_toArray, List.set_cons_zero, List.set_cons_succ])
    have hne : ((W2.alloc (.cells #[.int .i64 0, .slice none 0 0, .slice none 0 0, .int .i64 0] 37))).heap.size ≠ (W2).heap.size := (Nat.ne_of_lt (by first | exact inhg | simpa using inhg)).symm
    obtain ⟨Wf, hWf⟩ : ∃ Wf, Wf = wB := ⟨_, rfl⟩
    have hcf : Below W2.heap.size W2 Wf := by rw [hWf]; exact hqB.out
    have fg : Wb Wf ((W2.alloc (.cells #[.int .i64 0, .slice none 0 0, .slice none 0 0, .int .i64 0] 37))).heap.size 37 #[.int .i64 0, .slice none 0 0, .slice none 0 0, .int .i64 0] := by rw [hWf]; exact bg.out
    have fh : Wb Wf (W2).heap.size 37 #[.int .i64 0, .slice none 0 0, .slice none 0 0, .int .i64 0] := by rw [hWf]; exact bh.out
    have eA1 : ∃ lo hi, (((W2.alloc (.cells #[.int .i64 0, .slice none 0 0, .slice none 0 0, .int .i64 0] 37))).heap.size < lo ∨ hi ≤ ((W2.alloc (.cells #[.int .i64 0, .slice none 0 0, .slice none 0 0, .int .i64 0] 37))).heap.size) ∧ ((W2).heap.size < lo ∨ hi ≤ (W2).heap.size) ∧ OwY (wB) lo hi (.slice xA F.length cA) (.slice zA (nwL S W).length dA) F (nwL S W) := ⟨_, _, Or.inl ingA, Or.inl inhA, oA.out⟩
    obtain ⟨loA, hiA, sgA, shA, pA⟩ := eA1
    rw [← hWf] at pA
    have eB1 : ∃ lo hi, (((W2.alloc (.cells #[.int .i64 0, .slice none 0 0, .slice none 0 0, .int .i64 0] 37))).heap.size < lo ∨ hi ≤ ((W2.alloc (.cells #[.int .i64 0, .slice none 0 0, .slice none 0 0, .int .i64 0] 37))).heap.size) ∧ ((W2).heap.size < lo ∨ hi ≤ (W2).heap.size) ∧ OwY (wB) lo hi (.slice xB G.length cB) (.slice zB (nwL S U).length dB) G (nwL S U) := ⟨_, _, Or.inl ingB, Or.inl inhB, oB.out⟩
    obtain ⟨loB, hiB, sgB, shB, pB⟩ := eB1
    rw [← hWf] at pB
    rw [← hWf]
    obtain ⟨g, hg⟩ : ∃ g, g = ((W2.alloc (.cells #[.int .i64 0, .slice none 0 0, .slice none 0 0, .int .i64 0] 37))).heap.size := ⟨_, rfl⟩
    obtain ⟨h, hh⟩ : ∃ h, h = (W2).heap.size := ⟨_, rfl⟩
    rw [← hg] at sgA
    rw [← hg] at sgB
    have lg : W2.heap.size ≤ g := by rw [hg]; exact log
    rw [← hh] at shA
    rw [← hh] at shB
    have lh : W2.heap.size ≤ h := by rw [hh]; exact loh
    rw [← hg] at fg hne
    rw [← hh] at fh hne
    (try simp only [drew_sizeN] at hg)
    (try simp only [drew_sizeN] at hh)
    (try simp only [World.size_alloc] at hg)
    (try simp only [World.size_alloc] at hh)
    simp only [← hg]
    try simp only [← hh]
    replace hWf := Lib.hid hWf
    replace hg := Lib.hid hg
    replace hh := Lib.hid hh
    replace fg := Lib.hid fg
    replace fh := Lib.hid fh
    replace pA := Lib.hid pA
    replace pB := Lib.hid pB
    have ya := fg.out.read 0
    have yb := fg.out.read 1
    have yc := fg.out.read 2
    have yd := fg.out.read 3
    have ye := fg.out.free 0
    have yf := fg.out.free 1
    have yg := fg.out.free 2
    have yh := fg.out.free 3
    have yin := fg.out.inside
    refine wpAnyH_ready (rs := [8]) (by kernel_rfl) (by simp) (AllReadyH.cons rfl (fun K hK => ?_) AllReadyH.nil); go_simp
    have g1 : Below W2.heap.size W2 (st4 Wf g l xA F.length cA zA (nwL S W).length dA m) := st4_below hcf lg
    refine hK.out _ _ (by first | exact g1 | (have h0 := g1; rw [← hg.out] at h0; exact h0) | (have h0 := g1; rw [← hh.out] at h0; exact h0)) (fun _ => ?_)
    clear hK K ya yb yc yd ye yf yg yh
    (try simp only [Act.put, List.getElem_toArray, List.getElem_cons_succ, List.getElem_cons_zero, List.setIfInBounds_toArray, List.set_cons_zero, List.set_cons_succ])
    obtain ⟨X1, hX1⟩ : ∃ X1, X1 = (st4 Wf g l xA F.length cA zA (nwL S W).length dA m) := ⟨_, rfl⟩
    have hX1b := hX1
    unfold st4 at hX1b
    rw [← hX1b]
    rw [← hX1] at g1
    have f3 : Wb X1 h 37 #[.int .i64 0, .slice none 0 0, .slice none 0 0, .int .i64 0] := by rw [hX1]; exact st4_far fh.out hne.symm
    have f4 : Wb X1 g 37 #[.int .i64 l, .slice xA F.length cA, .slice zA (nwL S W).length dA, .int .i64 m] := by rw [hX1]; exact st4_wb fg.out
    have oA1 := st4_own (g := g) (l := l) (x := xA) (n := F.length) (c := cA) (z := zA) (k := (nwL S W).length) (d := dA) (m := m) pA.out sgA
    rw [← hX1] at oA1
    have oB1 := st4_own (g := g) (l := l) (x := xA) (n := F.length) (c := cA) (z := zA) (k := (nwL S W).length) (d := dA) (m := m) pB.out sgB
    rw [← hX1] at oB1
    replace hX1 := Lib.hid hX1
    replace hX1b := Lib.hid hX1b
    replace f3 := Lib.hid f3
    replace f4 := Lib.hid f4
    replace oA1 := Lib.hid oA1
    replace oB1 := Lib.hid oB1
    have ya := f3.out.read 0
    have yb := f3.out.read 1
    have yc := f3.out.read 2
    have yd := f3.out.read 3
    have ye := f3.out.free 0
    have yf := f3.out.free 1
    have yg := f3.out.free 2
    have yh := f3.out.free 3
    have yin2 := f3.out.inside
    refine wpAnyH_ready (rs := [9]) (by kernel_rfl) (by simp) (AllReadyH.cons rfl (fun K hK => ?_) AllReadyH.nil); go_simp
    have g2 : Below W2.heap.size W2 (st4 X1 h k xB G.length cB zB (nwL S U).length dB n) := st4_below g1 lh
    refine hK.out _ _ (by first | exact g2 | (have h0 := g2; rw [← hg.out] at h0; exact h0) | (have h0 := g2; rw [← hh.out] at h0; exact h0)) (fun _ => ?_)
    clear hK K ya yb yc yd ye yf yg yh
    (try simp only [Act.put, List.getElem_toArray, List.getElem_cons_succ, List.getElem_cons_zero, List.setIfInBounds_toArray, List.set_cons_zero, List.set_cons_succ])
    refine wpAnyH_done (by kernel_rfl) ?_ _
    go_wp2_with fail
    go_meet
    exact ⟨g, h, xA, cA, zA, dA, xB, cB, zB, dB, rfl, rfl, tq_of_wbN (st4_far f4.out hne), tq_of_wbN (st4_wb f3.out), (st4_own oA1.out shA).rd, (st4_own oB1.out shB).rd, Below.via' B2 g2⟩
  obtain ⟨g, h, xA, cA, zA, dA, xB, cB, zB, dB, rfl, rfl, hTA, hTB, hRA, hRB, hBX⟩ := hcut
  obtain ⟨X, rfl⟩ : ∃ u : World, u = wc := ⟨_, rfl⟩
  replace hTA := Lib.hid hTA
  replace hTB := Lib.hid hTB
  replace hRA := Lib.hid hRA
  replace hRB := Lib.hid hRB
  obtain ⟨ta, tb, tc, td, te⟩ := hTA.out
  obtain ⟨ua, ub, uc, ud, ue⟩ := hTB.out
  by_cases h1 : l ≠ k
  · have hv := Lib.hid (smT_l (S := S) (F := F) (W := W) (m := m) (G := G) (U := U) (n := n) h1)
    have e1 : (l == k) = false := by rw [beq_eq_false_iff_ne]; exact h1
    replace h1 := Lib.hid h1
    go_wp2
    go_ret
    exact ⟨ret_sq hv.out.symm, hBX⟩
  replace h1 := Decidable.of_not_not h1
  have e1 : (l == k) = true := by rw [beq_iff_eq]; exact h1
  have h1h := Lib.hid h1
  clear h1
  go_wp2_with fail
  refine (sameI_any _ _ _ _ F G _ hmF hRA.out.1 hRB.out.1).mono ?_
  rintro e wE ⟨rfl, hbE⟩
  have hBE := Below.via' hBX hbE
  obtain ⟨va, vb, vc, vd, ve⟩ := hTA.out.below hbE
  obtain ⟨xa, xb, xc, xd, xe⟩ := hTB.out.below hbE
  clear ta tb tc td ua ub uc ud
  cases h3 : sqB F G
  · have hv := Lib.hid (smT_F (S := S) (l := l) (k := k) (m := m) (n := n) (W := W) (U := U) h3)
    replace h3 := Lib.hid h3
    go_wp2
    go_ret
    exact ⟨ret_sq hv.out.symm, hBE⟩
  have h3h := Lib.hid h3
  clear h3
  have hmW : (nwL S W).length ≤ 1048576 := by rw [nwL_len hlh.out]; omega
  go_wp2_with fail
  refine (sameI_any _ _ _ _ (nwL S W) (nwL S U) _ hmW (hRA.out.2.below hbE) (hRB.out.2.below hbE)).mono ?_
  rintro e wG ⟨rfl, hbG⟩
  have hBG := Below.via' hBE hbG
  obtain ⟨sa, sb, sc, sd, se⟩ := (hTA.out.below hbE).below hbG
  obtain ⟨ra, rb, rc, rd, re⟩ := (hTB.out.below hbE).below hbG
  clear va vb vc vd xa xb xc xd
  cases h4 : sqB (nwL S W) (nwL S U)
  · have hv := Lib.hid (smT_W (l := l) (k := k) (m := m) (n := n) (F := F) (G := G) h4)
    replace h4 := Lib.hid h4
    go_wp2
    go_ret
    exact ⟨ret_sq hv.out.symm, hBG⟩
  have h4h := Lib.hid h4
  clear h4
  by_cases h2 : m ≠ n
  · have hv := Lib.hid (smT_m (S := S) (l := l) (k := k) (F := F) (W := W) (G := G) (U := U) h2)
    have e2 : (m == n) = false := by rw [beq_eq_false_iff_ne]; exact h2
    replace h2 := Lib.hid h2
    go_wp2
    go_ret
    exact ⟨ret_sq hv.out.symm, hBG⟩
  replace h2 := Decidable.of_not_not h2
  have e2 : (m == n) = true := by rw [beq_iff_eq]; exact h2
  have h2h := Lib.hid h2
  clear h2
  have hv := Lib.hid (smT_yes h1h.out h2h.out h3h.out h4h.out)
  go_wp2
  go_ret
  exact ⟨ret_sq hv.out.symm, hBG⟩
end Go.Proofs.Ytgkaalonmkcclaa
