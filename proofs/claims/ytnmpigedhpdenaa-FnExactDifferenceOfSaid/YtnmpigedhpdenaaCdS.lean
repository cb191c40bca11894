/-
  The walks of chapter 10: the difference of two cubes; the model's.
-/
import Derived.Test.YtnmpigedhpdenaaCdI
namespace Go.Proofs.Ytnmpigedhpdenaa
open Go.RowKit
set_option maxRecDepth 100000

theorem grown_drewC {w w1 : World} {r : Option Nat} (h : w.grownBy w1 r) : w.grownBy w1.drew r := ⟨h.os, h.tape, h.output, h.size, h.block⟩
theorem Wb.grownC {w w' : World} {g : Nat} {t : TypeId} {cs : Array Value} {r : Option Nat} (h : Wb w g t cs) (hg : w.grownBy w' r) (hne : r ≠ some g) : Wb w' g t cs := (hg.block g h.inside (fun e => hne e.symm)).trans h
set_option maxHeartbeats 16000000 in
theorem sDi_any (x y x2 y2 : Option Addr) (c d c2 d2 : Nat) (Y A Z B : List Int) (w : World) (h : CIn w x y Y A) (k : CIn w x2 y2 Z B) (hcY : Y.length ≤ c) (hnY : x = none → c = 0) (_ : A.length ≤ d) (_ : y = none → d = 0) :
    Calls Try.prog 39 #[.agg #[.slice x Y.length c, .slice y A.length d], .agg #[.slice x2 Z.length c2, .slice y2 B.length d2]] w (RetCu (dqR Y A Z B) (dqB Y A Z B) w) := by
  obtain ⟨i0, hii, hz0, hz1, hz2⟩ := info_parts Try.infoInt
  have hmY := h.1.1
  have hmA := h.2.1
  have hh := Lib.hid h
  have hk := Lib.hid k
  clear h k
  have t0n := Tri3.new w x Y.length c y A.length d x2 Z.length c2 y2 B.length d2
  obtain ⟨w0, hw0⟩ : ∃ w0, w0 = ((w.alloc (.cells #[.slice x Y.length c, .slice y A.length d] 27)).alloc (.cells #[.slice x2 Z.length c2, .slice y2 B.length d2] 27)).alloc (.cells #[.slice none 0 0, .slice none 0 0] 27) := ⟨_, rfl⟩
  have B0 : Below w.heap.size w w0 := by rw [hw0]; exact (by repeat (first | exact Below.refl _ _ | assumption | refine Below.drew ?_ | refine below_drewN ?_ _ | refine Below.alloc' ?_ _ | (refine Below.setCell ?_ (by first | omega | (simp; done) | (simp; omega) | exact Below.size (by assumption) | exact Nat.le_trans (Below.size (by assumption)) (by simp)) _) | (refine Below.via' ?_ (by assumption)) | (refine Below.alloc ?_ (by first | omega | (simp; done) | (simp; omega) | exact Below.size (by assumption) | exact Nat.le_trans (Below.size (by assumption)) (by simp)) _) | (refine Below.via ?_ (by assumption) (by first | omega | (simp; done) | (simp; omega) | exact Below.size (by assumption) | exact Nat.le_trans (Below.size (by assumption)) (by simp)))))
  rw [← hw0] at t0n
  have t0 := Lib.hid t0n
  clear t0n
  go_enter Try.func39, Try.ntmps39
  go_wp2_with fail
  rw [← hw0]
  replace hw0 := Lib.hid hw0
  refine (cbGood_any _ _ _ _ Y A _ (hh.out.below B0)).mono ?_
  rintro e w1 ⟨rfl, hb1⟩
  have B1 : Below w.heap.size w w1 := Below.via' B0 hb1
  have t1 := Lib.hid (t0.out.below hb1)
  try clear a0a a0b a0c b0a b0b b0c z0a z0b z0c z0d z0e
  clear hb1
  obtain ⟨⟨a1a, a1b, a1c⟩, ⟨b1a, b1b, b1c⟩, zz1⟩ := t1.out
  have z1a := (zz1.read 0).trans rfl
  have z1b := (zz1.read 1).trans rfl
  have z1c := zz1.free 0
  have z1d := zz1.free 1
  have z1e := zz1.inside
  clear zz1
  cases hg1 : cgB Y A
  · have hv := Lib.hid (dq_no (dq_no1 Z B hg1))
    clear hg1
    go_wp2
    refine bodyPost_ret (v := .tuple #[.agg #[.slice none 0 0, .slice none 0 0], .bool false]) (by simp [results, Try.results39, go_sem, *]) rfl (retCu_no hv.out.1 hv.out.2 ?_)
    repeat (refine Below.setCell ?_ (by simp; try omega) _)
    exact B1
  have hg1h := Lib.hid hg1
  clear hg1
  go_wp2_with fail
  refine (cbGood_any _ _ _ _ Z B _ (hk.out.below B1)).mono ?_
  rintro e w2 ⟨rfl, hb2⟩
  have B2 : Below w.heap.size w w2 := Below.via' B1 hb2
  have t2 := Lib.hid (t1.out.below hb2)
  try clear a1a a1b a1c b1a b1b b1c z1a z1b z1c z1d z1e
  clear hb2
  obtain ⟨⟨a2a, a2b, a2c⟩, ⟨b2a, b2b, b2c⟩, zz2⟩ := t2.out
  have z2a := (zz2.read 0).trans rfl
  have z2b := (zz2.read 1).trans rfl
  have z2c := zz2.free 0
  have z2d := zz2.free 1
  have z2e := zz2.inside
  clear zz2
  cases hg2 : cgB Z B
  · have hv := Lib.hid (dq_no (dq_no2 Y A hg2))
    clear hg2
    go_wp2
    refine bodyPost_ret (v := .tuple #[.agg #[.slice none 0 0, .slice none 0 0], .bool false]) (by simp [results, Try.results39, go_sem, *]) rfl (retCu_no hv.out.1 hv.out.2 ?_)
    repeat (refine Below.setCell ?_ (by simp; try omega) _)
    exact B2
  have hg2h := Lib.hid hg2
  clear hg2
  go_wp2_with fail
  refine (sameI_any _ _ _ _ Y Z _ hmY (hh.out.1.2.2.below B2) (hk.out.1.2.2.below B2)).mono ?_
  rintro e w3 ⟨rfl, hb3⟩
  have B3 : Below w.heap.size w w3 := Below.via' B2 hb3
  have t3 := Lib.hid (t2.out.below hb3)
  try clear a2a a2b a2c b2a b2b b2c z2a z2b z2c z2d z2e
  clear hb3
  obtain ⟨⟨a3a, a3b, a3c⟩, ⟨b3a, b3b, b3c⟩, zz3⟩ := t3.out
  have z3a := (zz3.read 0).trans rfl
  have z3b := (zz3.read 1).trans rfl
  have z3c := zz3.free 0
  have z3d := zz3.free 1
  have z3e := zz3.inside
  clear zz3
  cases hg3 : sqB Y Z
  · have hv := Lib.hid (dq_no (dq_no3 A B hg3))
    clear hg3
    go_wp2
    refine bodyPost_ret (v := .tuple #[.agg #[.slice none 0 0, .slice none 0 0], .bool false]) (by simp [results, Try.results39, go_sem, *]) rfl (retCu_no hv.out.1 hv.out.2 ?_)
    repeat (refine Below.setCell ?_ (by simp; try omega) _)
    exact B3
  have hg3h := Lib.hid hg3
  have hYZ := Lib.hid (show Y = Z from of_decide_eq_true hg3)
  have hl := dq_len hg1h.out hg2h.out hg3
  have hlh := Lib.hid hl
  have hA2 : A.length ≤ 2000 := cf_len (cg_get hg1h.out).1
  have hbA := Lib.hid (fun j a (hj : A[j]? = some a) => inR_at (cf_get (cg_get hg1h.out).1).2.2 hj)
  have hbB := Lib.hid (fun j a (hj : B[j]? = some a) => inR_at (cf_get (cg_get hg2h.out).1).2.2 hj)
  clear hg3 hl
  have hw3 := z3e
  go_wp2_with fail
  refine (l1Own_any x c Y _ hmY hcY hnY (hh.out.1.2.2.below B3)).mono ?_
  rintro e w4 ⟨uS, rfl, hoS, hb4⟩
  obtain ⟨xS, cS, rfl, -, -⟩ := (OwR.of hoS).form
  have hgl := hb4.size
  have B4 : Below w.heap.size w w4 := Below.via' B3 hb4
  have t4 := Lib.hid (t3.out.below hb4)
  try clear a3a a3b a3c b3a b3b b3c z3a z3b z3c z3d z3e
  clear hb4
  obtain ⟨⟨a4a, a4b, a4c⟩, ⟨b4a, b4b, b4c⟩, zz4⟩ := t4.out
  have z4a := (zz4.read 0).trans rfl
  have z4b := (zz4.read 1).trans rfl
  have z4c := zz4.free 0
  have z4d := zz4.free 1
  have z4e := zz4.inside
  clear zz4
  have hgw : w.heap.size + 1 + 1 < w4.heap.size := by omega
  have hGh := Lib.hid (Wb.new w4 27 #[.slice xS Y.length cS, .slice none 0 0])
  have hOSh := Lib.hid (hoS.alloc (.cells #[.slice xS Y.length cS, .slice none 0 0] 27))
  have hz3 := B3.size
  have t5 := Lib.hid (t4.out.below (show Below w4.heap.size w4 (w4.alloc (.cells #[.slice xS Y.length cS, .slice none 0 0] 27)) from (by repeat (first | exact Below.refl _ _ | assumption | refine Below.drew ?_ | refine below_drewN ?_ _ | refine Below.alloc' ?_ _ | (refine Below.setCell ?_ (by first | omega | (simp; done) | (simp; omega) | exact Below.size (by assumption) | exact Nat.le_trans (Below.size (by assumption)) (by simp)) _) | (refine Below.via' ?_ (by assumption)) | (refine Below.alloc ?_ (by first | omega | (simp; done) | (simp; omega) | exact Below.size (by assumption) | exact Nat.le_trans (Below.size (by assumption)) (by simp)) _) | (refine Below.via ?_ (by assumption) (by first | omega | (simp; done) | (simp; omega) | exact Below.size (by assumption) | exact Nat.le_trans (Below.size (by assumption)) (by simp)))))))
  have B5 : Below w.heap.size w (w4.alloc (.cells #[.slice xS Y.length cS, .slice none 0 0] 27)) := (by repeat (first | exact Below.refl _ _ | assumption | refine Below.drew ?_ | refine below_drewN ?_ _ | refine Below.alloc' ?_ _ | (refine Below.setCell ?_ (by first | omega | (simp; done) | (simp; omega) | exact Below.size (by assumption) | exact Nat.le_trans (Below.size (by assumption)) (by simp)) _) | (refine Below.via' ?_ (by assumption)) | (refine Below.alloc ?_ (by first | omega | (simp; done) | (simp; omega) | exact Below.size (by assumption) | exact Nat.le_trans (Below.size (by assumption)) (by simp)) _) | (refine Below.via ?_ (by assumption) (by first | omega | (simp; done) | (simp; omega) | exact Below.size (by assumption) | exact Nat.le_trans (Below.size (by assumption)) (by simp)))))
  obtain ⟨g, hg⟩ : ∃ g, g = w4.heap.size := ⟨_, rfl⟩
  clear hoS
  go_wp2
  rw [← hg] at hGh hgw hgl ⊢
  replace hg := Lib.hid hg
  clear a4a a4b b4a b4b z4a z4b z4c z4d z4e
  go_loopw [33] (fun q wr => ∃ (j : Nat) (L : List Int) (xC : Option Addr) (cC : Nat), j ≤ A.length ∧ q = .int .i64 j ∧ L.length = j ∧ Hid (L = dfC (A.take j) (B.take j)) ∧ Hid (Wb wr g 27 #[.slice xS Y.length cS, .slice xC L.length cC]) ∧ Hid (wr.ownsRow w3.heap.size 3 1 (.slice xS Y.length cS) Y.length (iC Y)) ∧ Hid (wr.ownsRow w3.heap.size 3 1 (.slice xC L.length cC) L.length (iC L)) ∧ Hid (∀ k, (Value.slice xS Y.length cS).ownBlock = some k → (Value.slice xC L.length cC).ownBlock ≠ some k) ∧ Hid (Tri3 wr w.heap.size x Y.length c y A.length d x2 Z.length c2 y2 B.length d2) ∧ Below w.heap.size w wr ∧ w3.heap.size ≤ wr.heap.size) (fun q _ => A.length - (intOf q).toNat)
  case atStart => exact ⟨0, [], none, 0, by omega, by go_num, rfl, rfl, hGh.out, hOSh.out, World.ownsRow_nil _ _ _ _, (fun k _ e => by cases e), t5.out, B5, by have h9 := hgl; have h8 := hg.out; rw [World.size_alloc]; omega⟩
  case round =>
    clear hGh hOSh t5 B5
    obtain ⟨j, L, xL, cL, hj, rfl, hLl, hL, hG, hOS, hOC, hnx, tr, hB, hszr⟩ := hrel
    have g0 : wr.cell? ⟨g, 0, none⟩ = some (.slice xS Y.length cS) := (hG.out.read 0).trans rfl
    have g1 : wr.cell? ⟨g, 1, none⟩ = some (.slice xL L.length cL) := (hG.out.read 1).trans rfl
    have gi := hG.out.inside
    have gf := hG.out.free 1
    obtain ⟨⟨ara, arb, arc⟩, ⟨bra, brb, brc⟩, zzr⟩ := tr.out
    clear zzr
    by_cases hlt : j < A.length
    · obtain ⟨ba, oa, a, rfl, hba, hAj, hca⟩ := (hh.out.below hB).2.2.2.int hlt
      obtain ⟨bb, ob, b, rfl, hbb, hBj, hcb⟩ := (hk.out.below hB).2.2.2.int (i := j) (by have := hlh.out; omega)
      have b1 := hbA.out j _ hAj
      have b2 := hbB.out j _ hBj
      have hst := Lib.hid (dfC_snoc hAj hBj)
      have hlt' : (j : Int) < (A.length : Int) := by omega
      have hlt2 : (j : Int) < (B.length : Int) := by have := hlh.out; omega
      have hq1 : IntKind.i64.wrap (a - b) = a - b := IntWalk.i64_in _ (by omega)
      have hne2 := Lib.hid (wb_apart hG.out hOC.out (by decide))
      have hlow := Lib.hid hOC.out.lt
      have hLlh := Lib.hid hLl
      have hLl2 : L.length ≤ 2000 := by omega
      replace hAj := Lib.hid hAj
      replace hBj := Lib.hid hBj
      clear hLl
      go_wp2
      go_region_law (first
        | (go_loud (refine step_append_rd _ rfl (.tmp 39) (.tmp 47) 22 rfl w3.heap.size 3 i0 (.int .i64 0) 1 8 Try.underlying22 hii hz0 hz1 hz2 rfl (by decide) _ L.length (iC L) rfl ((hOC.out.alloc _).drew) _ 1 1 rfl (Nat.le_refl _) (by intro h; cases h) (iC [a - b]) rfl (rd_oneN _ _ _ _ (by simp)) (iC_one _) (by unfold maxLen; omega) (by omega) (by simp; omega) ?_); intro v5 w5 hown5 hgrow5 hwhere5; (obtain ⟨z5, c5, rfl, -, -⟩ := (OwR.of hown5).form); (have hgr : (wr.alloc (.cells #[.int .i64 (a - b)] 3)).drew.grownBy w5 (Value.ownBlock (.slice xL L.length cL)) := hgrow5); (have hg5 : wr.grownBy w5 (Value.ownBlock (.slice xL L.length cL)) := (show wr.grownBy (wr.alloc (.cells #[.int .i64 (a - b)] 3)).drew _ from grown_drewC (World.grownBy_alloc wr _ _)).trans hgr); (have V5 := Lib.hid (hG.out.grownC hg5 hne2.out)); (have c50 : w5.cell? ⟨g, 0, none⟩ = some (.slice xS Y.length cS) := (V5.out.read 0).trans rfl); (have c51 : w5.cell? ⟨g, 1, none⟩ = some (.slice xL L.length cL) := (V5.out.read 1).trans rfl); (have f50 := V5.out.free 1); (have in5 := V5.out.inside)))
      all_goals
        have hB5 : Below w.heap.size w w5 := hB.grown hg5 hB.size (fun k hk => by have := (hlow.out k hk).1; omega)
        have hLn : (L ++ [a - b]).length = L.length + 1 := by simp
        have hO5 : Hid (w5.ownsRow w3.heap.size 3 1 (.slice z5 (L ++ [a - b]).length c5) (L ++ [a - b]).length (iC (L ++ [a - b]))) := by
          have h6 := hown5
          rw [← iC_appN] at h6
          rw [hLn]
          exact h6
        have hS5 : Hid (w5.ownsRow w3.heap.size 3 1 (.slice xS Y.length cS) Y.length (iC Y)) := hOS.out.kept hg5 (by
          cases hv : (Value.slice xS Y.length cS).ownBlock with
          | none => exact .inl rfl
          | some q => exact .inr (fun e => hnx.out q hv e.symm))
        have hnx5 : Hid (∀ k, (Value.slice xS Y.length cS).ownBlock = some k → (Value.slice z5 (L ++ [a - b]).length c5).ownBlock ≠ some k) := by
          intro q hq e
          rw [hLn] at e
          rcases hwhere5 with h7 | h7
          · rw [h7] at e
            exact hnx.out q hq e
          · rw [h7] at e
            have h8 := (hOS.out.lt q hq).2
            injection e with e
            have h9 : (wr.alloc (.cells #[.int .i64 (a - b)] 3)).heap.size = wr.heap.size + 1 := World.size_alloc _ _
            have h10 : (wr.alloc (.cells #[.int .i64 (a - b)] 3)).drew.heap.size = (wr.alloc (.cells #[.int .i64 (a - b)] 3)).heap.size := rfl
            omega
        have tr5 : Hid (Tri3 w5 w.heap.size x Y.length c (some ⟨ba, oa, none⟩) A.length d x2 Z.length c2 (some ⟨bb, ob, none⟩) B.length d2) := ⟨tr.out.1.grown hg5 (fun e => by have := (hlow.out _ e.symm).1; omega), tr.out.2.1.grown hg5 (fun e => by have := (hlow.out _ e.symm).1; omega), tr.out.2.2.grownC hg5 (fun e => by have := (hlow.out _ e).1; omega)⟩
        have hs5 := hg5.size
        have hO6 := Lib.hid (hO5.out.kept (grown_setU w5 ⟨g, 1, none⟩ (.slice z5 (L.length + 1) c5)) (by
          cases hv : (Value.slice z5 (L ++ [a - b]).length c5).ownBlock with
          | none => exact .inl rfl
          | some q => exact .inr (fun e => wb_apart V5.out hO5.out (by decide) (by rw [hv, e]))))
        have hS6 := Lib.hid (hS5.out.kept (grown_setU w5 ⟨g, 1, none⟩ (.slice z5 (L.length + 1) c5)) (by
          cases hv : (Value.slice xS Y.length cS).ownBlock with
          | none => exact .inl rfl
          | some q => exact .inr (fun e => wb_apart V5.out hS5.out (by decide) (by rw [hv, e]))))
        have tr6 : Hid (Tri3 (w5.setCell ⟨g, 1, none⟩ (.slice z5 (L.length + 1) c5)) w.heap.size x Y.length c (some ⟨ba, oa, none⟩) A.length d x2 Z.length c2 (some ⟨bb, ob, none⟩) B.length d2) := ⟨tr5.out.1.grown (grown_setU w5 ⟨g, 1, none⟩ _) (by intro e; injection e with e; simp at e; omega), tr5.out.2.1.grown (grown_setU w5 ⟨g, 1, none⟩ _) (by intro e; injection e with e; simp at e; omega), tr5.out.2.2.off ⟨g, 1, none⟩ (by show w.heap.size + 1 + 1 ≠ g; omega) _⟩
        have V6 : Hid (Wb (w5.setCell ⟨g, 1, none⟩ (.slice z5 (L.length + 1) c5)) g 27 #[.slice xS Y.length cS, .slice z5 (L ++ [a - b]).length c5]) := by rw [hLn]; exact V5.out.put 1 _
        have hB6 : Below w.heap.size w (w5.setCell ⟨g, 1, none⟩ (.slice z5 (L.length + 1) c5)) := Below.setCell (p := ⟨g, 1, none⟩) hB5 (by show w.heap.size ≤ g; omega) _
        clear hgrow5 hwhere5 hgr hown5 g0 g1 ara arb arc bra brb brc hg5 c50 c51 hLn
        go_wp2
        go_roundw
        case rel => exact ⟨j + 1, L ++ [a - b], z5, c5, by omega, by go_num, by rw [List.length_append, hLlh.out]; rfl, by unfold Hid; rw [hst.out, ← hL.out], V6.out, hS6.out, hO6.out, hnx5.out, tr6.out, hB6, by rw [World.size_setCell]; omega⟩
        case measure => simp [intOf]; omega
    · have hij : j = A.length := by omega
      subst hij
      have hLe : Hid (L = dfC A B) := by
        unfold Hid
        rw [hL.out, List.take_length, List.take_of_length_le (by have := hlh.out; omega)]
      have hdlen := Lib.hid (dfC_len hlh.out)
      have hci : Hid (CIn wr xS xL Y L) := by
        refine ⟨⟨hmY, hh.out.1.2.1, Rd.of_own hOS.out⟩, ⟨by omega, fun n hn => ?_, Rd.of_own hOC.out⟩⟩
        rw [hLe.out] at hn
        obtain ⟨i, hi, e⟩ := List.getElem_of_mem hn
        have hi2 : i < A.length := by rw [← hdlen.out]; exact hi
        have hA1 : A[i]? = some A[i] := List.getElem?_eq_getElem hi2
        have hB1 : B[i]? = some (B[i]'(by have := hlh.out; omega)) := List.getElem?_eq_getElem (by have := hlh.out; omega)
        have h6 := dfC_at hA1 hB1
        rw [List.getElem?_eq_getElem hi, e] at h6
        have := hbA.out i _ hA1
        have := hbB.out i _ hB1
        have h7 := Option.some.inj h6
        unfold IsI64
        omega
      have hgood : Hid (cgB Y L = inR (dfC A B) (-1000000) 1000000) := by
        unfold Hid
        rw [hLe.out]
        have h1 := hg2h.out
        rw [← hYZ.out] at h1
        exact dq_good hg1h.out h1
      have ze := tr.out.2.2.inside
      have hLlh := Lib.hid hLl
      clear hLl
      go_wp2_with fail
      refine (cbIf_any xS xL cS cL Y L wr hci.out).mono ?_
      rintro e w5 ⟨h5, hb5⟩
      have B5 : Below w.heap.size w w5 := Below.via' hB hb5
      have hs5 : w3.heap.size ≤ w5.heap.size := by have := hb5.size; omega
      have z5 := tr.out.2.2.kept hb5
      have z5a : w5.cell? ⟨w.heap.size + 1 + 1, 0, none⟩ = some (.slice none 0 0) := (z5.read 0).trans rfl
      have z5b : w5.cell? ⟨w.heap.size + 1 + 1, 1, none⟩ = some (.slice none 0 0) := (z5.read 1).trans rfl
      have z5c := z5.free 0
      have z5d := z5.free 1
      have z5e := z5.inside
      have hS5 := Lib.hid (own_below hOS.out hb5)
      have hC5 := Lib.hid (own_below hOC.out hb5)
      clear z5 hb5 g0 g1 gi ara arb arc bra brb brc
      rcases h5 with ⟨hr, rfl⟩ | ⟨hr, rfl⟩
      · have hv := Lib.hid (dq_yes (dq_ok hg1h.out hg2h.out hg3h.out (hgood.out.symm.trans hr)))
        clear hr
        go_wp2
        refine bodyPost_ret (v := .tuple #[.agg #[.slice xS Y.length cS, .slice xL L.length cL], .bool true]) (by simp [results, Try.results39, go_sem, *]) rfl ?_
        refine retCu_yes hv.out.1 (by rw [hv.out.2, hLe.out]) ?_ ?_
        · refine OwU.more (lo := w3.heap.size) (owU_of ?_ ?_ ?_ hnx.out) hz3 (Nat.le_refl _)
          · simp only [World.size_setCell]
            exact hs5
          · exact ((hS5.out.kept (grown_setU _ _ _) (own_ne_lt hS5.out (by show w.heap.size + 1 + 1 < w3.heap.size; omega))).kept (grown_setU _ _ _) (own_ne_lt hS5.out (by show w.heap.size + 1 + 1 < w3.heap.size; omega)))
          · exact ((hC5.out.kept (grown_setU _ _ _) (own_ne_lt hC5.out (by show w.heap.size + 1 + 1 < w3.heap.size; omega))).kept (grown_setU _ _ _) (own_ne_lt hC5.out (by show w.heap.size + 1 + 1 < w3.heap.size; omega)))
        · repeat (refine Below.setCell ?_ (by simp; try omega) _)
          exact B5
      · have hv := Lib.hid (dq_no (dq_no4 Y Z (hgood.out.symm.trans hr)))
        clear hr
        go_wp2
        refine bodyPost_ret (v := .tuple #[.agg #[.slice none 0 0, .slice none 0 0], .bool false]) (by simp [results, Try.results39, go_sem, *]) rfl (retCu_no hv.out.1 hv.out.2 ?_)
        repeat (refine Below.setCell ?_ (by simp; try omega) _)
        exact B5
end Go.Proofs.Ytnmpigedhpdenaa
