import Derived.Test.YtnmpigedhpdenaaPQrA
import Derived.Test.YtnmpigedhpdenaaCbP
import Derived.Test.YtnmpigedhpdenaaAtS
import Derived.Test.YtnmpigedhpdenaaCmM
import Derived.Test.YtnmpigedhpdenaaCbV
import Derived.Laws.CopyOwn
namespace Go.Proofs.Ytnmpigedhpdenaa
open Go.RowKit
set_option maxRecDepth 100000

theorem grown_drewC {w w1 : World} {r : Option Nat} (h : w.grownBy w1 r) : w.grownBy w1.drew r := ⟨h.os, h.tape, h.output, h.size, h.block⟩
theorem Wb.grownC {w w' : World} {g : Nat} {t : TypeId} {cs : Array Value} {r : Option Nat} (h : Wb w g t cs) (hg : w.grownBy w' r) (hne : r ≠ some g) : Wb w' g t cs := (hg.block g h.inside (fun e => hne e.symm)).trans h
set_option maxHeartbeats 16000000 in
theorem sDi_any (x y x2 y2 : Option Addr) (c d c2 d2 : Nat) (Y A Z B : List Int) (w : World) (h : CIn w x y Y A) (k : CIn w x2 y2 Z B) (hcY : Y.length ≤ c) (hnY : x = none → c = 0) (_ : A.length ≤ d) (_ : y = none → d = 0) :
    Calls Try.prog 39 #[.agg #[.slice x Y.length c, .slice y A.length d], .agg #[.slice x2 Z.length c2, .slice y2 B.length d2]] w (RetCu (dqR Y A Z B) (dqB Y A Z B) w) := by
  obtain ⟨i0, hii, hz0, hz1, hz2⟩ := info_parts Try.infoInt
  have hmY := h.1.1
  have hmA := h.2.1
  have hh := Lib.hid h
  have hk := Lib.hid k
  clear h k
  have t0n := Tri3.new w x Y.length c y A.length d x2 Z.length c2 y2 B.length d2
  obtain ⟨w0, hw0⟩ : ∃ w0, w0 = ((w.alloc (.cells #[.slice x Y.length c, .slice y A.length d] 27)).alloc (.cells #[.slice x2 Z.length c2, .slice y2 B.length d2] 27)).alloc (.cells #[.slice none 0 0, .slice none 0 0] 27) := ⟨_, rfl⟩
  have B0 : Below w.heap.size w w0 := by rw [hw0]; exact (by repeat (first | exact Below.refl _ _ | assumption | refine Below.drew ?_ | refine below_drewN ?_ _ | refine Below.alloc' ?_ _ | (refine Below.setCell ?_ (by first | omega | (simp; done) | (simp; omega) | exact Below.size (by assumption) | exact Nat.le_trans (Below.size (by assumption)) (by simp)) _) | (refine Below.via' ?_ (by assumption)) | (refine Below.alloc ?_ (by first | omega | (simp; done) | (simp; omega) | exact Below.size (by assumption) | exact Nat.le_trans (Below.size (by assumption)) (by simp)) _) | (refine Below.via ?_ (by assumption) (by first | omega | (simp; done) | (simp; omega) | exact Below.size (by assumption) | exact Nat.le_trans (Below.size (by assumption)) (by simp)))))
  rw [← hw0] at t0n
  have t0 := Lib.hid t0n
  clear t0n
  go_enter Try.func39, Try.ntmps39
  go_wp2_with fail
  rw [← hw0]
  replace hw0 := Lib.hid hw0
  refine (cbGood_any _ _ _ _ Y A _ (hh.out.below B0)).mono ?_
  rintro e w1 ⟨rfl, hb1⟩
  have B1 : Below w.heap.size w w1 := Below.via' B0 hb1
  have t1 := Lib.hid (t0.out.below hb1)
  try clear a0a a0b a0c b0a b0b b0c z0a z0b z0c z0d z0e
  clear hb1
  obtain ⟨⟨a1a, a1b, a1c⟩, ⟨b1a, b1b, b1c⟩, zz1⟩ := t1.out
  have z1a := (zz1.read 0).trans rfl
  have z1b := (zz1.read 1).trans rfl
  have z1c := zz1.free 0
  have z1d := zz1.free 1
  have z1e := zz1.inside
  clear zz1
  cases hg1 : cgB Y A
  · have hv := Lib.hid (dq_no (dq_no1 Z B hg1))
    clear hg1
    go_wp2
    refine bodyPost_ret (v := .tuple #[.agg #[.slice none 0 0, .slice none 0 0], .bool false]) (by simp [results, Try.results39, go_sem, *]) rfl (retCu_no hv.out.1 hv.out.2 ?_)
    repeat (refine Below.setCell ?_ (by simp; try omega) _)
    exact B1
  have hg1h := Lib.hid hg1
  clear hg1
  go_wp2_with fail
  refine (cbGood_any _ _ _ _ Z B _ (hk.out.below B1)).mono ?_
  rintro e w2 ⟨rfl, hb2⟩
  have B2 : Below w.heap.size w w2 := Below.via' B1 hb2
  have t2 := Lib.hid (t1.out.below hb2)
  try clear a1a a1b a1c b1a b1b b1c z1a z1b z1c z1d z1e
  clear hb2
  obtain ⟨⟨a2a, a2b, a2c⟩, ⟨b2a, b2b, b2c⟩, zz2⟩ := t2.out
  have z2a := (zz2.read 0).trans rfl
  have z2b := (zz2.read 1).trans rfl
  have z2c := zz2.free 0
  have z2d := zz2.free 1
  have z2e := zz2.inside
  clear zz2
  cases hg2 : cgB Z B
  · have hv := Lib.hid (dq_no (dq_no2 Y A hg2))
    clear hg2
    go_wp2
    refine bodyPost_ret (v := .tuple #[.agg #[.slice none 0 0, .slice none 0 0], .bool false]) (by simp [results, Try.results39, go_sem, *]) rfl (retCu_no hv.out.1 hv.out.2 ?_)
    repeat (refine Below.setCell ?_ (by simp; try omega) _)
    exact B2
  have hg2h := Lib.hid hg2
  clear hg2
  go_wp2_with fail
  refine (sameI_any _ _ _ _ Y Z _ hmY (hh.out.1.2.2.below B2) (hk.out.1.2.2.below B2)).mono ?_
  rintro e w3 ⟨rfl, hb3⟩
  have B3 : Below w.heap.size w w3 := Below.via' B2 hb3
  have t3 := Lib.hid (t2.out.below hb3)
  try clear a2a a2b a2c b2a b2b b2c z2a z2b z2c z2d z2e
  clear hb3
  obtain ⟨⟨a3a, a3b, a3c⟩, ⟨b3a, b3b, b3c⟩, zz3⟩ := t3.out
  have z3a := (zz3.read 0).trans rfl
  have z3b := (zz3.read 1).trans rfl
  have z3c := zz3.free 0
  have z3d := zz3.free 1
  have z3e := zz3.inside
  clear zz3
  cases hg3 : sqB Y Z
  · have hv := Lib.hid (dq_no (dq_no3 A B hg3))
    clear hg3
    go_wp2
    refine bodyPost_ret (v := .tuple #[.agg #[.slice none 0 0, .slice none 0 0], .bool false]) (by simp [results, Try.results39, go_sem, *]) rfl (retCu_no hv.out.1 hv.out.2 ?_)
    repeat (refine Below.setCell ?_ (by simp; try omega) _)
    exact B3
  have hg3h := Lib.hid hg3
  have hYZ := Lib.hid (show Y = Z from of_decide_eq_true hg3)
  have hl := dq_len hg1h.out hg2h.out hg3
  have hlh := Lib.hid hl
  have hA2 : A.length ≤ 2000 := cf_len (cg_get hg1h.out).1
  have hbA := Lib.hid (fun j a (hj : A[j]? = some a) => inR_at (cf_get (cg_get hg1h.out).1).2.2 hj)
  have hbB := Lib.hid (fun j a (hj : B[j]? = some a) => inR_at (cf_get (cg_get hg2h.out).1).2.2 hj)
  clear hg3 hl
  have hw3 := z3e
  go_wp2_with fail
  refine (l1Own_any x c Y _ hmY hcY hnY (hh.out.1.2.2.below B3)).mono ?_
  rintro e w4 ⟨uS, rfl, hoS, hb4⟩
  obtain ⟨xS, cS, rfl, -, -⟩ := (OwR.of hoS).form
  have hgl := hb4.size
  have B4 : Below w.heap.size w w4 := Below.via' B3 hb4
  have t4 := Lib.hid (t3.out.below hb4)
  try clear a3a a3b a3c b3a b3b b3c z3a z3b z3c z3d z3e
  clear hb4
  obtain ⟨⟨a4a, a4b, a4c⟩, ⟨b4a, b4b, b4c⟩, zz4⟩ := t4.out
  have z4a := (zz4.read 0).trans rfl
  have z4b := (zz4.read 1).trans rfl
  have z4c := zz4.free 0
  have z4d := zz4.free 1
  have z4e := zz4.inside
  clear zz4
  have hgw : w.heap.size + 1 + 1 < w4.heap.size := by omega
  have hGh := Lib.hid (Wb.new w4 27 #[.slice xS Y.length cS, .slice none 0 0])
  have hOSh := Lib.hid (hoS.alloc (.cells #[.slice xS Y.length cS, .slice none 0 0] 27))
  have hz3 := B3.size
  have t5 := Lib.hid (t4.out.below (show Below w4.heap.size w4 (w4.alloc (.cells #[.slice xS Y.length cS, .slice none 0 0] 27)) from (by repeat (first | exact Below.refl _ _ | assumption | refine Below.drew ?_ | refine below_drewN ?_ _ | refine Below.alloc' ?_ _ | (refine Below.setCell ?_ (by first | omega | (simp; done) | (simp; omega) | exact Below.size (by assumption) | exact Nat.le_trans (Below.size (by assumption)) (by simp)) _) | (refine Below.via' ?_ (by assumption)) | (refine Below.alloc ?_ (by first | omega | (simp; done) | (simp; omega) | exact Below.size (by assumption) | exact Nat.le_trans (Below.size (by assumption)) (by simp)) _) | (refine Below.via ?_ (by assumption) (by first | omega | (simp; done) | (simp; omega) | exact Below.size (by assumption) | exact Nat.le_trans (Below.size (by assumption)) (by simp)))))))
  have B5 : Below w.heap.size w (w4.alloc (.cells #[.slice xS Y.length cS, .slice none 0 0] 27)) := (by repeat (first | exact Below.refl _ _ | assumption | refine Below.drew ?_ | refine below_drewN ?_ _ | refine Below.alloc' ?_ _ | (refine Below.setCell ?_ (by first | omega | (simp; done) | (simp; omega) | exact Below.size (by assumption) | exact Nat.le_trans (Below.size (by assumption)) (by simp)) _) | (refine Below.via' ?_ (by assumption)) | (refine Below.alloc ?_ (by first | omega | (simp; done) | (simp; omega) | exact Below.size (by assumption) | exact Nat.le_trans (Below.size (by assumption)) (by simp)) _) | (refine Below.via ?_ (by assumption) (by first | omega | (simp; done) | (simp; omega) | exact Below.size (by assumption) | exact Nat.le_trans (Below.size (by assumption)) (by simp)))))
  obtain ⟨g, hg⟩ : ∃ g, g = w4.heap.size := ⟨_, rfl⟩
  clear hoS
  go_wp2
  rw [← hg] at hGh hgw hgl ⊢
  replace hg := Lib.hid hg
  clear a4a a4b b4a b4b z4a z4b z4c z4d z4e
  go_loopw [33] (fun q wr => ∃ (j : Nat) (L : List Int) (xC : Option Addr) (cC : Nat), j ≤ A.length ∧ q = .int .i64 j ∧ L.length = j ∧ Hid (L = dfC (A.take j) (B.take j)) ∧ Hid (Wb wr g 27 #[.slice xS Y.length cS, .slice xC L.length cC]) ∧ Hid (wr.ownsRow w3.heap.size 3 1 (.slice xS Y.length cS) Y.length (iC Y)) ∧ Hid (wr.ownsRow w3.heap.size 3 1 (.slice xC L.length cC) L.length (iC L)) ∧ Hid (∀ k, (Value.slice xS Y.length cS).ownBlock = some k → (Value.slice xC L.length cC).ownBlock ≠ some k) ∧ Hid (Tri3 wr w.heap.size x Y.length c y A.length d x2 Z.length c2 y2 B.length d2) ∧ Below w.heap.size w wr ∧ w3.heap.size ≤ wr.heap.size) (fun q _ => A.length - (intOf q).toNat)
  case atStart => exact ⟨0, [], none, 0, by omega, by go_num, rfl, rfl, hGh.out, hOSh.out, World.ownsRow_nil _ _ _ _, (fun k _ e => by cases e), t5.out, B5, by have h9 := hgl; have h8 := hg.out; rw [World.size_alloc]; omega⟩
  case round =>
    clear hGh hOSh t5 B5
    obtain ⟨j, L, xL, cL, hj, rfl, hLl, hL, hG, hOS, hOC, hnx, tr, hB, hszr⟩ := hrel
    have g0 : wr.cell? ⟨g, 0, none⟩ = some (.slice xS Y.length cS) := (hG.out.read 0).trans rfl
    have g1 : wr.cell? ⟨g, 1, none⟩ = some (.slice xL L.length cL) := (hG.out.read 1).trans rfl
    have gi := hG.out.inside
    have gf := hG.out.free 1
    obtain ⟨⟨ara, arb, arc⟩, ⟨bra, brb, brc⟩, zzr⟩ := tr.out
    clear zzr
    by_cases hlt : j < A.length
    · obtain ⟨ba, oa, a, rfl, hba, hAj, hca⟩ := (hh.out.below hB).2.2.2.int hlt
      obtain ⟨bb, ob, b, rfl, hbb, hBj, hcb⟩ := (hk.out.below hB).2.2.2.int (i := j) (by have := hlh.out; omega)
      have b1 := hbA.out j _ hAj
      have b2 := hbB.out j _ hBj
      have hst := Lib.hid (dfC_snoc hAj hBj)
      have hlt' : (j : Int) < (A.length : Int) := by omega
      have hlt2 : (j : Int) < (B.length : Int) := by have := hlh.out; omega
      have hq1 : IntKind.i64.wrap (a - b) = a - b := IntWalk.i64_in _ (by omega)
      have hne2 := Lib.hid (wb_apart hG.out hOC.out (by decide))
      have hlow := Lib.hid hOC.out.lt
      have hLlh := Lib.hid hLl
      have hLl2 : L.length ≤ 2000 := by omega
      replace hAj := Lib.hid hAj
      replace hBj := Lib.hid hBj
      clear hLl
      go_wp2
      go_region_law (first
        | (go_loud (refine step_append_rd _ rfl (.tmp 39) (.tmp 47) 22 rfl w3.heap.size 3 i0 (.int .i64 0) 1 8 Try.underlying22 hii hz0 hz1 hz2 rfl (by decide) _ L.length (iC L) rfl ((hOC.out.alloc _).drew) _ 1 1 rfl (Nat.le_refl _) (by intro h; cases h) (iC [a - b]) rfl (rd_oneN _ _ _ _ (by simp)) (iC_one _) (by unfold maxLen; omega) (by omega) (by simp; omega) ?_); intro v5 w5 hown5 hgrow5 hwhere5; (obtain ⟨z5, c5, rfl, -, -⟩ := (OwR.of hown5).form); (have hgr : (wr.alloc (.cells #[.int .i64 (a - b)] 3)).drew.grownBy w5 (Value.ownBlock (.slice xL L.length cL)) := hgrow5); (have hg5 : wr.grownBy w5 (Value.ownBlock (.slice xL L.length cL)) := (show wr.grownBy (wr.alloc (.cells #[.int .i64 (a - b)] 3)).drew _ from grown_drewC (World.grownBy_alloc wr _ _)).trans hgr); (have V5 := Lib.hid (hG.out.grownC hg5 hne2.out)); (have c50 : w5.cell? ⟨g, 0, none⟩ = some (.slice xS Y.length cS) := (V5.out.read 0).trans rfl); (have c51 : w5.cell? ⟨g, 1, none⟩ = some (.slice xL L.length cL) := (V5.out.read 1).trans rfl); (have f50 := V5.out.free 1); (have in5 := V5.out.inside)))
      all_goals
        have hB5 : Below w.heap.size w w5 := hB.grown hg5 hB.size (fun k hk => by have := (hlow.out k hk).1; omega)
        have hLn : (L ++ [a - b]).length = L.length + 1 := by simp
        have hO5 : Hid (w5.ownsRow w3.heap.size 3 1 (.slice z5 (L ++ [a - b]).length c5) (L ++ [a - b]).length (iC (L ++ [a - b]))) := by
          have h6 := hown5
          rw [← iC_appN] at h6
          rw [hLn]
          exact h6
        have hS5 : Hid (w5.ownsRow w3.heap.size 3 1 (.slice xS Y.length cS) Y.length (iC Y)) := hOS.out.kept hg5 (by
          cases hv : (Value.slice xS Y.length cS).ownBlock with
          | none => exact .inl rfl
          | some q => exact .inr (fun e => hnx.out q hv e.symm))
        have hnx5 : Hid (∀ k, (Value.slice xS Y.length cS).ownBlock = some k → (Value.slice z5 (L ++ [a - b]).length c5).ownBlock ≠ some k) := by
          intro q hq e
          rw [hLn] at e
          rcases hwhere5 with h7 | h7
          · rw [h7] at e
            exact hnx.out q hq e
          · rw [h7] at e
            have h8 := (hOS.out.lt q hq).2
            injection e with e
            have h9 : (wr.alloc (.cells #[.int .i64 (a - b)] 3)).heap.size = wr.heap.size + 1 := World.size_alloc _ _
            have h10 : (wr.alloc (.cells #[.int .i64 (a - b)] 3)).drew.heap.size = (wr.alloc (.cells #[.int .i64 (a - b)] 3)).heap.size := rfl
            omega
        have tr5 : Hid (Tri3 w5 w.heap.size x Y.length c (some ⟨ba, oa, none⟩) A.length d x2 Z.length c2 (some ⟨bb, ob, none⟩) B.length d2) := ⟨tr.out.1.grown hg5 (fun e => by have := (hlow.out _ e.symm).1; omega), tr.out.2.1.grown hg5 (fun e => by have := (hlow.out _ e.symm).1; omega), tr.out.2.2.grownC hg5 (fun e => by have := (hlow.out _ e).1; omega)⟩
        have hs5 := hg5.size
        have hO6 := Lib.hid (hO5.out.kept (grown_setU w5 ⟨g, 1, none⟩ (.slice z5 (L.length + 1) c5)) (by
          cases hv : (Value.slice z5 (L ++ [a - b]).length c5).ownBlock with
          | none => exact .inl rfl
          | some q => exact .inr (fun e => wb_apart V5.out hO5.out (by decide) (by rw [hv, e]))))
        have hS6 := Lib.hid (hS5.out.kept (grown_setU w5 ⟨g, 1, none⟩ (.slice z5 (L.length + 1) c5)) (by
          cases hv : (Value.slice xS Y.length cS).ownBlock with
          | none => exact .inl rfl
          | some q => exact .inr (fun e => wb_apart V5.out hS5.out (by decide) (by rw [hv, e]))))
        have tr6 : Hid (Tri3 (w5.setCell ⟨g, 1, none⟩ (.slice z5 (L.length + 1) c5)) w.heap.size x Y.length c (some ⟨ba, oa, none⟩) A.length d x2 Z.length c2 (some ⟨bb, ob, none⟩) B.length d2) := ⟨tr5.out.1.grown (grown_setU w5 ⟨g, 1, none⟩ _) (by intro e; injection e with e; simp at e; omega), tr5.out.2.1.grown (grown_setU w5 ⟨g, 1, none⟩ _) (by intro e; injection e with e; simp at e; omega), tr5.out.2.2.off ⟨g, 1, none⟩ (by show w.heap.size + 1 + 1 ≠ g; omega) _⟩
        have V6 : Hid (Wb (w5.setCell ⟨g, 1, none⟩ (.slice z5 (L.length + 1) c5)) g 27 #[.slice xS Y.length cS, .slice z5 (L ++ [a - b]).length c5]) := by rw [hLn]; exact V5.out.put 1 _
        have hB6 : Below w.heap.size w (w5.setCell ⟨g, 1, none⟩ (.slice z5 (L.length + 1) c5)) := Below.setCell (p := ⟨g, 1, none⟩) hB5 (by show w.heap.size ≤ g; omega) _
        clear hgrow5 hwhere5 hgr hown5 g0 g1 ara arb arc bra brb brc hg5 c50 c51 hLn
        go_wp2
        go_roundw
        case rel => exact ⟨j + 1, L ++ [a - b], z5, c5, by omega, by go_num, by rw [List.length_append, hLlh.out]; rfl, by unfold Hid; rw [hst.out, ← hL.out], V6.out, hS6.out, hO6.out, hnx5.out, tr6.out, hB6, by rw [World.size_setCell]; omega⟩
        case measure => simp [intOf]; omega
    · have hij : j = A.length := by omega
      subst hij
      have hLe : Hid (L = dfC A B) := by
        unfold Hid
        rw [hL.out, List.take_length, List.take_of_length_le (by have := hlh.out; omega)]
      have hdlen := Lib.hid (dfC_len hlh.out)
      have hci : Hid (CIn wr xS xL Y L) := by
        refine ⟨⟨hmY, hh.out.1.2.1, Rd.of_own hOS.out⟩, ⟨by omega, fun n hn => ?_, Rd.of_own hOC.out⟩⟩
        rw [hLe.out] at hn
        obtain ⟨i, hi, e⟩ := List.getElem_of_mem hn
        have hi2 : i < A.length := by rw [← hdlen.out]; exact hi
        have hA1 : A[i]? = some A[i] := List.getElem?_eq_getElem hi2
        have hB1 : B[i]? = some (B[i]'(by have := hlh.out; omega)) := List.getElem?_eq_getElem (by have := hlh.out; omega)
        have h6 := dfC_at hA1 hB1
        rw [List.getElem?_eq_getElem hi, e] at h6
        have := hbA.out i _ hA1
        have := hbB.out i _ hB1
        have h7 := Option.some.inj h6
        unfold IsI64
        omega
      have hgood : Hid (cgB Y L = inR (dfC A B) (-1000000) 1000000) := by
        unfold Hid
        rw [hLe.out]
        have h1 := hg2h.out
        rw [← hYZ.out] at h1
        exact dq_good hg1h.out h1
      have ze := tr.out.2.2.inside
      have hLlh := Lib.hid hLl
      clear hLl
      go_wp2_with fail
      refine (cbIf_any xS xL cS cL Y L wr hci.out).mono ?_
      rintro e w5 ⟨h5, hb5⟩
      have B5 : Below w.heap.size w w5 := Below.via' hB hb5
      have hs5 : w3.heap.size ≤ w5.heap.size := by have := hb5.size; omega
      have z5 := tr.out.2.2.kept hb5
      have z5a : w5.cell? ⟨w.heap.size + 1 + 1, 0, none⟩ = some (.slice none 0 0) := (z5.read 0).trans rfl
      have z5b : w5.cell? ⟨w.heap.size + 1 + 1, 1, none⟩ = some (.slice none 0 0) := (z5.read 1).trans rfl
      have z5c := z5.free 0
      have z5d := z5.free 1
      have z5e := z5.inside
      have hS5 := Lib.hid (own_below hOS.out hb5)
      have hC5 := Lib.hid (own_below hOC.out hb5)
      clear z5 hb5 g0 g1 gi ara arb arc bra brb brc
      rcases h5 with ⟨hr, rfl⟩ | ⟨hr, rfl⟩
      · have hv := Lib.hid (dq_yes (dq_ok hg1h.out hg2h.out hg3h.out (hgood.out.symm.trans hr)))
        clear hr
        go_wp2
        refine bodyPost_ret (v := .tuple #[.agg #[.slice xS Y.length cS, .slice xL L.length cL], .bool true]) (by simp [results, Try.results39, go_sem, *]) rfl ?_
        refine retCu_yes hv.out.1 (by rw [hv.out.2, hLe.out]) ?_ ?_
        · refine OwU.more (lo := w3.heap.size) (owU_of ?_ ?_ ?_ hnx.out) hz3 (Nat.le_refl _)
          · simp only [World.size_setCell]
            exact hs5
          · exact ((hS5.out.kept (grown_setU _ _ _) (own_ne_lt hS5.out (by show w.heap.size + 1 + 1 < w3.heap.size; omega))).kept (grown_setU _ _ _) (own_ne_lt hS5.out (by show w.heap.size + 1 + 1 < w3.heap.size; omega)))
          · exact ((hC5.out.kept (grown_setU _ _ _) (own_ne_lt hC5.out (by show w.heap.size + 1 + 1 < w3.heap.size; omega))).kept (grown_setU _ _ _) (own_ne_lt hC5.out (by show w.heap.size + 1 + 1 < w3.heap.size; omega)))
        · repeat (refine Below.setCell ?_ (by simp; try omega) _)
          exact B5
      · have hv := Lib.hid (dq_no (dq_no4 Y Z (hgood.out.symm.trans hr)))
        clear hr
        go_wp2
        refine bodyPost_ret (v := .tuple #[.agg #[.slice none 0 0, .slice none 0 0], .bool false]) (by simp [results, Try.results39, go_sem, *]) rfl (retCu_no hv.out.1 hv.out.2 ?_)
        repeat (refine Below.setCell ?_ (by simp; try omega) _)
        exact B5
end Go.Proofs.Ytnmpigedhpdenaa

namespace Go.Proofs.Ytnmpigedhpdenaa
open Go.RowKit
set_option maxRecDepth 100000

/-- A cube, handed back. -/
def RetCq (R : List Int × List Int) (w : World) (e : Ending) (w' : World) : Prop :=
  ∃ x c z d, e = .returned (.agg #[.slice x R.1.length c, .slice z R.2.length d]) ∧ OwU w' w.heap.size w'.heap.size (.slice x R.1.length c) (.slice z R.2.length d) R.1 R.2 ∧ Below w.heap.size w w'
/-- The blocks at the beginning of a cut: the cube, the place, the result. -/
def Fr3 (W : World) (g : Nat) (x : Option Addr) (n c : Nat) (y : Option Addr) (k d : Nat) (f0 f1 f2 f3 : Int) : Prop :=
  CQ W g x n c y k d ∧ Wb W (g + 1) 81 #[.int .i64 f0, .int .i64 f1, .int .i64 f2, .int .i64 f3] ∧ Wb W (g + 1 + 1) 27 #[.slice none 0 0, .slice none 0 0]
section
variable {W W' : World} {g : Nat} {x : Option Addr} {n c : Nat} {y : Option Addr} {k d : Nat} {f0 f1 f2 f3 : Int}
theorem Fr3.below (h : Fr3 W g x n c y k d f0 f1 f2 f3) (hb : Below W.heap.size W W') : Fr3 W' g x n c y k d f0 f1 f2 f3 := ⟨h.1.below hb, h.2.1.kept hb, h.2.2.kept hb⟩
theorem Fr3.grown {r : Option Nat} (h : Fr3 W g x n c y k d f0 f1 f2 f3) (hg : W.grownBy W' r) (hr : ∀ q, r = some q → g + 1 + 1 < q) : Fr3 W' g x n c y k d f0 f1 f2 f3 :=
  ⟨h.1.grown hg (fun e => by have := hr _ e.symm; omega), h.2.1.grownC hg (fun e => by have := hr _ e; omega), h.2.2.grownC hg (fun e => by have := hr _ e; omega)⟩
end
theorem mt_four {Z F T : List Int} {i : Int} {a b c d a' b' c' d' f0 f1 f2 f3 : Int} (h : dgX Z i = [a, b, c, d]) (hF : F ++ T = [f0, f1, f2, f3]) (hm : mvL [a, b, c, d] [f0, f1, f2, f3] = [a', b', c', d']) (hl : F.length = Z.length) (hT : ∀ t ∈ T, t = 0 ∨ t = -1) (hTl : T.length = 4 - Z.length) :
    (mtB Z F i = true ↔ (a = a' ∧ b = b' ∧ c = c' ∧ d = d')) := by
  rw [← mv_place i hl hT hTl, h, hF, hm]
  simp
theorem ctU_yes {Z F C : List Int} {i : Nat} {n : Int} (h : mtB Z F i = true) (hn : C[i]? = some n) : ctU Z F C (i + 1) = ctU Z F C i ++ [n] := by
  show (if _ then _ else _) = _
  rw [h, getD_at hn]
  rfl
theorem ctU_no {Z F : List Int} (C : List Int) {i : Nat} (h : mtB Z F i = false) : ctU Z F C (i + 1) = ctU Z F C i := by
  show (if _ then _ else _) = _
  rw [h]
  rfl
set_option maxHeartbeats 16000000 in
theorem cutOf_any (x y : Option Addr) (c d : Nat) (Z C F T : List Int) (f0 f1 f2 f3 : Int) (w : World) (hz : okZ Z = true) (hm : C.length ≤ 2000) (h : CIn w x y Z C) (hF : F ++ T = [f0, f1, f2, f3]) (hl : F.length = Z.length) (hT : ∀ t ∈ T, t = 0 ∨ t = -1) (hTl : T.length = 4 - Z.length) :
    Calls Try.prog 79 #[.agg #[.slice x Z.length c, .slice y C.length d], .agg #[.int .i64 f0, .int .i64 f1, .int .i64 f2, .int .i64 f3]] w (RetCq (opZ Z F, ctU Z F C C.length) w) := by
  obtain ⟨i0, hii, hz0, hz1, hz2⟩ := info_parts Try.infoInt
  have hh := Lib.hid h
  have hzh := Lib.hid hz
  have h4 := okZ_len hz
  have hFh := Lib.hid hF
  have hlh := Lib.hid hl
  have hmt := Lib.hid (fun (i a b c d a' b' c' d' : Int) (e : dgX Z i = [a, b, c, d]) (m : mvL [a, b, c, d] [f0, f1, f2, f3] = [a', b', c', d']) => mt_four e hF m hl hT hTl)
  clear h hz hF hl hT hTl
  have t0 := Lib.hid (show Fr3 ((((w.alloc (.cells #[.slice x Z.length c, .slice y C.length d] 27)).alloc (.cells #[.int .i64 f0, .int .i64 f1, .int .i64 f2, .int .i64 f3] 81)).alloc (.cells #[.slice none 0 0, .slice none 0 0] 27)).alloc (.cells #[.slice none 0 0, .slice none 0 0] 27)) w.heap.size x Z.length c y C.length d f0 f1 f2 f3 by
    refine ⟨(CQ.new w x Z.length c y C.length d 27).below (by repeat (first | exact Below.refl _ _ | assumption | refine Below.drew ?_ | refine below_drewN ?_ _ | refine Below.alloc' ?_ _ | (refine Below.setCell ?_ (by first | omega | (simp; done) | (simp; omega) | exact Below.size (by assumption) | exact Nat.le_trans (Below.size (by assumption)) (by simp)) _) | (refine Below.via' ?_ (by assumption)) | (refine Below.alloc ?_ (by first | omega | (simp; done) | (simp; omega) | exact Below.size (by assumption) | exact Nat.le_trans (Below.size (by assumption)) (by simp)) _) | (refine Below.via ?_ (by assumption) (by first | omega | (simp; done) | (simp; omega) | exact Below.size (by assumption) | exact Nat.le_trans (Below.size (by assumption)) (by simp))))), ?_, ?_⟩
    · have h := (Wb.new (w.alloc (.cells #[.slice x Z.length c, .slice y C.length d] 27)) 81 #[.int .i64 f0, .int .i64 f1, .int .i64 f2, .int .i64 f3]).kept (w' := ((((w.alloc (.cells #[.slice x Z.length c, .slice y C.length d] 27)).alloc (.cells #[.int .i64 f0, .int .i64 f1, .int .i64 f2, .int .i64 f3] 81)).alloc (.cells #[.slice none 0 0, .slice none 0 0] 27)).alloc (.cells #[.slice none 0 0, .slice none 0 0] 27))) (by repeat (first | exact Below.refl _ _ | assumption | refine Below.drew ?_ | refine below_drewN ?_ _ | refine Below.alloc' ?_ _ | (refine Below.setCell ?_ (by first | omega | (simp; done) | (simp; omega) | exact Below.size (by assumption) | exact Nat.le_trans (Below.size (by assumption)) (by simp)) _) | (refine Below.via' ?_ (by assumption)) | (refine Below.alloc ?_ (by first | omega | (simp; done) | (simp; omega) | exact Below.size (by assumption) | exact Nat.le_trans (Below.size (by assumption)) (by simp)) _) | (refine Below.via ?_ (by assumption) (by first | omega | (simp; done) | (simp; omega) | exact Below.size (by assumption) | exact Nat.le_trans (Below.size (by assumption)) (by simp)))))
      rwa [World.size_alloc] at h
    · have h := (Wb.new ((w.alloc (.cells #[.slice x Z.length c, .slice y C.length d] 27)).alloc (.cells #[.int .i64 f0, .int .i64 f1, .int .i64 f2, .int .i64 f3] 81)) 27 #[.slice none 0 0, .slice none 0 0]).kept (w' := ((((w.alloc (.cells #[.slice x Z.length c, .slice y C.length d] 27)).alloc (.cells #[.int .i64 f0, .int .i64 f1, .int .i64 f2, .int .i64 f3] 81)).alloc (.cells #[.slice none 0 0, .slice none 0 0] 27)).alloc (.cells #[.slice none 0 0, .slice none 0 0] 27))) (by repeat (first | exact Below.refl _ _ | assumption | refine Below.drew ?_ | refine below_drewN ?_ _ | refine Below.alloc' ?_ _ | (refine Below.setCell ?_ (by first | omega | (simp; done) | (simp; omega) | exact Below.size (by assumption) | exact Nat.le_trans (Below.size (by assumption)) (by simp)) _) | (refine Below.via' ?_ (by assumption)) | (refine Below.alloc ?_ (by first | omega | (simp; done) | (simp; omega) | exact Below.size (by assumption) | exact Nat.le_trans (Below.size (by assumption)) (by simp)) _) | (refine Below.via ?_ (by assumption) (by first | omega | (simp; done) | (simp; omega) | exact Below.size (by assumption) | exact Nat.le_trans (Below.size (by assumption)) (by simp)))))
      rwa [World.size_alloc, World.size_alloc] at h)
  have v0n := Wb.new (((w.alloc (.cells #[.slice x Z.length c, .slice y C.length d] 27)).alloc (.cells #[.int .i64 f0, .int .i64 f1, .int .i64 f2, .int .i64 f3] 81)).alloc (.cells #[.slice none 0 0, .slice none 0 0] 27)) 27 #[.slice none 0 0, .slice none 0 0]
  rw [World.size_alloc, World.size_alloc, World.size_alloc] at v0n
  obtain ⟨w0, hw0⟩ : ∃ w0, w0 = (((w.alloc (.cells #[.slice x Z.length c, .slice y C.length d] 27)).alloc (.cells #[.int .i64 f0, .int .i64 f1, .int .i64 f2, .int .i64 f3] 81)).alloc (.cells #[.slice none 0 0, .slice none 0 0] 27)).alloc (.cells #[.slice none 0 0, .slice none 0 0] 27) := ⟨_, rfl⟩
  have B0 : Below w.heap.size w w0 := by rw [hw0]; exact (by repeat (first | exact Below.refl _ _ | assumption | refine Below.drew ?_ | refine below_drewN ?_ _ | refine Below.alloc' ?_ _ | (refine Below.setCell ?_ (by first | omega | (simp; done) | (simp; omega) | exact Below.size (by assumption) | exact Nat.le_trans (Below.size (by assumption)) (by simp)) _) | (refine Below.via' ?_ (by assumption)) | (refine Below.alloc ?_ (by first | omega | (simp; done) | (simp; omega) | exact Below.size (by assumption) | exact Nat.le_trans (Below.size (by assumption)) (by simp)) _) | (refine Below.via ?_ (by assumption) (by first | omega | (simp; done) | (simp; omega) | exact Below.size (by assumption) | exact Nat.le_trans (Below.size (by assumption)) (by simp)))))
  have hs0 : w0.heap.size = w.heap.size + 1 + 1 + 1 + 1 := by rw [hw0, World.size_alloc, World.size_alloc, World.size_alloc, World.size_alloc]
  rw [← hw0] at t0 v0n
  have v0 := Lib.hid v0n
  clear v0n
  obtain ⟨⟨a0a, a0b, a0c⟩, -, -⟩ := t0.out
  go_enter Try.func79, Try.ntmps79
  go_wp2_with fail
  rw [← hw0]
  replace hw0 := Lib.hid hw0
  go_wp2
  clear a0a a0b a0c
  go_loopw [14] (fun q wr => ∃ (j : Nat) (zS : Option Addr) (cS : Nat), j ≤ Z.length ∧ q = .int .i64 j ∧ Hid (Wb wr (w.heap.size + 1 + 1 + 1) 27 #[.slice zS (opZ (Z.take j) (F.take j)).length cS, .slice none 0 0]) ∧ Hid (wr.ownsRow w0.heap.size 3 1 (.slice zS (opZ (Z.take j) (F.take j)).length cS) (opZ (Z.take j) (F.take j)).length (iC (opZ (Z.take j) (F.take j)))) ∧ Hid (Fr3 wr w.heap.size x Z.length c y C.length d f0 f1 f2 f3) ∧ Below w.heap.size w wr ∧ w0.heap.size ≤ wr.heap.size) (fun q _ => Z.length - (intOf q).toNat)
  case atStart => exact ⟨0, none, 0, by omega, by go_num, v0.out, World.ownsRow_nil _ _ _ _, t0.out, B0, Nat.le_refl _⟩
  case round =>
    clear v0 t0 B0
    obtain ⟨j, zS, cS, hj, rfl, hV, hS, hT, hB, hsz⟩ := hrel
    obtain ⟨⟨ara, arb, arc⟩, hP, zzr⟩ := hT.out
    by_cases hlt : j < Z.length
    · obtain ⟨bl, off, z, rfl, hbl, hZj, hc0⟩ := (hh.out.below hB).1.2.2.int hlt
      obtain ⟨f, hf, hf2⟩ := four_at (a := f0) (b := f1) (c := f2) (d := f3) (show j < 4 by omega)
      have k0 := (hP.read j).trans hf2
      have k4 := hP.inside
      have hFj : F[j]? = some f := by
        rw [← hFh.out, List.getElem?_append_left (by have := hlh.out; omega)] at hf
        exact hf
      have hst := opZ_step hlh.out hZj hFj
      have v1 : wr.cell? ⟨w.heap.size + 1 + 1 + 1, 0, none⟩ = some (.slice zS (opZ (Z.take j) (F.take j)).length cS) := (hV.out.read 0).trans rfl
      have v2 := hV.out.inside
      have hll := opZ_len (Z.take j) (F.take j)
      have hll2 : (opZ (Z.take j) (F.take j)).length ≤ 4 := by rw [List.length_take] at hll; omega
      have hlt' : (j : Int) < (Z.length : Int) := by omega
      have hlt4 : (j : Int) < 4 := by omega
      have hj0 : (0 : Int) ≤ (j : Int) := by omega
      replace hZj := Lib.hid hZj
      replace hFj := Lib.hid hFj
      replace hf := Lib.hid hf
      clear hP zzr hf2 hll
      by_cases hm1 : f = -1
      · rw [if_pos hm1] at hst
        replace hst := Lib.hid hst
        have hne2 := Lib.hid (wb_apart hV.out hS.out (by decide))
        have hlow := Lib.hid hS.out.lt
        obtain ⟨L, hL⟩ : ∃ L, L = opZ (Z.take j) (F.take j) := ⟨_, rfl⟩
        rw [← hL] at v1 hll2 hst hne2 hlow hS hV
        replace hL := Lib.hid hL
        go_wp2_with (at_builtin; go_loud (refine wpList_append_rd _ rfl (.tmp 24) (.tmp 26) 22 rfl w0.heap.size 3 i0 (.int .i64 0) 1 8 Try.underlying22 hii hz0 hz1 hz2 rfl (by decide) _ L.length (iC L) rfl (hS.out.alloc _) _ 1 1 rfl (Nat.le_refl _) (by intro h; cases h) (iC [z]) rfl (rd_oneN _ _ _ _ (by simp)) (iC_one _) (by unfold maxLen; omega) (by omega) (by simp; omega) ?_); intro v5 w5 hown5 hgrow5 hwhere5; (obtain ⟨z5, c5, rfl, -, -⟩ := (OwR.of hown5).form); (have hg5 : wr.grownBy w5 (Value.ownBlock (.slice zS L.length cS)) := (World.grownBy_alloc wr _ _).trans hgrow5); (have V5 := Lib.hid (hV.out.grownC hg5 hne2.out)); (have c50 : w5.cell? ⟨w.heap.size + 1 + 1 + 1, 0, none⟩ = some (.slice zS L.length cS) := (V5.out.read 0).trans rfl); (have f50 := V5.out.free 0); (have in5 := V5.out.inside))
        have hB5 : Below w.heap.size w w5 := hB.grown hg5 hB.size (fun k hk => by have := (hlow.out k hk).1; omega)
        have hO5 : Hid (w5.ownsRow w0.heap.size 3 1 (.slice z5 (L ++ [z]).length c5) (L ++ [z]).length (iC (L ++ [z]))) := by
          have h6 := hown5
          rw [← iC_appN] at h6
          rw [show (L ++ [z]).length = L.length + 1 by simp]
          exact h6
        have T5 := Lib.hid (hT.out.grown hg5 (fun k hk => by have := (hlow.out k hk).1; omega))
        have hs5 := hg5.size
        have hO6 := Lib.hid (hO5.out.kept (grown_setU w5 ⟨w.heap.size + 1 + 1 + 1, 0, none⟩ (.slice z5 (L.length + 1) c5)) (own_ne_lt hO5.out (by show w.heap.size + 1 + 1 + 1 < w0.heap.size; omega)))
        have V6 : Hid (Wb (w5.setCell ⟨w.heap.size + 1 + 1 + 1, 0, none⟩ (.slice z5 (L.length + 1) c5)) (w.heap.size + 1 + 1 + 1) 27 #[.slice z5 (L ++ [z]).length c5, .slice none 0 0]) := by rw [show (L ++ [z]).length = L.length + 1 by simp]; exact V5.out.put 0 _
        have T6 := Lib.hid (T5.out.grown (grown_setU w5 ⟨w.heap.size + 1 + 1 + 1, 0, none⟩ (.slice z5 (L.length + 1) c5)) (fun k hk => by injection hk with hk; simp at hk; omega))
        have hB6 : Below w.heap.size w (w5.setCell ⟨w.heap.size + 1 + 1 + 1, 0, none⟩ (.slice z5 (L.length + 1) c5)) := Below.setCell (p := ⟨w.heap.size + 1 + 1 + 1, 0, none⟩) hB5 (by show w.heap.size ≤ w.heap.size + 1 + 1 + 1; omega) _
        clear hgrow5 hwhere5 hown5 v1 v2 ara arb arc k0 k4 hg5 c50
        go_wp2
        go_roundw
        case rel => exact ⟨j + 1, z5, c5, by omega, by go_num, (by rw [hst.out]; exact V6), (by rw [hst.out]; exact hO6), T6, hB6, by rw [World.size_setCell]; omega⟩
        case measure => simp [intOf]; omega
      · rw [if_neg hm1, List.append_nil] at hst
        replace hst := Lib.hid hst
        go_wp2
        go_roundw
        case rel => exact ⟨j + 1, zS, cS, by omega, by go_num, (by rw [hst.out]; exact hV), (by rw [hst.out]; exact hS), hT, hB, hsz⟩
        case measure => simp [intOf]; omega
    · have hij : j = Z.length := by omega
      subst hij
      have et := Lib.hid (show opZ (Z.take Z.length) (F.take Z.length) = opZ Z F by rw [List.take_length, List.take_of_length_le (by have := hlh.out; omega)])
      rw [et.out] at hV hS
      have hqm := opZ_len Z F
      obtain ⟨Y, hY⟩ : ∃ Y, Y = opZ Z F := ⟨_, rfl⟩
      rw [← hY] at hV hS hqm
      replace hY := Lib.hid hY
      obtain ⟨w3, rfl⟩ : ∃ u : World, u = wr := ⟨_, rfl⟩
      clear hP zzr
      go_wp2
      clear ara arb arc
      go_loopw [33] (fun q wr => ∃ (i : Nat) (zC : Option Addr) (cC : Nat), i ≤ C.length ∧ q = .int .i64 i ∧ Hid (Wb wr (w.heap.size + 1 + 1 + 1) 27 #[.slice zS Y.length cS, .slice zC (ctU Z F C i).length cC]) ∧ Hid (wr.ownsRow w0.heap.size 3 1 (.slice zS Y.length cS) Y.length (iC Y)) ∧ Hid (wr.ownsRow w0.heap.size 3 1 (.slice zC (ctU Z F C i).length cC) (ctU Z F C i).length (iC (ctU Z F C i))) ∧ Hid (∀ k, (Value.slice zS Y.length cS).ownBlock = some k → (Value.slice zC (ctU Z F C i).length cC).ownBlock ≠ some k) ∧ Hid (Fr3 wr w.heap.size x Z.length c y C.length d f0 f1 f2 f3) ∧ Below w.heap.size w wr ∧ w0.heap.size ≤ wr.heap.size) (fun q _ => C.length - (intOf q).toNat)
      case atStart => exact ⟨0, none, 0, by omega, by go_num, hV.out, hS.out, World.ownsRow_nil _ _ _ _, (fun _ _ e => by cases e), hT.out, hB, hsz⟩
      case round =>
        clear hV hS hT hB hsz
        obtain ⟨i, zC, cC, hi, rfl, hV, hS, hC, hnx, hT, hB, hsz⟩ := hrel
        obtain ⟨⟨ara, arb, arc⟩, hP, zzr⟩ := hT.out
        by_cases hlt : i < C.length
        · obtain ⟨bl, off, n, rfl, hbl, hCi, hc0⟩ := (hh.out.below hB).2.2.2.int hlt
          have hlt' : (i : Int) < (C.length : Int) := by omega
          have hi0 : (0 : Int) ≤ (i : Int) := by omega
          replace hCi := Lib.hid hCi
          clear hP zzr
          go_wp2_with fail
          refine (placeOf_any _ _ Z i _ hzh.out (by omega) (by omega) (hh.out.below hB).1).mono ?_
          rintro e w4 ⟨a, b, c4, d4, hab, rfl, hb4⟩
          have habh := Lib.hid hab
          obtain ⟨w5, hw5⟩ : ∃ w5, w5 = w4.alloc (.cells #[.int .i64 a, .int .i64 b, .int .i64 c4, .int .i64 d4] 81) := ⟨_, rfl⟩
          have hb5 : Below wr.heap.size wr w5 := by rw [hw5]; exact (by repeat (first | exact Below.refl _ _ | assumption | refine Below.drew ?_ | refine below_drewN ?_ _ | refine Below.alloc' ?_ _ | (refine Below.setCell ?_ (by first | omega | (simp; done) | (simp; omega) | exact Below.size (by assumption) | exact Nat.le_trans (Below.size (by assumption)) (by simp)) _) | (refine Below.via' ?_ (by assumption)) | (refine Below.alloc ?_ (by first | omega | (simp; done) | (simp; omega) | exact Below.size (by assumption) | exact Nat.le_trans (Below.size (by assumption)) (by simp)) _) | (refine Below.via ?_ (by assumption) (by first | omega | (simp; done) | (simp; omega) | exact Below.size (by assumption) | exact Nat.le_trans (Below.size (by assumption)) (by simp)))))
          have B5 : Below w.heap.size w w5 := Below.via' hB hb5
          have V5 := Lib.hid (hV.out.kept hb5)
          have S5 := Lib.hid (own_below hS.out hb5)
          have C5 := Lib.hid (own_below hC.out hb5)
          have T5 := Lib.hid (hT.out.below hb5)
          have hs5 := hb5.size
          have P5n := Wb.new w4 81 #[.int .i64 a, .int .i64 b, .int .i64 c4, .int .i64 d4]
          rw [← hw5] at P5n
          have p0 : w5.cell? ⟨w4.heap.size, 0, none⟩ = some (.int .i64 a) := (P5n.read 0).trans rfl
          have p1 : w5.cell? ⟨w4.heap.size, 1, none⟩ = some (.int .i64 b) := (P5n.read 1).trans rfl
          have p2 : w5.cell? ⟨w4.heap.size, 2, none⟩ = some (.int .i64 c4) := (P5n.read 2).trans rfl
          have p3 : w5.cell? ⟨w4.heap.size, 3, none⟩ = some (.int .i64 d4) := (P5n.read 3).trans rfl
          have p4 := P5n.inside
          obtain ⟨-, hP, -⟩ := T5.out
          have q0 : w5.cell? ⟨w.heap.size + 1, 0, none⟩ = some (.int .i64 f0) := (hP.read 0).trans rfl
          have q1 : w5.cell? ⟨w.heap.size + 1, 1, none⟩ = some (.int .i64 f1) := (hP.read 1).trans rfl
          have q2 : w5.cell? ⟨w.heap.size + 1, 2, none⟩ = some (.int .i64 f2) := (hP.read 2).trans rfl
          have q3 : w5.cell? ⟨w.heap.size + 1, 3, none⟩ = some (.int .i64 f3) := (hP.read 3).trans rfl
          have q4 := hP.inside
          clear ara arb arc P5n hP hab hb4
          go_wp2_with fail
          rw [← hw5]
          replace hw5 := Lib.hid hw5
          have heq := fun (W : World) (a' b' c' d' : Int) => run_eq_four W a b c4 d4 a' b' c' d'
          go_region_held3 (fun w' => Below (w5).heap.size (w5) w' ∧ (∀ b o, b < (w5).heap.size → w'.cell? ⟨b, o, none⟩ = (w5).cell? ⟨b, o, none⟩)) (first | exact keep_of (Below.refl _ _) | ((try go_split_ands); exact keep_of (by repeat (first | exact Below.refl _ _ | assumption | refine Below.drew ?_ | refine below_drewN ?_ _ | refine Below.alloc' ?_ _ | (refine Below.setCell ?_ (by first | omega | (simp; done) | (simp; omega) | exact Below.size (by assumption) | exact Nat.le_trans (Below.size (by assumption)) (by simp)) _) | (refine Below.via' ?_ (by assumption)) | (refine Below.alloc ?_ (by first | omega | (simp; done) | (simp; omega) | exact Below.size (by assumption) | exact Nat.le_trans (Below.size (by assumption)) (by simp)) _) | (refine Below.via ?_ (by assumption) (by first | omega | (simp; done) | (simp; omega) | exact Below.size (by assumption) | exact Nat.le_trans (Below.size (by assumption)) (by simp))))))) ((go_at_call 99; refine (moved_any a b c4 d4 f0 f1 f2 f3 _).mono ?_; rintro e6 w6 ⟨a', b', c', d', hmv, rfl, hb6⟩)); rename_i hH; obtain ⟨hb3, hcl3⟩ := hH; have hz3 := hb3.size; (try simp at hz3); (try (have hly3 := Nat.lt_of_succ_le hz3)); (try (have hlx3 := Nat.lt_of_succ_lt hly3)); (try (have hlw3 := Nat.lt_of_succ_lt hlx3)); (try (have hle3 := Nat.le_of_lt hly3)); (try (have hya3 : w.heap.size < w3.heap.size := by omega)); (try (have hyb3 : w.heap.size + 1 < w3.heap.size := by omega)); (try (have hyc3 : w.heap.size + 1 + 1 < w3.heap.size := by omega)); (try (have hyd3 : wa.heap.size < w3.heap.size := by omega))
          have hmb : (decide (a = a') && (decide (b = b') && (decide (c4 = c') && decide (d4 = d')))) = mtB Z F i := by
            rw [Bool.eq_iff_iff, hmt.out i a b c4 d4 a' b' c' d' habh.out hmv]
            simp
          rw [hmb]
          have B6 : Below w.heap.size w w6 := Below.via' B5 hb3
          have V6 := Lib.hid (V5.out.kept hb3)
          have S6 := Lib.hid (own_below S5.out hb3)
          have C6 := Lib.hid (own_below C5.out hb3)
          have T6 := Lib.hid (T5.out.below hb3)
          have hs6 : w0.heap.size ≤ w6.heap.size := by have := hb3.size; omega
          have hll := ctU_len Z F C i
          clear heq hcl3 hz3 hb6 hb3 hmv p0 p1 p2 p3 p4 q0 q1 q2 q3 q4 V5 S5 C5 T5 B5 hb5 hs5 hV hS hC hT hB hsz habh hmb hc0 hbl hw5
          cases hmt2 : mtB Z F i
          · have hst := Lib.hid (ctU_no C hmt2)
            clear hmt2
            go_wp2
            go_roundw
            case rel => exact ⟨i + 1, zC, cC, by omega, by go_num, (by rw [hst.out]; exact V6), S6, (by rw [hst.out]; exact C6), (by rw [hst.out]; exact hnx), T6, B6, hs6⟩
            case measure => simp [intOf]; omega
          · have hst := Lib.hid (ctU_yes hmt2 hCi.out)
            clear hmt2
            obtain ⟨L, hL⟩ : ∃ L, L = ctU Z F C i := ⟨_, rfl⟩
            rw [← hL] at hst hll V6 C6 hnx
            replace hL := Lib.hid hL
            have hne2 := Lib.hid (wb_apart V6.out C6.out (by decide))
            have hlow := Lib.hid C6.out.lt
            have g1 : w6.cell? ⟨w.heap.size + 1 + 1 + 1, 1, none⟩ = some (.slice zC L.length cC) := (V6.out.read 1).trans rfl
            have gi := V6.out.inside
            go_wp2_with (at_builtin; go_loud (refine wpList_append_rd _ rfl (.tmp 48) (.tmp 50) 22 rfl w0.heap.size 3 i0 (.int .i64 0) 1 8 Try.underlying22 hii hz0 hz1 hz2 rfl (by decide) _ L.length (iC L) rfl (C6.out.alloc _) _ 1 1 rfl (Nat.le_refl _) (by intro h; cases h) (iC [n]) rfl (rd_oneN _ _ _ _ (by simp)) (iC_one _) (by unfold maxLen; omega) (by omega) (by simp; omega) ?_); intro v7 w7 hown7 hgrow7 hwhere7; (obtain ⟨z7, c7, rfl, -, -⟩ := (OwR.of hown7).form); (have hg7 : w6.grownBy w7 (Value.ownBlock (.slice zC L.length cC)) := (World.grownBy_alloc w6 _ _).trans hgrow7); (have V7 := Lib.hid (V6.out.grownC hg7 hne2.out)); (have c71 : w7.cell? ⟨w.heap.size + 1 + 1 + 1, 1, none⟩ = some (.slice zC L.length cC) := (V7.out.read 1).trans rfl); (have f71 := V7.out.free 1); (have in7 := V7.out.inside))
            have hB7 : Below w.heap.size w w7 := B6.grown hg7 B6.size (fun k hk => by have := (hlow.out k hk).1; omega)
            have hLn : (L ++ [n]).length = L.length + 1 := by simp
            have hO7 : Hid (w7.ownsRow w0.heap.size 3 1 (.slice z7 (L ++ [n]).length c7) (L ++ [n]).length (iC (L ++ [n]))) := by
              have h6 := hown7
              rw [← iC_appN] at h6
              rw [hLn]
              exact h6
            have hS7 : Hid (w7.ownsRow w0.heap.size 3 1 (.slice zS Y.length cS) Y.length (iC Y)) := S6.out.kept hg7 (by
              cases hv : (Value.slice zS Y.length cS).ownBlock with
              | none => exact .inl rfl
              | some q => exact .inr (fun e => hnx.out q hv e.symm))
            have hnx7 : Hid (∀ k, (Value.slice zS Y.length cS).ownBlock = some k → (Value.slice z7 (L ++ [n]).length c7).ownBlock ≠ some k) := by
              intro q hq e
              rw [hLn] at e
              rcases hwhere7 with h7 | h7
              · rw [h7] at e
                exact hnx.out q hq e
              · rw [h7] at e
                have h8 := (S6.out.lt q hq).2
                injection e with e
                have h9 : (w6.alloc (.cells #[.int .i64 n] 3)).heap.size = w6.heap.size + 1 := World.size_alloc _ _
                omega
            have T7 := Lib.hid (T6.out.grown hg7 (fun k hk => by have := (hlow.out k hk).1; omega))
            have hs7 := hg7.size
            have hO8 := Lib.hid (hO7.out.kept (grown_setU w7 ⟨w.heap.size + 1 + 1 + 1, 1, none⟩ (.slice z7 (L.length + 1) c7)) (own_ne_lt hO7.out (by show w.heap.size + 1 + 1 + 1 < w0.heap.size; omega)))
            have hS8 := Lib.hid (hS7.out.kept (grown_setU w7 ⟨w.heap.size + 1 + 1 + 1, 1, none⟩ (.slice z7 (L.length + 1) c7)) (own_ne_lt hS7.out (by show w.heap.size + 1 + 1 + 1 < w0.heap.size; omega)))
            have T8 := Lib.hid (T7.out.grown (grown_setU w7 ⟨w.heap.size + 1 + 1 + 1, 1, none⟩ (.slice z7 (L.length + 1) c7)) (fun k hk => by injection hk with hk; simp at hk; omega))
            have V8 : Hid (Wb (w7.setCell ⟨w.heap.size + 1 + 1 + 1, 1, none⟩ (.slice z7 (L.length + 1) c7)) (w.heap.size + 1 + 1 + 1) 27 #[.slice zS Y.length cS, .slice z7 (L ++ [n]).length c7]) := by rw [hLn]; exact V7.out.put 1 _
            have hB8 : Below w.heap.size w (w7.setCell ⟨w.heap.size + 1 + 1 + 1, 1, none⟩ (.slice z7 (L.length + 1) c7)) := Below.setCell (p := ⟨w.heap.size + 1 + 1 + 1, 1, none⟩) hB7 (by show w.heap.size ≤ w.heap.size + 1 + 1 + 1; omega) _
            clear hgrow7 hwhere7 hown7 g1 gi hg7 c71 hLn
            go_wp2
            go_roundw
            case rel => exact ⟨i + 1, z7, c7, by omega, by go_num, (by rw [hst.out]; exact V8), hS8, (by rw [hst.out]; exact hO8), (by rw [hst.out]; exact hnx7), T8, hB8, by rw [World.size_setCell]; omega⟩
            case measure => simp [intOf]; omega
        · have hij : i = C.length := by omega
          subst hij
          have v1 : wr.cell? ⟨w.heap.size + 1 + 1 + 1, 0, none⟩ = some (.slice zS Y.length cS) := (hV.out.read 0).trans rfl
          have v2 : wr.cell? ⟨w.heap.size + 1 + 1 + 1, 1, none⟩ = some (.slice zC (ctU Z F C C.length).length cC) := (hV.out.read 1).trans rfl
          have v3 := hV.out.inside
          have z0 : wr.cell? ⟨w.heap.size + 1 + 1, 0, none⟩ = some (.slice none 0 0) := (zzr.read 0).trans rfl
          have z1 : wr.cell? ⟨w.heap.size + 1 + 1, 1, none⟩ = some (.slice none 0 0) := (zzr.read 1).trans rfl
          have z2 := zzr.free 0
          have z3 := zzr.free 1
          have z4 := zzr.inside
          have hYe := hY.out
          subst hYe
          have hs1 := hB.size
          clear hP zzr ara arb arc
          go_wp2
          refine bodyPost_ret (v := .agg #[.slice zS (opZ Z F).length cS, .slice zC (ctU Z F C C.length).length cC]) (by simp [results, Try.results79, go_sem, *]) rfl ?_
          refine ⟨zS, cS, zC, cC, rfl, OwU.more (lo := w0.heap.size) (owU_of ?_ ?_ ?_ hnx.out) (by omega) (Nat.le_refl _), ?_⟩
          · simp only [World.size_setCell]
            exact hsz
          · exact ((hS.out.kept (grown_setU _ _ _) (own_ne_lt hS.out (by show w.heap.size + 1 + 1 < w0.heap.size; omega))).kept (grown_setU _ _ _) (own_ne_lt hS.out (by show w.heap.size + 1 + 1 < w0.heap.size; omega)))
          · exact ((hC.out.kept (grown_setU _ _ _) (own_ne_lt hC.out (by show w.heap.size + 1 + 1 < w0.heap.size; omega))).kept (grown_setU _ _ _) (own_ne_lt hC.out (by show w.heap.size + 1 + 1 < w0.heap.size; omega)))
          · repeat (refine Below.setCell ?_ (by simp; try omega) _)
            exact hB
end Go.Proofs.Ytnmpigedhpdenaa

namespace Go.Proofs.Ytnmpigedhpdenaa
open Go.RowKit
set_option maxRecDepth 100000

/-- Strictly increasing from b on, below n. -/
def riU (n : Int) : Int → List Int → Bool
  | _, [] => true
  | b, v :: r => decide (b ≤ v ∧ v < n) && riU n (v + 1) r
theorem riU_at {n b : Int} {F : List Int} {i : Nat} {v : Int} (h : F[i]? = some v) : riU n b (F.drop i) = (decide (b ≤ v ∧ v < n) && riU n (v + 1) (F.drop (i + 1))) := by
  obtain ⟨hi, e⟩ := List.getElem?_eq_some_iff.1 h
  rw [List.drop_eq_getElem_cons hi, e]
  rfl
theorem ri_end {n b : Int} {F : List Int} : riU n b (F.drop F.length) = true := by rw [List.drop_length]; rfl
theorem ri_bd {n : Int} : ∀ {b : Int} {F : List Int}, riU n b F = true → ∀ v ∈ F, b ≤ v ∧ v < n
  | _, [], _, v, hv => by cases hv
  | b, u :: r, h, v, hv => by
    unfold riU at h
    rw [Bool.and_eq_true, decide_eq_true_eq] at h
    rcases List.mem_cons.1 hv with rfl | hm
    · exact h.1
    · have := ri_bd h.2 v hm
      omega
set_option maxHeartbeats 1000000 in
theorem areIndicesR_any (y : Option Addr) (c2 : Nat) (n : Nat) (F : List Int) (w : World) (hm : n ≤ 1048576) (hF : IIn w y F) :
    Calls Try.prog 78 #[.slice y F.length c2, .int .i64 (n : Int)] w fun e w' => e = .returned (.bool (riU n 0 F)) ∧ w = w' := by
  have hFh := Lib.hid hF
  have hFl := hF.1
  clear hF
  go_enter Try.func78, Try.ntmps78
  go_wp2
  go_loopw [5, 10] (fun b c wr => ∃ (i : Nat) (bz : Int), i ≤ F.length ∧ c = .int .i64 i ∧ b = .int .i64 bz ∧ 0 ≤ bz ∧ bz ≤ 1048576 ∧ Hid (riU n bz (F.drop i) = riU n 0 F) ∧ w = wr) (fun _ c _ => F.length - (intOf c).toNat)
  case atStart => exact ⟨0, 0, by omega, rfl, rfl, by omega, by omega, (by unfold Hid; rw [List.drop_zero]), rfl⟩
  case round =>
    obtain ⟨i, bz, hi, rfl, rfl, hb0, hb1, hrs, rfl⟩ := hrel
    by_cases hlt : i < F.length
    · obtain ⟨bl, off, v, rfl, hbl, hFi, hc0⟩ := hFh.out.2.2.int hlt
      have hv64 := hFh.out.2.1 v (List.mem_of_getElem? hFi)
      unfold IsI64 at hv64
      have hat := Lib.hid (riU_at (n := (n : Int)) (b := bz) hFi)
      have hlt' : (i : Int) < (F.length : Int) := by omega
      have hi0 : (0 : Int) ≤ (i : Int) := by omega
      clear hFi
      by_cases h1 : v < bz
      · have hv : Hid (riU n 0 F = false) := by unfold Hid; rw [← hrs.out, hat.out, decide_eq_false (by omega)]; rfl
        go_wp2
        go_ret
        exact ⟨ret_bool hv.out.symm, rfl⟩
      · by_cases h2 : (n : Int) ≤ v
        · have hv : Hid (riU n 0 F = false) := by unfold Hid; rw [← hrs.out, hat.out, decide_eq_false (by omega)]; rfl
          go_wp2
          go_ret
          exact ⟨ret_bool hv.out.symm, rfl⟩
        · have hv : Hid (riU n (v + 1) (F.drop (i + 1)) = riU n 0 F) := by unfold Hid; rw [← hrs.out, hat.out, decide_eq_true (by omega), Bool.true_and]
          go_wp2
          go_roundw
          case rel => exact ⟨i + 1, v + 1, by omega, by go_num, by go_num, by omega, by omega, hv.out, by first | rfl | trivial⟩
          case measure => simp [intOf]; omega
    · have hij : i = F.length := by omega
      subst hij
      have hv : Hid (riU n 0 F = true) := by unfold Hid; rw [← hrs.out]; exact ri_end
      clear hrs
      go_wp2
      go_ret
      exact ⟨ret_bool hv.out.symm, rfl⟩
set_option maxHeartbeats 2000000 in
theorem risingR_any (y : Option Addr) (c2 : Nat) (n : Nat) (F : List Int) (w : World) (hm : n ≤ 1048576) (hF : IIn w y F) :
    Calls Try.prog 76 #[.slice y F.length c2, .int .i64 0, .int .i64 ((n : Int) - 1)] w fun e w' => e = .returned (.bool (riU n 0 F)) ∧ Below w.heap.size w w' := by
  have hFh := Lib.hid hF
  have hFl := hF.1
  clear hF
  go_enter Try.func76, Try.ntmps76
  go_wp2
  go_loopw [11] (fun c wr => ∃ (i : Nat) (bz : Int), i ≤ F.length ∧ c = .int .i64 i ∧ Hid ((i = 0 ∧ bz = 0) ∨ ∃ u, 0 < i ∧ F[i - 1]? = some u ∧ bz = u + 1) ∧ 0 ≤ bz ∧ bz ≤ 1048576 ∧ Hid (riU n bz (F.drop i) = riU n 0 F) ∧ Below w.heap.size w wr) (fun c _ => F.length - (intOf c).toNat)
  case atStart => exact ⟨0, 0, by omega, rfl, .inl ⟨rfl, rfl⟩, by omega, by omega, (by unfold Hid; rw [List.drop_zero]), Below.refl _ _⟩
  case round =>
    obtain ⟨i, bz, hi, rfl, hpre, hb0, hb1, hrs, hBr⟩ := hrel
    by_cases hlt : i < F.length
    · obtain ⟨bl, off, v, hy, hbl, hFi, hc0⟩ := (hFh.out.below hBr).2.2.int hlt
      have hv64 := hFh.out.2.1 v (List.mem_of_getElem? hFi)
      unfold IsI64 at hv64
      have hat := Lib.hid (riU_at (n := (n : Int)) (b := bz) hFi)
      have hFih := Lib.hid hFi
      have hlt' : (i : Int) < (F.length : Int) := by omega
      have hi0 : (0 : Int) ≤ (i : Int) := by omega
      clear hFi
      subst hy
      go_wp2_with fail
      refine (l1In_any _ _ _ _).mono ?_
      rintro e w2 ⟨rfl, rfl⟩
      by_cases hin : 0 ≤ v ∧ v < (n : Int)
      · have hb : inB v 0 ((n : Int) - 1) = true := (inB_iff ..).2 ⟨hin.1, by omega⟩
        rw [hb]
        clear hb
        rcases hpre.out with ⟨rfl, rfl⟩ | ⟨u, hi1, hu, rfl⟩
        · have hv : Hid (riU n (v + 1) (F.drop (0 + 1)) = riU n 0 F) := by unfold Hid; rw [← hrs.out, hat.out, decide_eq_true (by omega), Bool.true_and]
          go_wp2
          go_roundw
          case rel => exact ⟨0 + 1, v + 1, by omega, by go_num, .inr ⟨v, by omega, by simpa using hFih.out, rfl⟩, by omega, by omega, hv.out, (by repeat (first | exact Below.refl _ _ | assumption | refine Below.drew ?_ | refine below_drewN ?_ _ | refine Below.alloc' ?_ _ | (refine Below.setCell ?_ (by first | omega | (simp; done) | (simp; omega) | exact Below.size (by assumption) | exact Nat.le_trans (Below.size (by assumption)) (by simp)) _) | (refine Below.via' ?_ (by assumption)) | (refine Below.alloc ?_ (by first | omega | (simp; done) | (simp; omega) | exact Below.size (by assumption) | exact Nat.le_trans (Below.size (by assumption)) (by simp)) _) | (refine Below.via ?_ (by assumption) (by first | omega | (simp; done) | (simp; omega) | exact Below.size (by assumption) | exact Nat.le_trans (Below.size (by assumption)) (by simp)))))⟩
          case measure => simp [intOf]; omega
        · obtain ⟨bl2, off2, u2, e2, hbl2, hu2, hc1⟩ := (hFh.out.below hBr).2.2.int (i := i - 1) (by omega)
          injection e2 with e2
          injection e2 with e2 e3
          subst e2 e3
          obtain rfl := Option.some.inj (hu2.symm.trans hu)
          have hpos : (0 : Int) < (i : Int) := by omega
          have hge : (0 : Int) ≤ (i : Int) - 1 := by omega
          have hlt2 : (i : Int) - 1 < (F.length : Int) := by omega
          replace hu := Lib.hid hu
          replace hu2 := Lib.hid hu2
          by_cases h1 : v ≤ u2
          · have hv : Hid (riU n 0 F = false) := by unfold Hid; rw [← hrs.out, hat.out, decide_eq_false (by omega)]; rfl
            go_wp2
            go_ret
            exact ⟨ret_bool hv.out.symm, (by repeat (first | exact Below.refl _ _ | assumption | refine Below.drew ?_ | refine below_drewN ?_ _ | refine Below.alloc' ?_ _ | (refine Below.setCell ?_ (by first | omega | (simp; done) | (simp; omega) | exact Below.size (by assumption) | exact Nat.le_trans (Below.size (by assumption)) (by simp)) _) | (refine Below.via' ?_ (by assumption)) | (refine Below.alloc ?_ (by first | omega | (simp; done) | (simp; omega) | exact Below.size (by assumption) | exact Nat.le_trans (Below.size (by assumption)) (by simp)) _) | (refine Below.via ?_ (by assumption) (by first | omega | (simp; done) | (simp; omega) | exact Below.size (by assumption) | exact Nat.le_trans (Below.size (by assumption)) (by simp)))))⟩
          · have hv : Hid (riU n (v + 1) (F.drop (i + 1)) = riU n 0 F) := by unfold Hid; rw [← hrs.out, hat.out, decide_eq_true (by omega), Bool.true_and]
            go_wp2
            go_roundw
            case rel => exact ⟨i + 1, v + 1, by omega, by go_num, .inr ⟨v, by omega, by simpa using hFih.out, rfl⟩, by omega, by omega, hv.out, (by repeat (first | exact Below.refl _ _ | assumption | refine Below.drew ?_ | refine below_drewN ?_ _ | refine Below.alloc' ?_ _ | (refine Below.setCell ?_ (by first | omega | (simp; done) | (simp; omega) | exact Below.size (by assumption) | exact Nat.le_trans (Below.size (by assumption)) (by simp)) _) | (refine Below.via' ?_ (by assumption)) | (refine Below.alloc ?_ (by first | omega | (simp; done) | (simp; omega) | exact Below.size (by assumption) | exact Nat.le_trans (Below.size (by assumption)) (by simp)) _) | (refine Below.via ?_ (by assumption) (by first | omega | (simp; done) | (simp; omega) | exact Below.size (by assumption) | exact Nat.le_trans (Below.size (by assumption)) (by simp)))))⟩
            case measure => simp [intOf]; omega
      · have hb : inB v 0 ((n : Int) - 1) = false := by
          cases h : inB v 0 ((n : Int) - 1) with
          | false => rfl
          | true => exact absurd ⟨((inB_iff ..).1 h).1, by have := ((inB_iff ..).1 h).2; omega⟩ hin
        have hv : Hid (riU n 0 F = false) := by unfold Hid; rw [← hrs.out, hat.out, decide_eq_false (by omega)]; rfl
        rw [hb]
        clear hb
        go_wp2
        go_ret
        exact ⟨ret_bool hv.out.symm, (by repeat (first | exact Below.refl _ _ | assumption | refine Below.drew ?_ | refine below_drewN ?_ _ | refine Below.alloc' ?_ _ | (refine Below.setCell ?_ (by first | omega | (simp; done) | (simp; omega) | exact Below.size (by assumption) | exact Nat.le_trans (Below.size (by assumption)) (by simp)) _) | (refine Below.via' ?_ (by assumption)) | (refine Below.alloc ?_ (by first | omega | (simp; done) | (simp; omega) | exact Below.size (by assumption) | exact Nat.le_trans (Below.size (by assumption)) (by simp)) _) | (refine Below.via ?_ (by assumption) (by first | omega | (simp; done) | (simp; omega) | exact Below.size (by assumption) | exact Nat.le_trans (Below.size (by assumption)) (by simp)))))⟩
    · have hij : i = F.length := by omega
      subst hij
      have hv : Hid (riU n 0 F = true) := by unfold Hid; rw [← hrs.out]; exact ri_end
      clear hrs hpre
      go_wp2
      go_ret
      exact ⟨ret_bool hv.out.symm, hBr⟩
end Go.Proofs.Ytnmpigedhpdenaa

namespace Go.Proofs.Ytnmpigedhpdenaa
open Go.RowKit

def mgF (Z D : List Int) : List Int := D.foldl (fun L d => L.set d.toNat (-1)) Z
theorem mgF_cons (Z D : List Int) (d : Int) : mgF Z (d :: D) = mgF (Z.set d.toNat (-1)) D := rfl
theorem mgF_snoc (Z D : List Int) (d : Int) : mgF Z (D ++ [d]) = (mgF Z D).set d.toNat (-1) := by unfold mgF; rw [List.foldl_append]; rfl
theorem mgF_len (Z D : List Int) : (mgF Z D).length = Z.length := by
  induction D using snoc_rec with
  | h0 => rfl
  | h1 D d ih => rw [mgF_snoc, List.length_set, ih]
theorem mgF_app (T : List Int) : ∀ (Z D : List Int), (∀ d ∈ D, d.toNat < Z.length) → mgF (Z ++ T) D = mgF Z D ++ T
  | Z, [], _ => rfl
  | Z, d :: D, h => by
    rw [mgF_cons, mgF_cons, List.set_append_left _ _ (h d (by simp)), mgF_app T (Z.set d.toNat (-1)) D fun e he => by rw [List.length_set]; exact h e (by simp [he])]
theorem okF_self : ∀ {Z : List Int}, (∀ z ∈ Z, 0 ≤ z) → okF Z Z
  | [], _ => trivial
  | z :: r, h => ⟨.inr ⟨h z (by simp), Int.le_refl _⟩, okF_self fun a ha => h a (by simp [ha])⟩
theorem agF_self : ∀ Z : List Int, agF Z Z
  | [] => trivial
  | _ :: r => ⟨.inr rfl, agF_self r⟩
theorem opD_self : ∀ {Z : List Int} (k : Int), (∀ z ∈ Z, 0 ≤ z) → opD Z k = []
  | [], _, _ => rfl
  | z :: r, k, h => by
    unfold opD
    rw [if_neg (by have := h z (by simp); omega)]
    exact opD_self (k + 1) fun a ha => h a (by simp [ha])
theorem agF_of : ∀ {F G : List Int}, F.length = G.length → (∀ (d : Nat) (f g : Int), F[d]? = some f → G[d]? = some g → f = -1 ∨ f = g) → agF F G
  | [], [], _, _ => trivial
  | [], _ :: _, h, _ => by simp at h
  | _ :: _, [], h, _ => by simp at h
  | f :: F, g :: G, h, k => ⟨k 0 f g rfl rfl, agF_of (by simpa using h) fun d a b ha hb => k (d + 1) a b (by simpa using ha) (by simpa using hb)⟩
theorem mg_from (n : Int) : ∀ (Z P D : List Int), n = (P.length : Int) + (Z.length : Int) → (∀ z ∈ Z, 0 ≤ z) → riU n (P.length : Int) D = true → ∃ F, mgF (P ++ Z) D = P ++ F ∧ okF Z F ∧ opD F (P.length : Int) = D ∧ agF F Z
  | [], P, [], _, _, _ => ⟨[], rfl, trivial, rfl, trivial⟩
  | [], P, d :: D, hn, _, h => by
    unfold riU at h
    rw [Bool.and_eq_true, decide_eq_true_eq] at h
    simp at hn
    omega
  | z :: r, P, [], _, hz, _ => ⟨z :: r, rfl, okF_self hz, opD_self _ hz, agF_self _⟩
  | z :: r, P, d :: D, hn, hz, h => by
    have hz2 : ∀ a ∈ r, 0 ≤ a := fun a ha => hz a (by simp [ha])
    have e : ∀ u : Int, (((P ++ [u]).length : Nat) : Int) = (P.length : Int) + 1 := fun u => by simp
    have en : ∀ u : Int, n = (((P ++ [u]).length : Nat) : Int) + (r.length : Int) := fun u => by rw [e]; simp at hn; omega
    have h' := h
    unfold riU at h
    rw [Bool.and_eq_true, decide_eq_true_eq] at h
    by_cases hd : d = (P.length : Int)
    · subst hd
      obtain ⟨F, h1, h2, h3, h4⟩ := mg_from n r (P ++ [-1]) D (en (-1)) hz2 (by rw [e]; exact h.2)
      refine ⟨-1 :: F, ?_, ⟨.inl rfl, h2⟩, ?_, ⟨.inl rfl, h4⟩⟩
      · rw [mgF_cons, Int.toNat_natCast, List.set_append_right _ _ (Nat.le_refl _), Nat.sub_self, List.set_cons_zero]
        rw [List.append_assoc, List.append_assoc] at h1
        exact h1
      · rw [e] at h3
        unfold opD
        rw [if_pos rfl, h3]
    · obtain ⟨F, h1, h2, h3, h4⟩ := mg_from n r (P ++ [z]) (d :: D) (en z) hz2 (by
        rw [e]
        unfold riU
        rw [Bool.and_eq_true, decide_eq_true_eq]
        exact ⟨by omega, h.2⟩)
      refine ⟨z :: F, ?_, ⟨.inr ⟨hz z (by simp), Int.le_refl _⟩, h2⟩, ?_, ⟨.inr rfl, h4⟩⟩
      · rw [List.append_assoc, List.append_assoc] at h1
        exact h1
      · rw [e] at h3
        unfold opD
        rw [if_neg (by have := hz z (by simp); omega), h3]
theorem mg_all {Z D : List Int} (hz : ∀ z ∈ Z, 0 ≤ z) (h : riU (Z.length : Int) 0 D = true) : okF Z (mgF Z D) ∧ opD (mgF Z D) 0 = D ∧ agF (mgF Z D) Z := by
  obtain ⟨F, h1, h2, h3, h4⟩ := mg_from (Z.length : Int) Z [] D (by simp) hz (by simpa using h)
  simp only [List.nil_append] at h1
  rw [h1]
  exact ⟨h2, by simpa using h3, h4⟩
/-- What MarginOf gives. -/
def mgB (Z C D : List Int) : Bool := cgB Z C && riU (Z.length : Int) 0 D
def mgR (Z C D : List Int) : List Int × List Int := if mgB Z C D then (opZ Z (mgF Z D), ctL Z (mgF Z D) C) else ([], [])
theorem mg_no {Z C D : List Int} (h : mgB Z C D = false) : mgB Z C D = false ∧ mgR Z C D = ([], []) := ⟨h, by unfold mgR; rw [h]; rfl⟩
theorem mg_no1 {Z C : List Int} (D : List Int) (h : cgB Z C = false) : mgB Z C D = false := by unfold mgB; rw [h]; rfl
theorem mg_no2 {Z D : List Int} (C : List Int) (h : riU (Z.length : Int) 0 D = false) : mgB Z C D = false := by unfold mgB; rw [h, Bool.and_false]
theorem mg_yes {Z C D : List Int} (h : cgB Z C = true) (k : riU (Z.length : Int) 0 D = true) : mgB Z C D = true ∧ mgR Z C D = (opZ Z (mgF Z D), ctL Z (mgF Z D) C) := by
  have e : mgB Z C D = true := by unfold mgB; rw [h, k]; rfl
  exact ⟨e, by unfold mgR; rw [e]; rfl⟩
/-- What SliceOf gives. -/
def slF (Z : List Int) (m i : Int) : List Int := (List.replicate Z.length (-1)).set m.toNat i
def slB (Z C : List Int) (m i : Int) : Bool := cgB Z C && (inB m 0 ((Z.length : Int) - 1) && inB i 0 (Z.getD m.toNat 0))
def slR (Z C : List Int) (m i : Int) : List Int × List Int := if slB Z C m i then (opZ Z (slF Z m i), ctL Z (slF Z m i) C) else ([], [])
theorem sl_no {Z C : List Int} {m i : Int} (h : slB Z C m i = false) : slB Z C m i = false ∧ slR Z C m i = ([], []) := ⟨h, by unfold slR; rw [h]; rfl⟩
theorem sl_no1 {Z C : List Int} (m i : Int) (h : cgB Z C = false) : slB Z C m i = false := by unfold slB; rw [h]; rfl
theorem sl_no2 {Z : List Int} {m : Int} (C : List Int) (i : Int) (h : inB m 0 ((Z.length : Int) - 1) = false) : slB Z C m i = false := by unfold slB; rw [h]; simp
theorem sl_no3 {Z : List Int} {m i : Int} (C : List Int) (h : inB i 0 (Z.getD m.toNat 0) = false) : slB Z C m i = false := by unfold slB; rw [h]; simp
theorem sl_yes {Z C : List Int} {m i : Int} (h : cgB Z C = true) (k : inB m 0 ((Z.length : Int) - 1) = true) (q : inB i 0 (Z.getD m.toNat 0) = true) : slB Z C m i = true ∧ slR Z C m i = (opZ Z (slF Z m i), ctL Z (slF Z m i) C) := by
  have e : slB Z C m i = true := by unfold slB; rw [h, k, q]; rfl
  exact ⟨e, by unfold slR; rw [e]; rfl⟩
theorem slF_len (Z : List Int) (m i : Int) : (slF Z m i).length = Z.length := by unfold slF; rw [List.length_set, List.length_replicate]
theorem slF_at {Z : List Int} {m i : Int} {d : Nat} {f : Int} (h : (slF Z m i)[d]? = some f) : (f = i ∧ d = m.toNat) ∨ (f = -1 ∧ d ≠ m.toNat) := by
  unfold slF at h
  rw [List.getElem?_set] at h
  split at h
  · rename_i e
    split at h
    · exact .inl ⟨(Option.some.inj h).symm, e.symm⟩
    · cases h
  · rename_i e
    rw [List.getElem?_replicate] at h
    split at h
    · exact .inr ⟨(Option.some.inj h).symm, fun q => e q.symm⟩
    · cases h
theorem sl_all {Z : List Int} {m i z : Int} (hm : Z[m.toNat]? = some z) (h0 : 0 ≤ i) (h1 : i ≤ z) : okF Z (slF Z m i) ∧ agF (slF Z m i) (Z.set m.toNat i) := by
  constructor
  · refine okF_of (slF_len _ _ _) fun d y f hy hf => ?_
    rcases slF_at hf with ⟨rfl, rfl⟩ | ⟨rfl, -⟩
    · rw [hm] at hy
      cases hy
      exact .inr ⟨h0, h1⟩
    · exact .inl rfl
  · refine agF_of (by rw [slF_len, List.length_set]) fun d f g hf hg => ?_
    rcases slF_at hf with ⟨rfl, rfl⟩ | ⟨rfl, -⟩
    · rw [List.getElem?_set] at hg
      have := (List.getElem?_eq_some_iff.1 hm).1
      simp only [if_true, this] at hg
      exact .inr (Option.some.inj hg)
    · exact .inl rfl
theorem sl_four {Z : List Int} {m i : Int} (h4 : Z.length ≤ 4) (hm : m.toNat < Z.length) : slF Z m i ++ List.replicate (4 - Z.length) (-1) = ([-1, -1, -1, -1] : List Int).set m.toNat i := by
  unfold slF
  rw [← List.set_append_left _ _ (by rw [List.length_replicate]; exact hm), List.replicate_append_replicate, show Z.length + (4 - Z.length) = 4 by omega]
  rfl
theorem cut_l1 (Z F : List Int) (h : Z.length ≤ 1048576) : (opZ Z F).length ≤ 1048576 := by have := opZ_len Z F; omega
end Go.Proofs.Ytnmpigedhpdenaa

namespace Go.Proofs.Ytnmpigedhpdenaa
open Go.RowKit
set_option maxRecDepth 100000

/-- Are they indices of a cell? -/
def ftB (Z I : List Int) : Bool := decide (I.length = Z.length) && (Z.zip I).all fun q => inB q.2 0 q.1
theorem ft_no1 {Z I : List Int} (h : I.length ≠ Z.length) : ftB Z I = false := by unfold ftB; rw [decide_eq_false h]; rfl
theorem ft_bad {Z I : List Int} {j : Nat} {z x : Int} (h1 : Z[j]? = some z) (h2 : I[j]? = some x) (h : inB x 0 z = false) : ftB Z I = false := by
  unfold ftB
  have : ((Z.zip I).all fun q => inB q.2 0 q.1) = false := by
    rw [List.all_eq_false]
    exact ⟨(z, x), List.mem_of_getElem? (List.getElem?_zip_eq_some.2 ⟨h1, h2⟩), by rw [h]; decide⟩
  rw [this, Bool.and_false]
theorem ft_all {Z I : List Int} (hl : I.length = Z.length) (h : ∀ j, j < Z.length → ∃ z x, Z[j]? = some z ∧ I[j]? = some x ∧ inB x 0 z = true) : ftB Z I = true := by
  unfold ftB
  rw [decide_eq_true hl, Bool.true_and, List.all_eq_true]
  intro q hq
  obtain ⟨j, hj, e⟩ := List.getElem_of_mem hq
  obtain ⟨z, x, a, b, c⟩ := h j (by rw [List.length_zip] at hj; omega)
  have e2 := List.getElem?_eq_getElem hj
  rw [List.getElem?_zip_eq_some.2 (show Z[j]? = some (z, x).1 ∧ I[j]? = some (z, x).2 from ⟨a, b⟩), e] at e2
  cases e2
  exact c
theorem ft_fit {Z I : List Int} (h : ftB Z I = true) : FtC Z I ∧ I.length = Z.length := by
  unfold ftB at h
  rw [Bool.and_eq_true, decide_eq_true_eq, List.all_eq_true] at h
  refine ⟨⟨by omega, fun d z x hz hx => ?_⟩, h.1⟩
  exact (inB_iff _ _ _).1 (h.2 (z, x) (List.mem_of_getElem? (List.getElem?_zip_eq_some.2 ⟨hz, hx⟩)))
/-- What CubeCell gives. -/
def cuB (Z C I : List Int) : Bool := cgB Z C && ftB Z I
def cuV (Z C I : List Int) : Int := if cuB Z C I then C.getD (ixC Z I).toNat 0 else 0
theorem cu_no1 {Z C : List Int} (I : List Int) (h : cgB Z C = false) : cuB Z C I = false := by unfold cuB; rw [h]; rfl
theorem cu_no2 {Z I : List Int} (C : List Int) (h : ftB Z I = false) : cuB Z C I = false := by unfold cuB; rw [h, Bool.and_false]
theorem cu_no {Z C I : List Int} (h : cuB Z C I = false) : cuV Z C I = 0 ∧ cuB Z C I = false := ⟨by unfold cuV; rw [h]; rfl, h⟩
theorem cu_yes {Z C I : List Int} {k : Nat} {m : Int} (h : cgB Z C = true) (hf : ftB Z I = true) (hk : ixC Z I = (k : Int)) (hm : C[k]? = some m) : cuV Z C I = m ∧ cuB Z C I = true := by
  have e : cuB Z C I = true := by unfold cuB; rw [h, hf]; rfl
  refine ⟨?_, e⟩
  unfold cuV
  rw [e, hk, Int.toNat_natCast, getD_at hm]
  rfl
theorem cu_cell {Z C I : List Int} (h : cgB Z C = true) (hf : ftB Z I = true) : ∃ k : Nat, ixC Z I = (k : Int) ∧ k < C.length := by
  obtain ⟨a, b⟩ := ix_in (ft_fit hf).1
  obtain ⟨f1, f2, f3⟩ := cf_get (cg_get h).1
  exact ⟨(ixC Z I).toNat, by omega, by omega⟩
theorem splice_four {I : List Int} (h : I.length ≤ 4) : ∃ a b c d : Int, I ++ List.replicate (4 - I.length) 0 = [a, b, c, d] ∧ splice (iC [0, 0, 0, 0]) 0 (iC I) = iC [a, b, c, d] := by
  obtain ⟨a, b, c, d, e⟩ := four_of (L := I ++ List.replicate (4 - I.length) 0) (by rw [List.length_append, List.length_replicate]; omega)
  refine ⟨a, b, c, d, e, ?_⟩
  rw [← e]
  unfold splice
  rw [iC_appN, List.take_zero, List.nil_append, Nat.zero_add, iC_len]
  congr 1
  have : I.length = 0 ∨ I.length = 1 ∨ I.length = 2 ∨ I.length = 3 ∨ I.length = 4 := by omega
  rcases this with h | h | h | h | h <;> rw [h] <;> rfl
set_option maxHeartbeats 8000000 in
theorem iCC_any (x y z : Option Addr) (c d e : Nat) (Z C I : List Int) (w : World) (h : CIn w x y Z C) (hI : IIn w z I) :
    Calls Try.prog 32 #[.agg #[.slice x Z.length c, .slice y C.length d], .slice z I.length e] w fun e w' => e = .returned (.tuple #[.int .i64 (cuV Z C I), .bool (cuB Z C I)]) ∧ Below w.heap.size w w' := by
  have hh := Lib.hid h
  have hIh := Lib.hid hI
  have hq := Lib.hid (CQ.new w x Z.length c y C.length d 27)
  obtain ⟨qa, qb, qc⟩ := hq.out
  have hB0 : Below w.heap.size w (w.alloc (.cells #[.slice x Z.length c, .slice y C.length d] 27)) := (by repeat (first | exact Below.refl _ _ | assumption | refine Below.drew ?_ | refine below_drewN ?_ _ | refine Below.alloc' ?_ _ | (refine Below.setCell ?_ (by first | omega | (simp; done) | (simp; omega) | exact Below.size (by assumption) | exact Nat.le_trans (Below.size (by assumption)) (by simp)) _) | (refine Below.via' ?_ (by assumption)) | (refine Below.alloc ?_ (by first | omega | (simp; done) | (simp; omega) | exact Below.size (by assumption) | exact Nat.le_trans (Below.size (by assumption)) (by simp)) _) | (refine Below.via ?_ (by assumption) (by first | omega | (simp; done) | (simp; omega) | exact Below.size (by assumption) | exact Nat.le_trans (Below.size (by assumption)) (by simp)))))
  clear h hI
  go_enter Try.func32, Try.ntmps32
  go_wp2_with fail
  refine (iCu_any _ _ _ _ Z C _ (hh.out.below hB0)).mono ?_
  rintro e1 w1 ⟨rfl, hb1⟩
  have hB1 : Below w.heap.size w w1 := Below.via' hB0 hb1
  have hq1 := Lib.hid (hq.out.below hb1)
  clear qa qb qc hb1 hB0
  obtain ⟨qa, qb, qc⟩ := hq1.out
  cases hg : cgB Z C
  · have hv := Lib.hid (cu_no (cu_no1 I hg))
    clear hg
    go_wp2
    go_ret2
    exact ⟨ret_in hv.out.1.symm hv.out.2.symm, hB1⟩
  have hgy := Lib.hid hg
  have hfh := Lib.hid (cg_get hg).1
  obtain ⟨f1, f2, f3⟩ := cf_get hfh.out
  have hok := Lib.hid (cs_get f1).1
  have h4 := okZ_len hok.out
  clear hg f1 f2 f3
  by_cases hl : I.length = Z.length
  · have hlb : ((I.length : Int) == (Z.length : Int)) = true := by rw [beq_iff_eq]; omega
    have hlb2 : ((I.length : Int) != (Z.length : Int)) = false := by show (!((I.length : Int) == (Z.length : Int))) = false; rw [hlb]; rfl
    have hlh := Lib.hid hl
    clear hl
    go_wp2
    go_loopw [23] (fun q wr => ∃ j : Nat, j ≤ Z.length ∧ q = .int .i64 j ∧ Hid (∀ m, m < j → ∃ z x, Z[m]? = some z ∧ I[m]? = some x ∧ inB x 0 z = true) ∧ w1 = wr) (fun q _ => Z.length - (intOf q).toNat)
    case atStart => exact ⟨0, by omega, by go_num, (fun m hm => absurd hm (by omega)), rfl⟩
    case round =>
      obtain ⟨j, hj, rfl, hall, rfl⟩ := hrel
      by_cases hlt : j < Z.length
      · obtain ⟨bl, off, v, rfl, hbl, hZj, hc0⟩ := (hh.out.below hB1).1.2.2.int hlt
        obtain ⟨bi, oi, u, rfl, hbi, hIj, hc1⟩ := (hIh.out.below hB1).2.2.int (i := j) (by have := hlh.out; omega)
        have hlt' : (j : Int) < (Z.length : Int) := by omega
        have hlt2 : (j : Int) < (I.length : Int) := by have := hlh.out; omega
        cases hin : inB u 0 v
        · have hno := (inB_no _ _ _).1 hin
          have hv := Lib.hid (cu_no (cu_no2 C (ft_bad hZj hIj hin)))
          replace hZj := Lib.hid hZj
          replace hIj := Lib.hid hIj
          by_cases hlo : u < 0
          · go_wp2
            go_ret2
            exact ⟨ret_in hv.out.1.symm hv.out.2.symm, hB1⟩
          · have hhi : v < u := by omega
            go_wp2
            go_ret2
            exact ⟨ret_in hv.out.1.symm hv.out.2.symm, hB1⟩
        · have hok2 := (inB_iff _ _ _).1 hin
          have hlo : ¬ u < 0 := by omega
          have hhi : ¬ v < u := by omega
          replace hZj := Lib.hid hZj
          replace hIj := Lib.hid hIj
          replace hin := Lib.hid hin
          clear hok2
          go_wp2
          go_roundw
          case rel =>
            refine ⟨j + 1, by omega, by go_num, fun m hm => ?_, by first | rfl | trivial⟩
            rcases Nat.lt_or_ge m j with hm2 | hm2
            · exact hall.out m hm2
            · obtain rfl : m = j := by omega
              exact ⟨v, u, hZj.out, hIj.out, hin.out⟩
          case measure => simp [intOf]; omega
      · have hij : j = Z.length := by omega
        subst hij
        have hft := Lib.hid (ft_all hlh.out hall.out)
        obtain ⟨kk, hkk, hkl⟩ := cu_cell hgy.out hft.out
        obtain ⟨b6, o6, m, rfl, hb6, hCk, hc6⟩ := (hh.out.below hB1).2.2.2.int hkl
        have hv := Lib.hid (cu_yes hgy.out hft.out hkk hCk)
        obtain ⟨p0, p1, p2, p3, hfour, hspl⟩ := splice_four (I := I) (by have := hlh.out; omega)
        have hfit := Lib.hid (show FtC Z [p0, p1, p2, p3] from hfour ▸ (ft_fit hft.out).1.more _)
        have hix := Lib.hid (show ixC Z [p0, p1, p2, p3] = (kk : Int) by rw [← hfour, ixC_more _ _ _ (by have := hlh.out; omega)]; exact hkk)
        have hsplh := Lib.hid hspl
        have hkl' : (kk : Int) < (C.length : Int) := by omega
        have hnew := Lib.hid (Wb.new w1 81 #[.int .i64 0, .int .i64 0, .int .i64 0, .int .i64 0])
        have hBn : Below w1.heap.size w1 (w1.alloc (.cells #[.int .i64 0, .int .i64 0, .int .i64 0, .int .i64 0] 81)) := (by repeat (first | exact Below.refl _ _ | assumption | refine Below.drew ?_ | refine below_drewN ?_ _ | refine Below.alloc' ?_ _ | (refine Below.setCell ?_ (by first | omega | (simp; done) | (simp; omega) | exact Below.size (by assumption) | exact Nat.le_trans (Below.size (by assumption)) (by simp)) _) | (refine Below.via' ?_ (by assumption)) | (refine Below.alloc ?_ (by first | omega | (simp; done) | (simp; omega) | exact Below.size (by assumption) | exact Nat.le_trans (Below.size (by assumption)) (by simp)) _) | (refine Below.via ?_ (by assumption) (by first | omega | (simp; done) | (simp; omega) | exact Below.size (by assumption) | exact Nat.le_trans (Below.size (by assumption)) (by simp)))))
        have hsrc := Lib.hid (fun j v (hj : (iC I)[j]? = some v) => (show ∃ b off, z = some ⟨b, off, none⟩ ∧ (w1.alloc (.cells #[.int .i64 0, .int .i64 0, .int .i64 0, .int .i64 0] 81)).cell? ⟨b, off + j, none⟩ = some v by
          have hjl := (List.getElem?_eq_some_iff.1 hj).1
          rw [iC_len] at hjl
          obtain ⟨b, off, u, e1, _, h2, h3⟩ := ((hIh.out.below hB1).below hBn).2.2.int hjl
          rw [iC_at h2] at hj
          cases hj
          exact ⟨b, off, e1, h3⟩))
        have hBnh := Lib.hid hBn
        clear hkk hCk hfour hspl hall hlb hlb2 hBn
        replace hc6 := Lib.hid hc6
        go_wp2_with (go_loud (refine wpList_copy_splice rfl (.tmp 42) (.tmp 43) 22 22 rfl 3 Try.underlying22 (by kernel_rfl) _ _ _ _ _ _ rfl rfl w1.heap.size 0 (iC [0, 0, 0, 0]) 81 hnew.out (iC I) (by rw [iC_len]; exact (Nat.min_eq_left (by have := hlh.out; omega)).symm) (fun hp => ⟨rfl, ?_⟩) (by rw [iC_len, iC_len]; have := hlh.out; simp; omega) (iC_one _) w1.heap.size w1 hBnh.out (Nat.le_refl _) (fun w2 hg2 hb2 => ?_)))
        · rw [iC_len] at hp
          obtain ⟨bz, oz, uz, hz1, hz2, hz3, hz4⟩ := (hIh.out.below hB1).2.2.int hp
          refine ⟨⟨bz, oz, none⟩, hz1, fun j v hj => ?_⟩
          obtain ⟨b, off, e1, h3⟩ := hsrc.out j v hj
          rw [hz1] at e1
          cases e1
          rw [addr_add]
          exact h3
        · have hW2 : Hid (Wb w2 w1.heap.size 81 #[.int .i64 p0, .int .i64 p1, .int .i64 p2, .int .i64 p3]) := by
            have h0 := hg2.out
            rw [hsplh.out] at h0
            exact h0
          have hb2h := Lib.hid hb2
          have hB2 : Below w.heap.size w w2 := Below.via' hB1 hb2
          have hq2 := Lib.hid (hq1.out.below hb2)
          obtain ⟨ra, rb, rc⟩ := hq2.out
          have k0 : w2.cell? ⟨w1.heap.size, 0, none⟩ = some (.int .i64 p0) := (hW2.out.read 0).trans rfl
          have k1 : w2.cell? ⟨w1.heap.size, 1, none⟩ = some (.int .i64 p1) := (hW2.out.read 1).trans rfl
          have k2 : w2.cell? ⟨w1.heap.size, 2, none⟩ = some (.int .i64 p2) := (hW2.out.read 2).trans rfl
          have k3 : w2.cell? ⟨w1.heap.size, 3, none⟩ = some (.int .i64 p3) := (hW2.out.read 3).trans rfl
          have k4 := hW2.out.inside
          have c6 := (hb2.cell (p := ⟨b6, o6 + kk, none⟩) hb6).trans hc6.out
          have hb6' : b6 < w2.heap.size := Nat.lt_of_lt_of_le hb6 hb2.size
          clear hg2 hb2 qa qb qc hnew hsrc hBnh hb6
          go_region_held3 (fun w' => Below (w2).heap.size (w2) w' ∧ (∀ b o, b < (w2).heap.size → w'.cell? ⟨b, o, none⟩ = (w2).cell? ⟨b, o, none⟩)) (first | exact keep_of (Below.refl _ _) | ((try go_split_ands); exact keep_of (by repeat (first | exact Below.refl _ _ | assumption | refine Below.drew ?_ | refine below_drewN ?_ _ | refine Below.alloc' ?_ _ | (refine Below.setCell ?_ (by first | omega | (simp; done) | (simp; omega) | exact Below.size (by assumption) | exact Nat.le_trans (Below.size (by assumption)) (by simp)) _) | (refine Below.via' ?_ (by assumption)) | (refine Below.alloc ?_ (by first | omega | (simp; done) | (simp; omega) | exact Below.size (by assumption) | exact Nat.le_trans (Below.size (by assumption)) (by simp)) _) | (refine Below.via ?_ (by assumption) (by first | omega | (simp; done) | (simp; omega) | exact Below.size (by assumption) | exact Nat.le_trans (Below.size (by assumption)) (by simp))))))) ((go_at_call 75; refine (cellAt_any _ _ Z p0 p1 p2 p3 _ hok.out hfit.out ((hh.out.below hB2).1.below (by exact (by repeat (first | exact Below.refl _ _ | assumption | refine Below.drew ?_ | refine below_drewN ?_ _ | refine Below.alloc' ?_ _ | (refine Below.setCell ?_ (by first | omega | (simp; done) | (simp; omega) | exact Below.size (by assumption) | exact Nat.le_trans (Below.size (by assumption)) (by simp)) _) | (refine Below.via' ?_ (by assumption)) | (refine Below.alloc ?_ (by first | omega | (simp; done) | (simp; omega) | exact Below.size (by assumption) | exact Nat.le_trans (Below.size (by assumption)) (by simp)) _) | (refine Below.via ?_ (by assumption) (by first | omega | (simp; done) | (simp; omega) | exact Below.size (by assumption) | exact Nat.le_trans (Below.size (by assumption)) (by simp)))))))).mono ?_; rintro e3 w3 ⟨rfl, hb3⟩; rw [hix.out])); rename_i hH; obtain ⟨hb3, hcl3⟩ := hH; have hz3 := hb3.size; (try simp at hz3); (try (have hly3 := Nat.lt_of_succ_le hz3)); (try (have hlx3 := Nat.lt_of_succ_lt hly3)); (try (have hlw3 := Nat.lt_of_succ_lt hlx3)); (try (have hle3 := Nat.le_of_lt hly3)); (try (have hya3 : w.heap.size < w3.heap.size := by omega)); (try (have hyb3 : w.heap.size + 1 < w3.heap.size := by omega)); (try (have hyc3 : w.heap.size + 1 + 1 < w3.heap.size := by omega)); (try (have hyd3 : wa.heap.size < w3.heap.size := by omega))
          go_wp2
          go_ret2
          exact ⟨ret_in hv.out.1.symm hv.out.2.symm, Below.via' hB2 hb3⟩
  · have hlb : ((I.length : Int) == (Z.length : Int)) = false := by rw [beq_eq_false_iff_ne]; omega
    have hlb2 : ((I.length : Int) != (Z.length : Int)) = true := by show (!((I.length : Int) == (Z.length : Int))) = true; rw [hlb]; rfl
    have hv := Lib.hid (cu_no (cu_no2 C (ft_no1 hl)))
    replace hl := Lib.hid hl
    go_wp2
    go_ret2
    exact ⟨ret_in hv.out.1.symm hv.out.2.symm, hB1⟩
set_option maxHeartbeats 8000000 in
theorem sCC_any (x y z : Option Addr) (c d e : Nat) (Z C I : List Int) (w : World) (h : CIn w x y Z C) (hI : IIn w z I) :
    Calls Try.prog 31 #[.agg #[.slice x Z.length c, .slice y C.length d], .slice z I.length e] w fun e w' => e = .returned (.tuple #[.int .i64 (cuV Z C I), .bool (cuB Z C I)]) ∧ Below w.heap.size w w' := by
  have hh := Lib.hid h
  have hIh := Lib.hid hI
  have hq := Lib.hid (CQ.new w x Z.length c y C.length d 27)
  obtain ⟨qa, qb, qc⟩ := hq.out
  have hB0 : Below w.heap.size w (w.alloc (.cells #[.slice x Z.length c, .slice y C.length d] 27)) := (by repeat (first | exact Below.refl _ _ | assumption | refine Below.drew ?_ | refine below_drewN ?_ _ | refine Below.alloc' ?_ _ | (refine Below.setCell ?_ (by first | omega | (simp; done) | (simp; omega) | exact Below.size (by assumption) | exact Nat.le_trans (Below.size (by assumption)) (by simp)) _) | (refine Below.via' ?_ (by assumption)) | (refine Below.alloc ?_ (by first | omega | (simp; done) | (simp; omega) | exact Below.size (by assumption) | exact Nat.le_trans (Below.size (by assumption)) (by simp)) _) | (refine Below.via ?_ (by assumption) (by first | omega | (simp; done) | (simp; omega) | exact Below.size (by assumption) | exact Nat.le_trans (Below.size (by assumption)) (by simp)))))
  clear h hI
  go_enter Try.func31, Try.ntmps31
  go_wp2_with fail
  refine (cbGood_any _ _ _ _ Z C _ (hh.out.below hB0)).mono ?_
  rintro e1 w1 ⟨rfl, hb1⟩
  have hB1 : Below w.heap.size w w1 := Below.via' hB0 hb1
  have hq1 := Lib.hid (hq.out.below hb1)
  clear qa qb qc hb1 hB0
  obtain ⟨qa, qb, qc⟩ := hq1.out
  cases hg : cgB Z C
  · have hv := Lib.hid (cu_no (cu_no1 I hg))
    clear hg
    go_wp2
    go_ret2
    exact ⟨ret_in hv.out.1.symm hv.out.2.symm, hB1⟩
  have hgy := Lib.hid hg
  have hfh := Lib.hid (cg_get hg).1
  obtain ⟨f1, f2, f3⟩ := cf_get hfh.out
  have hok := Lib.hid (cs_get f1).1
  have h4 := okZ_len hok.out
  clear hg f1 f2 f3
  by_cases hl : I.length = Z.length
  · have hlb : ((I.length : Int) == (Z.length : Int)) = true := by rw [beq_iff_eq]; omega
    have hlb2 : ((I.length : Int) != (Z.length : Int)) = false := by show (!((I.length : Int) == (Z.length : Int))) = false; rw [hlb]; rfl
    have hlh := Lib.hid hl
    clear hl
    go_wp2
    go_loopw [21] (fun q wr => ∃ j : Nat, j ≤ I.length ∧ q = .int .i64 j ∧ Hid (∀ m, m < j → ∃ z x, Z[m]? = some z ∧ I[m]? = some x ∧ inB x 0 z = true) ∧ w1 = wr) (fun q _ => I.length - (intOf q).toNat)
    case atStart => exact ⟨0, by omega, by go_num, (fun m hm => absurd hm (by omega)), rfl⟩
    case round =>
      obtain ⟨j, hj, rfl, hall, rfl⟩ := hrel
      by_cases hlt : j < I.length
      · obtain ⟨bl, off, v, rfl, hbl, hZj, hc0⟩ := (hh.out.below hB1).1.2.2.int (i := j) (by have := hlh.out; omega)
        obtain ⟨bi, oi, u, rfl, hbi, hIj, hc1⟩ := (hIh.out.below hB1).2.2.int hlt
        have hlt' : (j : Int) < (I.length : Int) := by omega
        have hlt2 : (j : Int) < (Z.length : Int) := by have := hlh.out; omega
        cases hin : inB u 0 v
        · have hv := Lib.hid (cu_no (cu_no2 C (ft_bad hZj hIj hin)))
          replace hZj := Lib.hid hZj
          replace hIj := Lib.hid hIj
          go_wp2_with fail
          refine (l1In_any _ _ _ _).mono ?_
          rintro e2 w2 ⟨rfl, rfl⟩
          rw [hin]
          go_wp2
          go_ret2
          exact ⟨ret_in hv.out.1.symm hv.out.2.symm, hB1⟩
        · replace hZj := Lib.hid hZj
          replace hIj := Lib.hid hIj
          have hinh := Lib.hid hin
          go_wp2_with fail
          refine (l1In_any _ _ _ _).mono ?_
          rintro e2 w2 ⟨rfl, rfl⟩
          rw [hin]
          clear hin
          go_wp2
          go_roundw
          case rel =>
            refine ⟨j + 1, by omega, by go_num, fun m hm => ?_, by first | rfl | trivial⟩
            rcases Nat.lt_or_ge m j with hm2 | hm2
            · exact hall.out m hm2
            · obtain rfl : m = j := by omega
              exact ⟨v, u, hZj.out, hIj.out, hinh.out⟩
          case measure => simp [intOf]; omega
      · have hij : j = I.length := by omega
        subst hij
        have hft := Lib.hid (ft_all hlh.out (fun m hm => hall.out m (by have := hlh.out; omega)))
        obtain ⟨kk, hkk, hkl⟩ := cu_cell hgy.out hft.out
        obtain ⟨b6, o6, m, rfl, hb6, hCk, hc6⟩ := (hh.out.below hB1).2.2.2.int hkl
        have hv := Lib.hid (cu_yes hgy.out hft.out hkk hCk)
        have hfit := Lib.hid (ft_fit hft.out).1
        have hix := Lib.hid hkk
        have hkl' : (kk : Int) < (C.length : Int) := by omega
        clear hkk hCk hall hlb hlb2
        go_wp2_with fail
        go_region_held3 (fun w' => Below (w1).heap.size (w1) w' ∧ (∀ b o, b < (w1).heap.size → w'.cell? ⟨b, o, none⟩ = (w1).cell? ⟨b, o, none⟩)) (first | exact keep_of (Below.refl _ _) | ((try go_split_ands); exact keep_of (by repeat (first | exact Below.refl _ _ | assumption | refine Below.drew ?_ | refine below_drewN ?_ _ | refine Below.alloc' ?_ _ | (refine Below.setCell ?_ (by first | omega | (simp; done) | (simp; omega) | exact Below.size (by assumption) | exact Nat.le_trans (Below.size (by assumption)) (by simp)) _) | (refine Below.via' ?_ (by assumption)) | (refine Below.alloc ?_ (by first | omega | (simp; done) | (simp; omega) | exact Below.size (by assumption) | exact Nat.le_trans (Below.size (by assumption)) (by simp)) _) | (refine Below.via ?_ (by assumption) (by first | omega | (simp; done) | (simp; omega) | exact Below.size (by assumption) | exact Nat.le_trans (Below.size (by assumption)) (by simp))))))) ((go_at_call 74; refine (cbAt_any _ _ _ _ Z I _ hok.out hfit.out ((hh.out.below hB1).1.below (by exact (by repeat (first | exact Below.refl _ _ | assumption | refine Below.drew ?_ | refine below_drewN ?_ _ | refine Below.alloc' ?_ _ | (refine Below.setCell ?_ (by first | omega | (simp; done) | (simp; omega) | exact Below.size (by assumption) | exact Nat.le_trans (Below.size (by assumption)) (by simp)) _) | (refine Below.via' ?_ (by assumption)) | (refine Below.alloc ?_ (by first | omega | (simp; done) | (simp; omega) | exact Below.size (by assumption) | exact Nat.le_trans (Below.size (by assumption)) (by simp)) _) | (refine Below.via ?_ (by assumption) (by first | omega | (simp; done) | (simp; omega) | exact Below.size (by assumption) | exact Nat.le_trans (Below.size (by assumption)) (by simp))))))) ((hIh.out.below hB1).2.2.below (by exact (by repeat (first | exact Below.refl _ _ | assumption | refine Below.drew ?_ | refine below_drewN ?_ _ | refine Below.alloc' ?_ _ | (refine Below.setCell ?_ (by first | omega | (simp; done) | (simp; omega) | exact Below.size (by assumption) | exact Nat.le_trans (Below.size (by assumption)) (by simp)) _) | (refine Below.via' ?_ (by assumption)) | (refine Below.alloc ?_ (by first | omega | (simp; done) | (simp; omega) | exact Below.size (by assumption) | exact Nat.le_trans (Below.size (by assumption)) (by simp)) _) | (refine Below.via ?_ (by assumption) (by first | omega | (simp; done) | (simp; omega) | exact Below.size (by assumption) | exact Nat.le_trans (Below.size (by assumption)) (by simp)))))))).mono ?_; rintro e3 w3 ⟨rfl, rfl⟩; rw [hix.out])); rename_i hH; obtain ⟨hb3, hcl3⟩ := hH; have hz3 := hb3.size; (try simp at hz3); (try (have hly3 := Nat.lt_of_succ_le hz3)); (try (have hlx3 := Nat.lt_of_succ_lt hly3)); (try (have hlw3 := Nat.lt_of_succ_lt hlx3)); (try (have hle3 := Nat.le_of_lt hly3)); (try (have hya3 : w.heap.size < w3.heap.size := by omega)); (try (have hyb3 : w.heap.size + 1 < w3.heap.size := by omega)); (try (have hyc3 : w.heap.size + 1 + 1 < w3.heap.size := by omega)); (try (have hyd3 : wa.heap.size < w3.heap.size := by omega))
        go_wp2
        go_ret2
        exact ⟨ret_in hv.out.1.symm hv.out.2.symm, (by repeat (first | exact Below.refl _ _ | assumption | refine Below.drew ?_ | refine below_drewN ?_ _ | refine Below.alloc' ?_ _ | (refine Below.setCell ?_ (by first | omega | (simp; done) | (simp; omega) | exact Below.size (by assumption) | exact Nat.le_trans (Below.size (by assumption)) (by simp)) _) | (refine Below.via' ?_ (by assumption)) | (refine Below.alloc ?_ (by first | omega | (simp; done) | (simp; omega) | exact Below.size (by assumption) | exact Nat.le_trans (Below.size (by assumption)) (by simp)) _) | (refine Below.via ?_ (by assumption) (by first | omega | (simp; done) | (simp; omega) | exact Below.size (by assumption) | exact Nat.le_trans (Below.size (by assumption)) (by simp)))))⟩
  · have hlb : ((I.length : Int) == (Z.length : Int)) = false := by rw [beq_eq_false_iff_ne]; omega
    have hlb2 : ((I.length : Int) != (Z.length : Int)) = true := by show (!((I.length : Int) == (Z.length : Int))) = true; rw [hlb]; rfl
    have hv := Lib.hid (cu_no (cu_no2 C (ft_no1 hl)))
    replace hl := Lib.hid hl
    go_wp2
    go_ret2
    exact ⟨ret_in hv.out.1.symm hv.out.2.symm, hB1⟩
end Go.Proofs.Ytnmpigedhpdenaa
