import Derived.Test.YtnmpigedhpdenaaPQrB
import Derived.Laws.CopyOwn
import Derived.Deep.RegionLaw
import Derived.Test.YtnmpigedhpdenaaGrpW
import Derived.Test.YtnmpigedhpdenaaAtS
import Derived.Test.YtnmpigedhpdenaaGcN
namespace Go.Proofs.Ytnmpigedhpdenaa
open Go.RowKit
set_option maxRecDepth 100000

/-- The blocks at the beginning: the cube and the result. -/
def Fr2 (W : World) (g : Nat) (x : Option Addr) (n c : Nat) (y : Option Addr) (k d : Nat) : Prop := CQ W g x n c y k d ∧ Wb W (g + 1) 27 #[.slice none 0 0, .slice none 0 0]
section
variable {W W' : World} {g : Nat} {x : Option Addr} {n c : Nat} {y : Option Addr} {k d : Nat}
theorem Fr2.below (h : Fr2 W g x n c y k d) (hb : Below W.heap.size W W') : Fr2 W' g x n c y k d := ⟨h.1.below hb, h.2.kept hb⟩
theorem Fr2.grown {r : Option Nat} (h : Fr2 W g x n c y k d) (hg : W.grownBy W' r) (hr : ∀ q, r = some q → g + 1 < q) : Fr2 W' g x n c y k d :=
  ⟨h.1.grown hg (fun e => by have := hr _ e.symm; omega), h.2.grownC hg (fun e => by have := hr _ e; omega)⟩
theorem Fr2.new (w : World) (x : Option Addr) (n c : Nat) (y : Option Addr) (k d : Nat) : Fr2 ((w.alloc (.cells #[.slice x n c, .slice y k d] 27)).alloc (.cells #[.slice none 0 0, .slice none 0 0] 27)) w.heap.size x n c y k d := by
  refine ⟨(CQ.new w x n c y k d 27).below (by repeat (first | exact Below.refl _ _ | assumption | refine Below.drew ?_ | refine below_drewN ?_ _ | refine Below.alloc' ?_ _ | (refine Below.setCell ?_ (by first | omega | (simp; done) | (simp; omega) | exact Below.size (by assumption) | exact Nat.le_trans (Below.size (by assumption)) (by simp)) _) | (refine Below.via' ?_ (by assumption)) | (refine Below.alloc ?_ (by first | omega | (simp; done) | (simp; omega) | exact Below.size (by assumption) | exact Nat.le_trans (Below.size (by assumption)) (by simp)) _) | (refine Below.via ?_ (by assumption) (by first | omega | (simp; done) | (simp; omega) | exact Below.size (by assumption) | exact Nat.le_trans (Below.size (by assumption)) (by simp))))), ?_⟩
  have h := Wb.new (w.alloc (.cells #[.slice x n c, .slice y k d] 27)) 27 #[.slice none 0 0, .slice none 0 0]
  rwa [World.size_alloc] at h
end
set_option maxHeartbeats 2000000 in
theorem isDim_any (x y : Option Addr) (c d : Nat) (Z C : List Int) (m : Int) (w : World) :
    Calls Try.prog 81 #[.agg #[.slice x Z.length c, .slice y C.length d], .int .i64 m] w fun e w' => e = .returned (.bool (inB m 0 ((Z.length : Int) - 1))) ∧ Below w.heap.size w w' := by
  by_cases h0 : 0 ≤ m
  · by_cases h1 : m < (Z.length : Int)
    · have hv := Lib.hid ((inB_iff m 0 ((Z.length : Int) - 1)).2 ⟨h0, by omega⟩)
      go_enter Try.func81, Try.ntmps81
      go_wp2
      go_ret
      exact ⟨ret_bool hv.out.symm, (by repeat (first | exact Below.refl _ _ | assumption | refine Below.drew ?_ | refine below_drewN ?_ _ | refine Below.alloc' ?_ _ | (refine Below.setCell ?_ (by first | omega | (simp; done) | (simp; omega) | exact Below.size (by assumption) | exact Nat.le_trans (Below.size (by assumption)) (by simp)) _) | (refine Below.via' ?_ (by assumption)) | (refine Below.alloc ?_ (by first | omega | (simp; done) | (simp; omega) | exact Below.size (by assumption) | exact Nat.le_trans (Below.size (by assumption)) (by simp)) _) | (refine Below.via ?_ (by assumption) (by first | omega | (simp; done) | (simp; omega) | exact Below.size (by assumption) | exact Nat.le_trans (Below.size (by assumption)) (by simp)))))⟩
    · have hv := Lib.hid ((inB_no m 0 ((Z.length : Int) - 1)).2 (by omega))
      go_enter Try.func81, Try.ntmps81
      go_wp2
      go_ret
      exact ⟨ret_bool hv.out.symm, (by repeat (first | exact Below.refl _ _ | assumption | refine Below.drew ?_ | refine below_drewN ?_ _ | refine Below.alloc' ?_ _ | (refine Below.setCell ?_ (by first | omega | (simp; done) | (simp; omega) | exact Below.size (by assumption) | exact Nat.le_trans (Below.size (by assumption)) (by simp)) _) | (refine Below.via' ?_ (by assumption)) | (refine Below.alloc ?_ (by first | omega | (simp; done) | (simp; omega) | exact Below.size (by assumption) | exact Nat.le_trans (Below.size (by assumption)) (by simp)) _) | (refine Below.via ?_ (by assumption) (by first | omega | (simp; done) | (simp; omega) | exact Below.size (by assumption) | exact Nat.le_trans (Below.size (by assumption)) (by simp)))))⟩
  · have hv := Lib.hid ((inB_no m 0 ((Z.length : Int) - 1)).2 (by omega))
    go_enter Try.func81, Try.ntmps81
    go_wp2
    go_ret
    exact ⟨ret_bool hv.out.symm, (by repeat (first | exact Below.refl _ _ | assumption | refine Below.drew ?_ | refine below_drewN ?_ _ | refine Below.alloc' ?_ _ | (refine Below.setCell ?_ (by first | omega | (simp; done) | (simp; omega) | exact Below.size (by assumption) | exact Nat.le_trans (Below.size (by assumption)) (by simp)) _) | (refine Below.via' ?_ (by assumption)) | (refine Below.alloc ?_ (by first | omega | (simp; done) | (simp; omega) | exact Below.size (by assumption) | exact Nat.le_trans (Below.size (by assumption)) (by simp)) _) | (refine Below.via ?_ (by assumption) (by first | omega | (simp; done) | (simp; omega) | exact Below.size (by assumption) | exact Nat.le_trans (Below.size (by assumption)) (by simp)))))⟩
set_option maxHeartbeats 16000000 in
theorem iMg_any (x y z : Option Addr) (c d e : Nat) (Z C D : List Int) (w : World) (h : CIn w x y Z C) (hD : IIn w z D) :
    Calls Try.prog 34 #[.agg #[.slice x Z.length c, .slice y C.length d], .slice z D.length e] w (RetCu (mgR Z C D) (mgB Z C D) w) := by
  have hDh := Lib.hid hD
  have hDl := hD.1
  have hZl := h.1.1
  clear hD
  have hh := Lib.hid h
  clear h
  have t0n := Fr2.new w x Z.length c y C.length d
  obtain ⟨w0, hw0⟩ : ∃ w0, w0 = (w.alloc (.cells #[.slice x Z.length c, .slice y C.length d] 27)).alloc (.cells #[.slice none 0 0, .slice none 0 0] 27) := ⟨_, rfl⟩
  have B0 : Below w.heap.size w w0 := by rw [hw0]; exact (by repeat (first | exact Below.refl _ _ | assumption | refine Below.drew ?_ | refine below_drewN ?_ _ | refine Below.alloc' ?_ _ | (refine Below.setCell ?_ (by first | omega | (simp; done) | (simp; omega) | exact Below.size (by assumption) | exact Nat.le_trans (Below.size (by assumption)) (by simp)) _) | (refine Below.via' ?_ (by assumption)) | (refine Below.alloc ?_ (by first | omega | (simp; done) | (simp; omega) | exact Below.size (by assumption) | exact Nat.le_trans (Below.size (by assumption)) (by simp)) _) | (refine Below.via ?_ (by assumption) (by first | omega | (simp; done) | (simp; omega) | exact Below.size (by assumption) | exact Nat.le_trans (Below.size (by assumption)) (by simp)))))
  rw [← hw0] at t0n
  have t0 := Lib.hid t0n
  clear t0n
  go_enter Try.func34, Try.ntmps34
  go_wp2_with fail
  rw [← hw0]
  replace hw0 := Lib.hid hw0
  refine (iCu_any _ _ _ _ Z C _ (hh.out.below B0)).mono ?_
  rintro e1 w1 ⟨rfl, hb1⟩
  have B1 : Below w.heap.size w w1 := Below.via' B0 hb1
  have t1 := Lib.hid (t0.out.below hb1)
  try clear a0a a0b a0c z0a z0b z0c z0d z0e
  clear hb1
  obtain ⟨⟨a1a, a1b, a1c⟩, zz1⟩ := t1.out
  have z1a := (zz1.read 0).trans rfl
  have z1b := (zz1.read 1).trans rfl
  have z1c := zz1.free 0
  have z1d := zz1.free 1
  have z1e := zz1.inside
  clear zz1
  cases hg1 : cgB Z C
  · have hv := Lib.hid (mg_no (mg_no1 D hg1))
    clear hg1
    go_wp2
    refine bodyPost_ret (v := .tuple #[.agg #[.slice none 0 0, .slice none 0 0], .bool false]) (by simp [results, Try.results34, go_sem, *]) rfl (retCu_no hv.out.1 hv.out.2 ?_)
    repeat (refine Below.setCell ?_ (by simp; try omega) _)
    exact B1
  have hgh := Lib.hid hg1
  have hfh := Lib.hid (cg_get hg1).1
  obtain ⟨f1, f2, f3⟩ := cf_get hfh.out
  have hok := Lib.hid (cs_get f1).1
  have hcn := Lib.hid f2
  have h4 := okZ_len hok.out
  have hCl := cf_len hfh.out
  clear hg1 f1 f2 f3
  go_wp2_with fail
  refine (areIndicesR_any _ _ Z.length D _ hZl (hDh.out.below B1)).mono ?_
  rintro e1 w2 ⟨rfl, rfl⟩
  cases hr : riU (Z.length : Int) 0 D
  · have hv := Lib.hid (mg_no (mg_no2 C hr))
    clear hr
    go_wp2
    refine bodyPost_ret (v := .tuple #[.agg #[.slice none 0 0, .slice none 0 0], .bool false]) (by simp [results, Try.results34, go_sem, *]) rfl (retCu_no hv.out.1 hv.out.2 ?_)
    repeat (refine Below.setCell ?_ (by simp; try omega) _)
    exact B1
  obtain ⟨m1, m2, m3⟩ := mg_all (okZ_nn hok.out) hr
  have hrh := Lib.hid hr
  have hF1 := Lib.hid m1
  have hFl := Lib.hid (mgF_len Z D)
  have hbd := Lib.hid (ri_bd hr)
  have hv := Lib.hid (mg_yes hgh.out hr)
  clear hr m1 m2 m3
  have hnew := Lib.hid (Wb.new w1 81 (iC [0, 0, 0, 0]).toArray)
  obtain ⟨w3, hw3⟩ : ∃ w3, w3 = w1.alloc (.cells #[.int .i64 0, .int .i64 0, .int .i64 0, .int .i64 0] 81) := ⟨_, rfl⟩
  have hbn : Below w1.heap.size w1 w3 := by rw [hw3]; exact (by repeat (first | exact Below.refl _ _ | assumption | refine Below.drew ?_ | refine below_drewN ?_ _ | refine Below.alloc' ?_ _ | (refine Below.setCell ?_ (by first | omega | (simp; done) | (simp; omega) | exact Below.size (by assumption) | exact Nat.le_trans (Below.size (by assumption)) (by simp)) _) | (refine Below.via' ?_ (by assumption)) | (refine Below.alloc ?_ (by first | omega | (simp; done) | (simp; omega) | exact Below.size (by assumption) | exact Nat.le_trans (Below.size (by assumption)) (by simp)) _) | (refine Below.via ?_ (by assumption) (by first | omega | (simp; done) | (simp; omega) | exact Below.size (by assumption) | exact Nat.le_trans (Below.size (by assumption)) (by simp)))))
  have hn3 : Hid (Wb w3 w1.heap.size 81 (iC [0, 0, 0, 0]).toArray) := by rw [hw3]; exact hnew.out
  have B3 : Below w.heap.size w w3 := Below.via' B1 hbn
  have t3 := Lib.hid (t1.out.below hbn)
  clear a1a a1b a1c z1a z1b z1c z1d z1e hnew
  obtain ⟨⟨a3a, a3b, a3c⟩, zz3⟩ := t3.out
  clear zz3
  have hlo := hbn.size
  have hlt1 : w1.heap.size < w3.heap.size := hn3.out.inside
  have hl1 : w.heap.size + 1 < w1.heap.size := t1.out.2.inside
  obtain ⟨p0, p1, p2, p3, hfour, hspl⟩ := splice_four (I := Z) h4
  have hpos := Lib.hid (show 0 < (iC Z).length → ∃ ad, x = some ad ∧ ∀ j v, (iC Z)[j]? = some v → w3.drew.cell? (ad.add j) = some v from fun hp => by
    rw [iC_len] at hp
    obtain ⟨b, off, u, e1, h1, h2, h3⟩ := (hh.out.below B3).1.2.2.int hp
    refine ⟨_, e1, fun j v hj => ?_⟩
    have hjl := (List.getElem?_eq_some_iff.1 hj).1
    rw [iC_len] at hjl
    obtain ⟨b2, off2, u2, e2, k1, k2, k3⟩ := (hh.out.below B3).1.2.2.int hjl
    rw [e1] at e2
    injection e2 with e2
    injection e2 with e2 e3
    subst e2 e3
    rw [iC_at k2] at hj
    cases hj
    rw [addr_add]
    exact k3)
  have hfh4 := Lib.hid hfour
  have hsplh := Lib.hid hspl
  have hnd : Hid (w3.drew.heap[w1.heap.size]? = some (.cells (iC [0, 0, 0, 0]).toArray 81 (0, 0))) := hn3.out
  have hbd3 : Hid (Below w1.heap.size w1 w3.drew) := Below.drew hbn
  clear hfour hspl hbn
  go_wp2_with fail
  rw [← hw3]
  replace hw3 := Lib.hid hw3
  go_upto_region 4 with fail
  go_cut [] (fun wx => Wb wx w1.heap.size 81 (iC (Z ++ List.replicate (4 - Z.length) 0)).toArray ∧ Below w1.heap.size w1 wx ∧ w3.heap.size ≤ wx.heap.size)
  case first =>
    go_region_law (go_loud (refine step_copy_splice rfl (.tmp 21) (.tmp 23) 22 22 rfl 3 Try.underlying22 (by kernel_rfl) (some ⟨w1.heap.size, 0, none⟩) x 4 4 Z.length c (by go_simp) (by go_simp) w1.heap.size 0 (iC [0, 0, 0, 0]) 81 hnd.out (iC Z) (by rw [iC_len]; exact (Nat.min_eq_left h4).symm) (fun hp => ⟨rfl, hpos.out hp⟩) (by rw [iC_len, iC_len]; simpa using h4) (iC_one _) w1.heap.size w1 hbd3.out (Nat.le_refl _) ?_); intro w4 hg4 hb4)
    all_goals
      have hg5 : Hid (Wb w4 w1.heap.size 81 (iC (Z ++ List.replicate (4 - Z.length) 0)).toArray) := by
        have h0 := hg4.out
        rw [hsplh.out, ← hfh4.out] at h0
        exact h0
      have hs4 : Hid (w3.heap.size ≤ w4.heap.size) := by
        have := hg5.out.inside
        have h3 : w3.heap.size = w1.heap.size + 1 := by rw [hw3.out, World.size_alloc]
        unfold Hid
        omega
      clear hg4
      try go_simp
      go_wp2_with fail
      go_meet
      exact ⟨hg5, hb4, hs4⟩
  obtain ⟨hP, hb4, hs4⟩ := hcut
  obtain ⟨w4, rfl⟩ : ∃ u : World, u = wc := ⟨_, rfl⟩
  have hP4 := Lib.hid (show Wb w4 w1.heap.size 81 (iC (mgF (Z ++ List.replicate (4 - Z.length) 0) (D.take 0))).toArray from hP)
  have t4 := Lib.hid (t1.out.below hb4)
  have B4 : Below w.heap.size w w4 := Below.via' B1 hb4
  have happ := Lib.hid (mgF_app (List.replicate (4 - Z.length) 0) Z D (fun d hd => by have := hbd.out d hd; omega))
  clear hP hb4 hs4 hpos hnd hbd3 hn3 B3 t3 a3a a3b a3c hlo hlt1 hfh4 hsplh hw3
  obtain ⟨u4, hu4⟩ : ∃ u4, u4 = w1.heap.size := ⟨_, rfl⟩
  rw [← hu4] at hP4 hl1 ⊢
  replace hu4 := Lib.hid hu4
  go_wp2
  go_loopw [27] (fun q wr => ∃ j : Nat, j ≤ D.length ∧ q = .int .i64 j ∧ Hid (Wb wr u4 81 (iC (mgF (Z ++ List.replicate (4 - Z.length) 0) (D.take j))).toArray) ∧ Hid (Fr2 wr w.heap.size x Z.length c y C.length d) ∧ Below w.heap.size w wr) (fun q _ => D.length - (intOf q).toNat)
  case atStart => exact ⟨0, by omega, by go_num, hP4.out, t4.out, B4⟩
  case round =>
    clear hP4 t4 B4
    obtain ⟨j, hj, rfl, hP, tr, hB⟩ := hrel
    by_cases hlt : j < D.length
    · obtain ⟨bl, off, v, rfl, hbl, hDj, hc0⟩ := (hDh.out.below hB).2.2.int hlt
      obtain ⟨v1, v2⟩ := hbd.out v (List.mem_of_getElem? hDj)
      have hst := Lib.hid (show mgF (Z ++ List.replicate (4 - Z.length) 0) (D.take (j + 1)) = (mgF (Z ++ List.replicate (4 - Z.length) 0) (D.take j)).set v.toNat (-1) by rw [take_snoc hDj, mgF_snoc])
      obtain ⟨k, rfl⟩ : ∃ k : Nat, v = (k : Int) := ⟨v.toNat, by omega⟩
      have k2 := hP.out.free k
      have k4 := hP.out.inside
      obtain ⟨y', hy'⟩ : ∃ y', (mgF (Z ++ List.replicate (4 - Z.length) 0) (D.take j))[k]? = some y' := ⟨_, List.getElem?_eq_getElem (by rw [mgF_len, List.length_append, List.length_replicate]; omega)⟩
      have k0 := hP.out.atI hy'
      have hlt' : (j : Int) < (D.length : Int) := by omega
      have hk4 : (k : Int) < 4 := by omega
      have hk0 : (0 : Int) ≤ (k : Int) := by omega
      have hP2 := Lib.hid (hP.out.putI k (-1))
      have tr2 := Lib.hid (tr.out.grown (grown_setU wr ⟨u4, k, none⟩ (.int .i64 (-1))) (fun q hq => by injection hq with hq; simp at hq; omega))
      replace hDj := Lib.hid hDj
      replace hy' := Lib.hid hy'
      go_wp2
      go_roundw
      case rel => exact ⟨j + 1, by omega, by go_num, (by rw [hst.out]; exact hP2), tr2, Below.setCell (p := ⟨u4, k, none⟩) hB (by show w.heap.size ≤ u4; omega) _⟩
      case measure => simp [intOf]; omega
    · have hij : j = D.length := by omega
      subst hij
      rw [List.take_length, happ.out] at hP
      obtain ⟨f0, f1, f2, f3, hf4⟩ := four_of (L := (mgF Z D) ++ (List.replicate (4 - Z.length) 0)) (by rw [List.length_append, hFl.out, List.length_replicate]; omega)
      rw [hf4] at hP
      have hf4h := Lib.hid hf4
      have q0 : wr.cell? ⟨u4, 0, none⟩ = some (.int .i64 f0) := (hP.out.read 0).trans rfl
      have q1 : wr.cell? ⟨u4, 1, none⟩ = some (.int .i64 f1) := (hP.out.read 1).trans rfl
      have q2 : wr.cell? ⟨u4, 2, none⟩ = some (.int .i64 f2) := (hP.out.read 2).trans rfl
      have q3 : wr.cell? ⟨u4, 3, none⟩ = some (.int .i64 f3) := (hP.out.read 3).trans rfl
      have q4 := hP.out.inside
      obtain ⟨⟨ara, arb, arc⟩, -⟩ := tr.out
      clear hf4
      have hz5 : w.heap.size + 1 < wr.heap.size := tr.out.2.inside
      go_wp2_with fail
      refine (cutOf_any _ _ _ _ Z C (mgF Z D) (List.replicate (4 - Z.length) 0) f0 f1 f2 f3 _ hok.out hCl (hh.out.below hB) hf4h.out hFl.out (fun t ht => .inl (List.eq_of_mem_replicate ht)) (by rw [List.length_replicate])).mono ?_
      rw [ctU_all hF1.out (okZ_nn hok.out) hcn.out]
      rintro e5 w5 ⟨x5, c5, z5, d5, rfl, ho5, hb5⟩
      have t5 := Lib.hid (tr.out.below hb5)
      have B5 : Below w.heap.size w w5 := Below.via' hB hb5
      have ho5h := Lib.hid ho5
      have z5a : w5.cell? ⟨w.heap.size + 1, 0, none⟩ = some (.slice none 0 0) := (t5.out.2.read 0).trans rfl
      have z5b : w5.cell? ⟨w.heap.size + 1, 1, none⟩ = some (.slice none 0 0) := (t5.out.2.read 1).trans rfl
      have z5c := t5.out.2.free 0
      have z5d := t5.out.2.free 1
      have z5e := t5.out.2.inside
      have hs5 := hb5.size
      dsimp only at ho5 ho5h
      clear hb5 ho5 q0 q1 q2 q3 q4 ara arb arc
      go_wp2
      refine bodyPost_ret (v := .tuple #[.agg #[.slice x5 (opZ Z (mgF Z D)).length c5, .slice z5 (ctL Z (mgF Z D) C).length d5], .bool true]) (by simp [results, Try.results34, go_sem, *]) rfl ?_
      refine retCu_yes hv.out.1 hv.out.2 ?_ ?_
      · exact ((ho5h.out.aside _ _ (.inl (by show w.heap.size + 1 < wr.heap.size; omega))).aside _ _ (.inl (by show w.heap.size + 1 < wr.heap.size; omega))).more (by omega) (by simp only [World.size_setCell]; exact Nat.le_refl _)
      · repeat (refine Below.setCell ?_ (by simp; try omega) _)
        exact B5
def rpL (j : Nat) : List Int := List.replicate j (-1) ++ List.replicate (4 - j) 0
theorem rp_set {j : Nat} (h : j < 4) : rpL (j + 1) = (rpL j).set j (-1) := by
  have : j = 0 ∨ j = 1 ∨ j = 2 ∨ j = 3 := by omega
  rcases this with rfl | rfl | rfl | rfl <;> rfl
theorem rp_len {j : Nat} (h : j ≤ 4) : (rpL j).length = 4 := by unfold rpL; rw [List.length_append, List.length_replicate, List.length_replicate]; omega
set_option maxHeartbeats 16000000 in
theorem iSl_any (x y : Option Addr) (c d : Nat) (Z C : List Int) (m i : Int) (w : World) (h : CIn w x y Z C) :
    Calls Try.prog 36 #[.agg #[.slice x Z.length c, .slice y C.length d], .int .i64 m, .int .i64 i] w (RetCu (slR Z C m i) (slB Z C m i) w) := by
  have hh := Lib.hid h
  clear h
  have t0n := Fr2.new w x Z.length c y C.length d
  obtain ⟨w0, hw0⟩ : ∃ w0, w0 = (w.alloc (.cells #[.slice x Z.length c, .slice y C.length d] 27)).alloc (.cells #[.slice none 0 0, .slice none 0 0] 27) := ⟨_, rfl⟩
  have B0 : Below w.heap.size w w0 := by rw [hw0]; exact (by repeat (first | exact Below.refl _ _ | assumption | refine Below.drew ?_ | refine below_drewN ?_ _ | refine Below.alloc' ?_ _ | (refine Below.setCell ?_ (by first | omega | (simp; done) | (simp; omega) | exact Below.size (by assumption) | exact Nat.le_trans (Below.size (by assumption)) (by simp)) _) | (refine Below.via' ?_ (by assumption)) | (refine Below.alloc ?_ (by first | omega | (simp; done) | (simp; omega) | exact Below.size (by assumption) | exact Nat.le_trans (Below.size (by assumption)) (by simp)) _) | (refine Below.via ?_ (by assumption) (by first | omega | (simp; done) | (simp; omega) | exact Below.size (by assumption) | exact Nat.le_trans (Below.size (by assumption)) (by simp)))))
  rw [← hw0] at t0n
  have t0 := Lib.hid t0n
  clear t0n
  go_enter Try.func36, Try.ntmps36
  go_wp2_with fail
  rw [← hw0]
  replace hw0 := Lib.hid hw0
  refine (iCu_any _ _ _ _ Z C _ (hh.out.below B0)).mono ?_
  rintro e1 w1 ⟨rfl, hb1⟩
  have B1 : Below w.heap.size w w1 := Below.via' B0 hb1
  have t1 := Lib.hid (t0.out.below hb1)
  try clear a0a a0b a0c z0a z0b z0c z0d z0e
  clear hb1
  obtain ⟨⟨a1a, a1b, a1c⟩, zz1⟩ := t1.out
  have z1a := (zz1.read 0).trans rfl
  have z1b := (zz1.read 1).trans rfl
  have z1c := zz1.free 0
  have z1d := zz1.free 1
  have z1e := zz1.inside
  clear zz1
  cases hg1 : cgB Z C
  · have hv := Lib.hid (sl_no (sl_no1 m i hg1))
    clear hg1
    go_wp2
    refine bodyPost_ret (v := .tuple #[.agg #[.slice none 0 0, .slice none 0 0], .bool false]) (by simp [results, Try.results36, go_sem, *]) rfl (retCu_no hv.out.1 hv.out.2 ?_)
    repeat (refine Below.setCell ?_ (by simp; try omega) _)
    exact B1
  have hgh := Lib.hid hg1
  have hfh := Lib.hid (cg_get hg1).1
  obtain ⟨f1, f2, f3⟩ := cf_get hfh.out
  have hok := Lib.hid (cs_get f1).1
  have hcn := Lib.hid f2
  have h4 := okZ_len hok.out
  have hCl := cf_len hfh.out
  clear hg1 f1 f2 f3
  go_wp2_with fail
  refine (isDim_any _ _ _ _ Z C m _).mono ?_
  rintro e1 w2 ⟨rfl, hb2⟩
  have B2 : Below w.heap.size w w2 := Below.via' B1 hb2
  have t2 := Lib.hid (t1.out.below hb2)
  try clear a1a a1b a1c z1a z1b z1c z1d z1e
  clear hb2
  obtain ⟨⟨a2a, a2b, a2c⟩, zz2⟩ := t2.out
  have z2a := (zz2.read 0).trans rfl
  have z2b := (zz2.read 1).trans rfl
  have z2c := zz2.free 0
  have z2d := zz2.free 1
  have z2e := zz2.inside
  clear zz2
  cases hr : inB m 0 ((Z.length : Int) - 1)
  · have hv := Lib.hid (sl_no (sl_no2 C i hr))
    clear hr
    go_wp2
    refine bodyPost_ret (v := .tuple #[.agg #[.slice none 0 0, .slice none 0 0], .bool false]) (by simp [results, Try.results36, go_sem, *]) rfl (retCu_no hv.out.1 hv.out.2 ?_)
    repeat (refine Below.setCell ?_ (by simp; try omega) _)
    exact B2
  have hrh := Lib.hid hr
  obtain ⟨m1, m2⟩ := (inB_iff _ _ _).1 hr
  obtain ⟨k, rfl⟩ : ∃ k : Nat, m = (k : Int) := ⟨m.toNat, by omega⟩
  have hkl : k < Z.length := by omega
  obtain ⟨bl, off, v, rfl, hbl, hZk, hc0⟩ := (hh.out.below B2).1.2.2.int hkl
  have hkl' : (k : Int) < (Z.length : Int) := by omega
  clear hr m2
  cases hin : inB i 0 (Z.getD ((k : Int).toNat) 0)
  · have hno := (inB_no _ _ _).1 hin
    rw [Int.toNat_natCast, getD_at hZk] at hno
    have hv := Lib.hid (sl_no (sl_no3 C hin))
    replace hZk := Lib.hid hZk
    clear hin
    by_cases hlo : i < 0
    · clear hno
      go_wp2
      refine bodyPost_ret (v := .tuple #[.agg #[.slice none 0 0, .slice none 0 0], .bool false]) (by simp [results, Try.results36, go_sem, *]) rfl (retCu_no hv.out.1 hv.out.2 ?_)
      repeat (refine Below.setCell ?_ (by simp; try omega) _)
      exact B2
    · have hhi : v < i := by omega
      clear hno
      go_wp2
      refine bodyPost_ret (v := .tuple #[.agg #[.slice none 0 0, .slice none 0 0], .bool false]) (by simp [results, Try.results36, go_sem, *]) rfl (retCu_no hv.out.1 hv.out.2 ?_)
      repeat (refine Below.setCell ?_ (by simp; try omega) _)
      exact B2
  have hinh := Lib.hid hin
  have hio := (inB_iff _ _ _).1 hin
  rw [Int.toNat_natCast, getD_at hZk] at hio
  obtain ⟨i1, i2⟩ := hio
  have hlo : ¬ i < 0 := by omega
  have hhi : ¬ v < i := by omega
  have hF1 := Lib.hid (sl_all (m := (k : Int)) (by rw [Int.toNat_natCast]; exact hZk) i1 i2).1
  have hFl := Lib.hid (slF_len Z (k : Int) i)
  have hv := Lib.hid (sl_yes hgh.out hrh.out hin)
  have happ := Lib.hid (sl_four (Z := Z) (m := (k : Int)) (i := i) h4 (by rw [Int.toNat_natCast]; exact hkl))
  replace hZk := Lib.hid hZk
  clear hin i1 i2
  have hnew := Wb.new w2 81 (iC (rpL 0)).toArray
  obtain ⟨w3, hw3⟩ : ∃ w3, w3 = w2.alloc (.cells #[.int .i64 0, .int .i64 0, .int .i64 0, .int .i64 0] 81) := ⟨_, rfl⟩
  have hbn : Below w2.heap.size w2 w3 := by rw [hw3]; exact (by repeat (first | exact Below.refl _ _ | assumption | refine Below.drew ?_ | refine below_drewN ?_ _ | refine Below.alloc' ?_ _ | (refine Below.setCell ?_ (by first | omega | (simp; done) | (simp; omega) | exact Below.size (by assumption) | exact Nat.le_trans (Below.size (by assumption)) (by simp)) _) | (refine Below.via' ?_ (by assumption)) | (refine Below.alloc ?_ (by first | omega | (simp; done) | (simp; omega) | exact Below.size (by assumption) | exact Nat.le_trans (Below.size (by assumption)) (by simp)) _) | (refine Below.via ?_ (by assumption) (by first | omega | (simp; done) | (simp; omega) | exact Below.size (by assumption) | exact Nat.le_trans (Below.size (by assumption)) (by simp)))))
  have hn3 : Hid (Wb w3 w2.heap.size 81 (iC (rpL 0)).toArray) := by rw [hw3]; exact hnew
  have B3 : Below w.heap.size w w3 := Below.via' B2 hbn
  have t3 := Lib.hid (t2.out.below hbn)
  have hl1 : w.heap.size + 1 < w2.heap.size := t2.out.2.inside
  clear hnew hbn
  go_wp2_with fail
  rw [← hw3]
  replace hw3 := Lib.hid hw3
  clear a2a a2b a2c z2a z2b z2c z2d z2e hc0
  obtain ⟨u4, hu4⟩ : ∃ u4, u4 = w2.heap.size := ⟨_, rfl⟩
  rw [← hu4] at hn3 hl1 ⊢
  replace hu4 := Lib.hid hu4
  go_wp2
  go_loopw [33] (fun q wr => ∃ j : Nat, j ≤ 4 ∧ q = .int .i64 j ∧ Hid (Wb wr u4 81 (iC (rpL j)).toArray) ∧ Hid (Fr2 wr w.heap.size (some ⟨bl, off, none⟩) Z.length c y C.length d) ∧ Below w.heap.size w wr) (fun q _ => 4 - (intOf q).toNat)
  case atStart => exact ⟨0, by omega, by go_num, hn3.out, t3.out, B3⟩
  case round =>
    clear hn3 t3 B3
    obtain ⟨j, hj, rfl, hP, tr, hB⟩ := hrel
    by_cases hlt : j < 4
    · have hst := Lib.hid (rp_set hlt)
      have k2 := hP.out.free j
      have k4 := hP.out.inside
      obtain ⟨y', hy'⟩ : ∃ y', (rpL j)[j]? = some y' := ⟨_, List.getElem?_eq_getElem (by rw [rp_len hj]; exact hlt)⟩
      have k0 := hP.out.atI hy'
      have hj4 : (j : Int) < 4 := by omega
      have hj0 : (0 : Int) ≤ (j : Int) := by omega
      have hP2 := Lib.hid (hP.out.putI j (-1))
      have tr2 := Lib.hid (tr.out.grown (grown_setU wr ⟨u4, j, none⟩ (.int .i64 (-1))) (fun q hq => by injection hq with hq; simp at hq; omega))
      replace hy' := Lib.hid hy'
      go_wp2
      go_roundw
      case rel => exact ⟨j + 1, by omega, by go_num, (by rw [hst.out]; exact hP2), tr2, Below.setCell (p := ⟨u4, j, none⟩) hB (by show w.heap.size ≤ u4; omega) _⟩
      case measure => simp [intOf]; omega
    · have hij : j = 4 := by omega
      subst hij
      have k2 := hP.out.free k
      have k4 := hP.out.inside
      obtain ⟨y', hy'⟩ : ∃ y', (rpL 4)[k]? = some y' := ⟨_, List.getElem?_eq_getElem (by rw [rp_len (Nat.le_refl _)]; omega)⟩
      have k0 := hP.out.atI hy'
      have hk4 : (k : Int) < 4 := by omega
      have hk0 : (0 : Int) ≤ (k : Int) := by omega
      have hP2 := Lib.hid (hP.out.putI k i)
      have tr2 := Lib.hid (tr.out.grown (grown_setU wr ⟨u4, k, none⟩ (.int .i64 i)) (fun q hq => by injection hq with hq; simp at hq; omega))
      have hB2 : Below w.heap.size w (wr.setCell ⟨u4, k, none⟩ (.int .i64 i)) := Below.setCell (p := ⟨u4, k, none⟩) hB (by show w.heap.size ≤ u4; omega) _
      replace hy' := Lib.hid hy'
      obtain ⟨w5, hw5⟩ : ∃ w5, w5 = wr.setCell ⟨u4, k, none⟩ (.int .i64 i) := ⟨_, rfl⟩
      go_upto_region 10 with fail
      rw [← hw5] at hP2 tr2 hB2 ⊢
      rw [Int.toNat_natCast, show ([-1, -1, -1, -1] : List Int) = rpL 4 from rfl] at happ
      rw [← happ.out] at hP2
      have hw54 := Lib.hid hw5
      clear hw5 k0 k2 k4 hB tr hP
      obtain ⟨f0, f1, f2, f3, hf4⟩ := four_of (L := (slF Z (k : Int) i) ++ (List.replicate (4 - Z.length) (-1))) (by rw [List.length_append, hFl.out, List.length_replicate]; omega)
      rw [hf4] at hP2
      have hf4h := Lib.hid hf4
      have q0 : w5.cell? ⟨u4, 0, none⟩ = some (.int .i64 f0) := (hP2.out.read 0).trans rfl
      have q1 : w5.cell? ⟨u4, 1, none⟩ = some (.int .i64 f1) := (hP2.out.read 1).trans rfl
      have q2 : w5.cell? ⟨u4, 2, none⟩ = some (.int .i64 f2) := (hP2.out.read 2).trans rfl
      have q3 : w5.cell? ⟨u4, 3, none⟩ = some (.int .i64 f3) := (hP2.out.read 3).trans rfl
      have q4 := hP2.out.inside
      obtain ⟨⟨ara, arb, arc⟩, -⟩ := tr2.out
      clear hf4
      have hz5 : w.heap.size + 1 < w5.heap.size := tr2.out.2.inside
      go_wp2_with fail
      refine (cutOf_any _ _ _ _ Z C (slF Z (k : Int) i) (List.replicate (4 - Z.length) (-1)) f0 f1 f2 f3 _ hok.out hCl (hh.out.below hB2) hf4h.out hFl.out (fun t ht => .inr (List.eq_of_mem_replicate ht)) (by rw [List.length_replicate])).mono ?_
      rw [ctU_all hF1.out (okZ_nn hok.out) hcn.out]
      rintro e5 w6 ⟨x5, c5, z5, d5, rfl, ho5, hb5⟩
      have t5 := Lib.hid (tr2.out.below hb5)
      have B5 : Below w.heap.size w w6 := Below.via' hB2 hb5
      have ho5h := Lib.hid ho5
      have z5a : w6.cell? ⟨w.heap.size + 1, 0, none⟩ = some (.slice none 0 0) := (t5.out.2.read 0).trans rfl
      have z5b : w6.cell? ⟨w.heap.size + 1, 1, none⟩ = some (.slice none 0 0) := (t5.out.2.read 1).trans rfl
      have z5c := t5.out.2.free 0
      have z5d := t5.out.2.free 1
      have z5e := t5.out.2.inside
      have hs5 := hb5.size
      dsimp only at ho5 ho5h
      clear hb5 ho5 q0 q1 q2 q3 q4 ara arb arc
      go_wp2
      refine bodyPost_ret (v := .tuple #[.agg #[.slice x5 (opZ Z (slF Z (k : Int) i)).length c5, .slice z5 (ctL Z (slF Z (k : Int) i) C).length d5], .bool true]) (by simp [results, Try.results36, go_sem, *]) rfl ?_
      refine retCu_yes hv.out.1 hv.out.2 ?_ ?_
      · exact ((ho5h.out.aside _ _ (.inl (by show w.heap.size + 1 < w5.heap.size; omega))).aside _ _ (.inl (by show w.heap.size + 1 < w5.heap.size; omega))).more (by have := B5.size; omega) (by simp only [World.size_setCell]; exact Nat.le_refl _)
      · repeat (refine Below.setCell ?_ (by simp; try omega) _)
        exact B5
end Go.Proofs.Ytnmpigedhpdenaa

namespace Go.Proofs.Ytnmpigedhpdenaa
open Go.RowKit
set_option maxRecDepth 100000

theorem inc_ge {L : List Int} (hI : Inc L) (h0 : ∀ x ∈ L, 0 ≤ x) : ∀ (j : Nat) (v : Int), L[j]? = some v → (j : Int) ≤ v
  | 0, v, h => h0 v (List.mem_of_getElem? h)
  | j + 1, v, h => by
    obtain ⟨hl, e⟩ := List.getElem?_eq_some_iff.1 h
    have hj : j < L.length := by omega
    have h1 := inc_ge hI h0 j L[j] (List.getElem?_eq_getElem hj)
    have h2 := List.pairwise_iff_getElem.1 hI j (j + 1) hj hl (by omega)
    omega
theorem inc_le {L : List Int} (hI : Inc L) {m : Int} (hm : ∀ x ∈ L, x ≤ m) : ∀ (d j : Nat) (v : Int), j + d + 1 = L.length → L[j]? = some v → v + (d : Int) ≤ m
  | 0, j, v, _, h => by have := hm v (List.mem_of_getElem? h); omega
  | d + 1, j, v, hd, h => by
    obtain ⟨hl, e⟩ := List.getElem?_eq_some_iff.1 h
    have hj : j + 1 < L.length := by omega
    have h1 := inc_le hI hm d (j + 1) L[j + 1] (by omega) (List.getElem?_eq_getElem hj)
    have h2 := List.pairwise_iff_getElem.1 hI j (j + 1) hl hj (by omega)
    omega
theorem inc_full {L : List Int} (hI : Inc L) (h0 : ∀ x ∈ L, 0 ≤ x) (hne : L ≠ []) : (∀ k : Nat, k < L.length → (k : Int) ∈ L) ↔ lsZ L = (L.length : Int) - 1 := by
  obtain ⟨t1, t2⟩ := lsZ_top hI hne
  have hpos := List.length_pos_iff.2 hne
  constructor
  · intro h
    have key : ∀ k : Nat, k < L.length → ∃ p, k ≤ p ∧ L[p]? = some (k : Int) := by
      intro k
      induction k with
      | zero =>
        intro hk
        obtain ⟨p, hp, e⟩ := List.getElem_of_mem (h 0 hk)
        exact ⟨p, Nat.zero_le _, by rw [List.getElem?_eq_getElem hp, e]⟩
      | succ k ih =>
        intro hk
        obtain ⟨p, hp, e⟩ := ih (by omega)
        obtain ⟨q, hq, e2⟩ := List.getElem_of_mem (h (k + 1) hk)
        refine ⟨q, ?_, by rw [List.getElem?_eq_getElem hq, e2]⟩
        obtain ⟨hpl, e1⟩ := List.getElem?_eq_some_iff.1 e
        rcases Nat.lt_or_ge p q with h1 | h1
        · omega
        · rcases Nat.lt_or_ge q p with h2 | h2
          · have := List.pairwise_iff_getElem.1 hI q p hq hpl h2
            omega
          · obtain rfl : p = q := by omega
            omega
    obtain ⟨p, hp, e⟩ := key (L.length - 1) (by omega)
    obtain ⟨hpl, e1⟩ := List.getElem?_eq_some_iff.1 e
    have hpe : p = L.length - 1 := by omega
    subst hpe
    rw [lsZ_at e]
    omega
  · intro h k hk
    have e := List.getElem?_eq_getElem hk
    have a := inc_ge hI h0 k L[k] e
    have b := inc_le hI t2 (L.length - 1 - k) k L[k] (by omega) e
    have : L[k] = (k : Int) := by rw [h] at b; omega
    rw [← this]
    exact List.getElem_mem hk
/-- Are the numbers 0 to n - 1, each at least once? How many are there? -/
def cgrB (G : List Int) : Bool := inR G 0 ((G.length : Int) - 1) && (List.range (metL G).length).all fun k : Nat => decide ((k : Int) ∈ G)
def cgrN (G : List Int) : Int := if inR G 0 ((G.length : Int) - 1) then ((metL G).length : Int) else 0
theorem cgr_out {G : List Int} {i : Nat} {v : Int} (h : G[i]? = some v) (hb : v < 0 ∨ (G.length : Int) ≤ v) : cgrB G = false ∧ cgrN G = 0 := by
  have : inR G 0 ((G.length : Int) - 1) = false := inR_bad h ((inB_no _ _ _).2 (by omega))
  constructor
  · unfold cgrB; rw [this]; rfl
  · unfold cgrN; rw [this]; rfl
theorem cgr_in {G : List Int} (h : ∀ j, j < G.length → ∃ v, G[j]? = some v ∧ 0 ≤ v ∧ v < (G.length : Int)) : cgrB G = ((List.range (metL G).length).all fun k : Nat => decide ((k : Int) ∈ G)) ∧ cgrN G = (metL G).length := by
  have : inR G 0 ((G.length : Int) - 1) = true := inR_all fun j hj => by
    obtain ⟨v, a, b, c⟩ := h j hj
    exact ⟨v, a, (inB_iff _ _ _).2 (by omega)⟩
  constructor
  · unfold cgrB; rw [this, Bool.true_and]
  · unfold cgrN; rw [this]; rfl
theorem cgrN_bd (G : List Int) : 0 ≤ cgrN G ∧ cgrN G ≤ G.length := by
  unfold cgrN
  have := metL_len G
  split <;> omega
theorem cgr_gs {G : List Int} (h8 : G.length ≤ 8) : (cgrB G && decide (2 ≤ cgrN G)) = gsB G := by
  rw [Bool.eq_iff_iff, Bool.and_eq_true, decide_eq_true_eq]
  constructor
  · rintro ⟨h1, h2⟩
    unfold cgrB at h1
    rw [Bool.and_eq_true, List.all_eq_true] at h1
    have hN : cgrN G = (metL G).length := by unfold cgrN; rw [h1.1]; rfl
    have hm : ∀ x ∈ G, 0 ≤ x ∧ x ≤ (G.length : Int) - 1 := fun x hx => by
      have := h1.1
      unfold inR at this
      rw [List.all_eq_true] at this
      exact (inB_iff _ _ _).1 (this x hx)
    have hne : metL G ≠ [] := by intro e; rw [hN, e] at h2; simp at h2
    refine gs_yes ?_ (by omega) ((inc_full (metL_inc G) (fun x hx => (hm x ((metL_mem G x).1 hx)).1) hne).1 fun k hk => (metL_mem G _).2 (of_decide_eq_true (h1.2 k (List.mem_range.2 hk))))
    unfold inR
    rw [List.all_eq_true]
    intro x hx
    have := hm x hx
    exact (inB_iff _ _ _).2 (by omega)
  · intro h
    obtain ⟨g1, g2, g3⟩ := gsB_get h
    have hml := metL_len G
    have hm : ∀ x ∈ G, 0 ≤ x ∧ x ≤ (G.length : Int) - 1 := fun x hx => by
      have h1 := g1
      unfold inR at h1
      rw [List.all_eq_true] at h1
      have h2 := (inB_iff _ _ _).1 (h1 x hx)
      have h3 := mx_top hx
      omega
    have hin : inR G 0 ((G.length : Int) - 1) = true := by
      unfold inR
      rw [List.all_eq_true]
      intro x hx
      exact (inB_iff _ _ _).2 (hm x hx)
    have hne : metL G ≠ [] := by intro e; rw [e] at g2; simp at g2
    have hfull := (inc_full (metL_inc G) (fun x hx => (hm x ((metL_mem G x).1 hx)).1) hne).2 g3
    constructor
    · unfold cgrB
      rw [hin, Bool.true_and, List.all_eq_true]
      intro k hk
      exact decide_eq_true ((metL_mem G _).1 (hfull k (List.mem_range.1 hk)))
    · unfold cgrN
      rw [hin]
      simp
      omega
/-- The cells of a list of Bools. -/
def bC (L : List Bool) : List Value := L.map Value.bool
theorem bC_len (L : List Bool) : (bC L).length = L.length := by unfold bC; simp
theorem bC_at {L : List Bool} {i : Nat} {v : Bool} (h : L[i]? = some v) : (bC L)[i]? = some (.bool v) := by unfold bC; rw [List.getElem?_map, h]; rfl
theorem Rd.bo {w : World} {x : Option Addr} {L : List Bool} {i : Nat} (h : Rd w x (bC L)) (hi : i < L.length) :
    ∃ b off v, x = some ⟨b, off, none⟩ ∧ b < w.heap.size ∧ L[i]? = some v ∧ w.cell? ⟨b, off + i, none⟩ = some (.bool v) := by
  rcases h with h | ⟨b, off, e, hl, hc⟩
  · have := bC_len L
    rw [h] at this
    simp at this
    omega
  · exact ⟨b, off, L[i], e, hl, List.getElem?_eq_getElem hi, hc i _ (bC_at (List.getElem?_eq_getElem hi))⟩
theorem Try.infoBool : (Try.prog.info? 4).map (fun i => (i.zero, i.size, i.bytes)) = some (some (.bool false), 1, 1) := by kernel_rfl
theorem made_bools (n : Nat) : (madeCells (Value.bool false).cells (n * 1)).toList = bC (List.replicate n false) := by
  unfold bC
  rw [Nat.mul_one, List.map_replicate]
  apply List.ext_getElem
  · simp [madeCells]
  intro i h1 h2
  simp [madeCells] at h1
  by_cases h : n = 0
  · omega
  · simp [madeCells, Value.cells, Nat.mod_one]
/-- Is a Bool in a list (closed to the walk)? -/
def btB (L : List Bool) (n : Bool) : Bool := L.contains n
set_option maxHeartbeats 1000000 in
theorem indexB_any (y : Option Addr) (c : Nat) (L : List Bool) (n : Bool) (w : World) (hm : L.length ≤ 1048576) (hL : Rd w y (bC L)) :
    Calls Try.prog 107 #[.slice y L.length c, .bool n] w fun e w' => ∃ k, e = .returned (.int .i64 k) ∧ (-1 ≤ k ∧ k < 1048577 ∧ decide (0 ≤ k) = L.contains n) ∧ w = w' := by
  have hLh := Lib.hid hL
  clear hL
  go_enter Try.func107, Try.ntmps107
  go_wp2
  go_loopw [8] (fun c wr => ∃ i : Nat, i ≤ L.length ∧ c = .int .i64 i ∧ Hid (∀ j, j < i → ¬ L[j]? = some n) ∧ w = wr) (fun c _ => L.length - (intOf c).toNat)
  case atStart => exact ⟨0, by omega, rfl, (fun j hj => absurd hj (by omega)), rfl⟩
  case round =>
    obtain ⟨i, hi, rfl, hall, rfl⟩ := hrel
    by_cases hlt : i < L.length
    · obtain ⟨bl, off, v, rfl, hbl, hLi, hc0⟩ := hLh.out.bo hlt
      have hLih := Lib.hid hLi
      have hlt' : (i : Int) < (L.length : Int) := by omega
      have hi0 : (0 : Int) ≤ (i : Int) := by omega
      clear hLi
      by_cases he : v = n
      · have hv : Hid (L.contains n = true) := by unfold Hid; rw [List.contains_iff_mem, ← he]; exact List.mem_of_getElem? hLih.out
        have heb : (n == v) = true := by rw [he]; exact beq_self_eq_true n
        replace he := Lib.hid he
        go_wp2
        go_ret
        exact ⟨_, rfl, ⟨by omega, by omega, by rw [hv.out]; exact decide_eq_true (by omega)⟩, rfl⟩
      · have heb : (n == v) = false := by cases n <;> cases v <;> simp_all
        have hne : Hid (¬ L[i]? = some n) := by unfold Hid; rw [hLih.out]; intro h; exact he (Option.some.inj h)
        replace he := Lib.hid he
        go_wp2
        go_roundw
        case rel =>
          refine ⟨i + 1, by omega, by go_num, fun j hj => ?_, by first | rfl | trivial⟩
          rcases Nat.lt_or_ge j i with hj2 | hj2
          · exact hall.out j hj2
          · obtain rfl : j = i := by omega
            exact hne.out
        case measure => simp [intOf]; omega
    · have hij : i = L.length := by omega
      subst hij
      have hv : Hid (L.contains n = false) := by
        unfold Hid
        cases h : L.contains n with
        | false => rfl
        | true =>
          rw [List.contains_iff_mem] at h
          obtain ⟨j, hj, e⟩ := List.getElem_of_mem h
          exact absurd (by rw [List.getElem?_eq_getElem hj, e]) (hall.out j hj)
      clear hall
      go_wp2
      go_ret
      exact ⟨_, rfl, ⟨by omega, by omega, by rw [hv.out]; exact decide_eq_false (by omega)⟩, rfl⟩
theorem containsB_any (y : Option Addr) (c : Nat) (L : List Bool) (n : Bool) (w : World) (hm : L.length ≤ 1048576) (hL : Rd w y (bC L)) :
    Calls Try.prog 101 #[.slice y L.length c, .bool n] w fun e w' => e = .returned (.bool (btB L n)) ∧ w = w' := by
  have hLh := Lib.hid hL
  clear hL
  go_enter Try.func101, Try.ntmps101
  go_wp2_with fail
  refine (indexB_any _ _ L n _ hm hLh.out).mono ?_
  rintro e w1 ⟨k, rfl, ⟨k1, k2, k3⟩, rfl⟩
  have hk := Lib.hid k3
  clear k3
  go_wp2
  go_ret
  exact ⟨ret_bool hk.out, rfl⟩
/-- Which numbers below n have come. -/
def usL (n : Nat) (P : List Int) : List Bool := (List.range n).map fun k : Nat => decide ((k : Int) ∈ P)
theorem usL_len (n : Nat) (P : List Int) : (usL n P).length = n := by unfold usL; simp
theorem usL_nil (n : Nat) : usL n [] = List.replicate n false := by
  unfold usL
  apply List.ext_getElem (by simp)
  intro i h1 h2
  simp
theorem usL_at {n k : Nat} (P : List Int) (h : k < n) : (usL n P)[k]? = some (decide ((k : Int) ∈ P)) := by unfold usL; simp [h]
theorem usL_same {n : Nat} {P : List Int} {v : Int} (h : v ∈ P) : usL n (P ++ [v]) = usL n P := by
  unfold usL
  apply List.map_congr_left
  intro k _
  rw [Bool.eq_iff_iff]
  simp only [decide_eq_true_eq, List.mem_append, List.mem_singleton]
  constructor
  · rintro (h1 | h1)
    · exact h1
    · rw [h1]; exact h
  · exact Or.inl
theorem usL_put {n k : Nat} (P : List Int) : usL n (P ++ [(k : Int)]) = (usL n P).set k true := by
  apply List.ext_getElem?
  intro j
  rw [List.getElem?_set]
  rcases Nat.lt_or_ge j n with hj | hj
  · rw [usL_at _ hj]
    split
    · subst_vars
      rw [if_pos (by rw [usL_len]; exact hj)]
      simp
    · rw [usL_at _ hj]
      congr 1
      rw [Bool.eq_iff_iff]
      simp only [decide_eq_true_eq, List.mem_append, List.mem_singleton]
      constructor
      · rintro (h1 | h1)
        · exact h1
        · omega
      · exact Or.inl
  · rw [List.getElem?_eq_none (by rw [usL_len]; exact hj)]
    split
    · rw [if_neg (by rw [usL_len]; omega)]
    · rw [List.getElem?_eq_none (by rw [usL_len]; exact hj)]
theorem usL_no {n c : Nat} (G : List Int) (h : c ≤ n) : (!btB ((usL n G).take c) false) = (List.range c).all fun k : Nat => decide ((k : Int) ∈ G) := by
  unfold btB
  rw [Bool.eq_iff_iff, Bool.not_eq_true', List.all_eq_true]
  have e : (usL n G).take c = (List.range c).map fun k : Nat => decide ((k : Int) ∈ G) := by
    unfold usL
    rw [← List.map_take, List.take_range, Nat.min_eq_left h]
  rw [e]
  constructor
  · intro h1 k hk
    cases hd : decide ((k : Int) ∈ G) with
    | true => rfl
    | false =>
      exfalso
      have : ((List.range c).map fun k : Nat => decide ((k : Int) ∈ G)).contains false = true := by
        rw [List.contains_iff_mem]
        exact List.mem_map.2 ⟨k, hk, hd⟩
      rw [this] at h1
      cases h1
  · intro h1
    cases hc : ((List.range c).map fun k : Nat => decide ((k : Int) ∈ G)).contains false with
    | false => rfl
    | true =>
      rw [List.contains_iff_mem] at hc
      obtain ⟨k, hk, e2⟩ := List.mem_map.1 hc
      rw [h1 k hk] at e2
      cases e2
theorem bC_set (L : List Bool) (k : Nat) (v : Bool) : (bC L).set k (.bool v) = bC (L.set k v) := by unfold bC; rw [List.map_set]
theorem bC_take (L : List Bool) (k : Nat) : bC (L.take k) = (bC L).take k := by unfold bC; rw [List.map_take]
set_option maxHeartbeats 4000000 in
theorem countGroups_any (x : Option Addr) (cap : Nat) (G : List Int) (w : World) (hm : G.length ≤ 1048576) (hL : Rd w x (iC G)) :
    Calls Try.prog 84 #[.slice x G.length cap] w fun e w' => e = .returned (.tuple #[.int .i64 (cgrN G), .bool (cgrB G)]) ∧ Below w.heap.size w w' := by
  obtain ⟨i0, hi, hz0, hz1, hz2⟩ := info_parts Try.infoBool
  have hbb : i0.bytes * G.length ≤ 281474976710656 := by rw [hz2]; omega
  have hmm : G.length ≤ maxLen := by unfold maxLen; omega
  have hLh := Lib.hid hL
  clear hL
  go_enter Try.func84, Try.ntmps84
  go_wp2_with (at_make; go_loud (refine wpList_make_full _ rfl _ _ 102 rfl w.heap.size 4 i0 (.bool false) 1 Try.underlying102 hi hz0 hz1 .i64 .i64 _ _ G.length rfl rfl rfl rfl hbb hmm (Nat.le_refl _) (fun w1 hown hgrow => ?_)))
  have hb1 : Below w.heap.size w w1 := (Below.refl _ _).grown hgrow (Nat.le_refl _) (by intro k hk; cases hk)
  rw [made_bools, ← usL_nil] at hown
  clear hgrow hi hz0 hz1 hz2
  go_loopw [5, 13] (fun q c wr => ∃ i : Nat, i ≤ G.length ∧ c = .int .i64 i ∧ q = .int .i64 ((metL (G.take i)).length : Nat) ∧ Hid (wr.ownsRow w.heap.size 4 1 (.slice (some ⟨w.heap.size, 0, none⟩) G.length G.length) G.length (bC (usL G.length (G.take i)))) ∧ Hid (∀ j, j < i → ∃ v, G[j]? = some v ∧ 0 ≤ v ∧ v < (G.length : Int)) ∧ Below w.heap.size w wr) (fun _ c _ => G.length - (intOf c).toNat)
  case atStart => exact ⟨0, by omega, rfl, rfl, by rw [List.take_zero]; exact hown, (fun j hj => absurd hj (by omega)), hb1⟩
  case round =>
    clear hown hb1
    obtain ⟨i, hil, rfl, rfl, hu, hall, hb⟩ := hrel
    have hml : (metL (G.take i)).length ≤ i := by
      have := metL_len (G.take i)
      rw [List.length_take] at this
      omega
    by_cases hlt : i < G.length
    · obtain ⟨bl, off, v, hx, hbl, hGi, hc⟩ := (hLh.out.below hb).int hlt
      subst hx
      have hlt' : (i : Int) < (G.length : Int) := by omega
      by_cases h1 : v < 0
      · have hv := Lib.hid (cgr_out hGi (Or.inl h1))
        clear hGi
        go_wp2
        go_ret2
        exact ⟨ret_in hv.out.2.symm hv.out.1.symm, hb⟩
      by_cases h2 : (G.length : Int) ≤ v
      · have hv := Lib.hid (cgr_out hGi (Or.inr h2))
        clear hGi
        go_wp2
        go_ret2
        exact ⟨ret_in hv.out.2.symm hv.out.1.symm, hb⟩
      obtain ⟨k, rfl⟩ := Int.eq_ofNat_of_zero_le (show 0 ≤ v by omega)
      have hkl : k < G.length := by omega
      have hkl' : (k : Int) < (G.length : Int) := by omega
      have hstep := Lib.hid (met_step hGi)
      have htk := Lib.hid (take_snoc hGi)
      obtain ⟨u, huu, u0⟩ := own_cell hu.out (j := k) (by omega)
      have e0 : u = .bool (decide ((k : Int) ∈ G.take i)) := Option.some.inj (huu.symm.trans (bC_at (usL_at _ hkl)))
      rw [e0] at u0
      have u1 := hu.out.frozenAt k
      have u2 := (own_lt hu.out).2
      have hall2 : Hid (∀ j, j < i + 1 → ∃ v, G[j]? = some v ∧ 0 ≤ v ∧ v < (G.length : Int)) := fun j hj => by
        rcases Nat.lt_or_ge j i with h | h
        · exact hall.out j h
        · obtain rfl : j = i := by omega
          exact ⟨k, hGi, by omega, by omega⟩
      clear hGi huu e0
      by_cases hin : (k : Int) ∈ G.take i
      · rw [decide_eq_true hin] at u0
        have hu2 := Lib.hid (usL_same (n := G.length) hin)
        have hcnt : Hid (((metL (G.take (i + 1))).length : Int) = (metL (G.take i)).length) := by unfold Hid; rw [hstep.out, if_pos hin]
        replace hin := Lib.hid hin
        go_wp2
        go_roundw
        case rel => exact ⟨i + 1, by omega, by go_num, by rw [hcnt.out], by rw [htk.out, hu2.out]; exact hu.out, hall2.out, hb⟩
        case measure => simp [intOf]; omega
      · rw [decide_eq_false hin] at u0
        have hu2 := Lib.hid (usL_put (n := G.length) (k := k) (G.take i))
        have hcnt : Hid (((metL (G.take (i + 1))).length : Int) = (metL (G.take i)).length + 1) := by unfold Hid; rw [hstep.out, if_neg hin]
        have hst := Lib.hid (hu.out.stored k (.bool true)).1
        replace hin := Lib.hid hin
        have hms : (metL (G.take i)).length ≤ 1048576 := by omega
        go_wp2
        go_roundw
        case rel => exact ⟨i + 1, by omega, by go_num, by rw [hcnt.out], by rw [htk.out, hu2.out, ← bC_set]; exact hst.out, hall2.out, (by repeat (first | exact Below.refl _ _ | assumption | refine Below.drew ?_ | refine below_drewN ?_ _ | refine Below.alloc' ?_ _ | (refine Below.setCell ?_ (by first | omega | (simp; done) | (simp; omega) | exact Below.size (by assumption) | exact Nat.le_trans (Below.size (by assumption)) (by simp)) _) | (refine Below.via' ?_ (by assumption)) | (refine Below.alloc ?_ (by first | omega | (simp; done) | (simp; omega) | exact Below.size (by assumption) | exact Nat.le_trans (Below.size (by assumption)) (by simp)) _) | (refine Below.via ?_ (by assumption) (by first | omega | (simp; done) | (simp; omega) | exact Below.size (by assumption) | exact Nat.le_trans (Below.size (by assumption)) (by simp)))))⟩
        case measure => simp [intOf]; omega
    · have hij : i = G.length := by omega
      subst hij
      rw [List.take_length]
      have hin := Lib.hid (cgr_in hall.out)
      rw [List.take_length] at hml
      have hno := Lib.hid (usL_no (n := G.length) G hml)
      obtain ⟨n, hn⟩ : ∃ n, n = (metL G).length := ⟨_, rfl⟩
      rw [← hn] at hml hno ⊢
      have hml' : (n : Int) ≤ (G.length : Int) := by omega
      have htl : ((usL G.length G).take n).length = n := by rw [List.length_take, usL_len]; omega
      have hrd : Hid (Rd wr (some ⟨w.heap.size, 0, none⟩) (bC ((usL G.length G).take n))) := by
        have h0 := Rd.of_own hu.out
        rw [List.take_length] at h0
        unfold Hid
        rw [bC_take]
        exact h0.take n
      have hcall := containsB_any (some ⟨w.heap.size, 0, none⟩) G.length ((usL G.length G).take n) false wr (by omega) hrd.out
      rw [htl] at hcall
      replace hn := Lib.hid hn
      clear hall hu htl
      go_wp2_with fail
      refine hcall.mono ?_
      rintro e w2 ⟨rfl, rfl⟩
      clear hcall
      go_wp2
      go_ret2
      exact ⟨ret_in (by rw [hin.out.2, hn.out]) (by rw [hin.out.1, hno.out, hn.out]), hb⟩
end Go.Proofs.Ytnmpigedhpdenaa

namespace Go.Proofs.Ytnmpigedhpdenaa
open Go.RowKit
set_option maxRecDepth 100000

/-- What GroupCube gives. -/
def gcM (G : List Int) : Nat := (cgrN G).toNat
def gcC (Z C : List Int) (d : Int) (G : List Int) : List Int := acU Z C d.toNat (Z.getD d.toNat 0) (gcM G) G (cnC (Z.set d.toNat (gcM G))).toNat C.length
def gcB (Z C : List Int) (d : Int) (G : List Int) : Bool := cgB Z C && (inB d 0 ((Z.length : Int) - 1) && (decide ((G.length : Int) = Z.getD d.toNat 0) && (cgrB G && inR (gcC Z C d G) (-1000000) 1000000)))
def gcR (Z C : List Int) (d : Int) (G : List Int) : List Int × List Int := if gcB Z C d G then (Z.set d.toNat (gcM G), gcC Z C d G) else ([], [])
theorem gc_no {Z C : List Int} {d : Int} {G : List Int} (h : gcB Z C d G = false) : gcB Z C d G = false ∧ gcR Z C d G = ([], []) := ⟨h, by unfold gcR; rw [h]; rfl⟩
theorem gc_no1 {Z C : List Int} (d : Int) (G : List Int) (h : cgB Z C = false) : gcB Z C d G = false := by unfold gcB; rw [h]; rfl
theorem gc_no2 {Z : List Int} {d : Int} (C G : List Int) (h : inB d 0 ((Z.length : Int) - 1) = false) : gcB Z C d G = false := by unfold gcB; rw [h]; simp
theorem gc_no3 {Z : List Int} {d : Int} {G : List Int} (C : List Int) (h : ¬ (G.length : Int) = Z.getD d.toNat 0) : gcB Z C d G = false := by unfold gcB; rw [decide_eq_false h]; simp
theorem gc_no4 (Z C : List Int) (d : Int) {G : List Int} (h : cgrB G = false) : gcB Z C d G = false := by unfold gcB; rw [h]; simp
theorem gc_no5 {Z C : List Int} {d : Int} {G : List Int} (h : inR (gcC Z C d G) (-1000000) 1000000 = false) : gcB Z C d G = false := by unfold gcB; rw [h]; simp
theorem gc_yes {Z C : List Int} {d : Int} {G : List Int} (h1 : cgB Z C = true) (h2 : inB d 0 ((Z.length : Int) - 1) = true) (h3 : (G.length : Int) = Z.getD d.toNat 0) (h4 : cgrB G = true) (h5 : inR (gcC Z C d G) (-1000000) 1000000 = true) : gcB Z C d G = true ∧ gcR Z C d G = (Z.set d.toNat (gcM G), gcC Z C d G) := by
  have e : gcB Z C d G = true := by unfold gcB; rw [h1, h2, decide_eq_true h3, h4, h5]; rfl
  exact ⟨e, by unfold gcR; rw [e]; rfl⟩
theorem acU_bd {Z C : List Int} {d : Nat} {z m : Int} {g : List Int} {n : Nat} (hC : inR C (-1000000) 1000000 = true) (j : Nat) : ∀ i : Nat, -1000000 * (i : Int) ≤ (acU Z C d z m g n i).getD j 0 ∧ (acU Z C d z m g n i).getD j 0 ≤ 1000000 * (i : Int)
  | 0 => by
    show _ ≤ (List.replicate n (0 : Int)).getD j 0 ∧ (List.replicate n (0 : Int)).getD j 0 ≤ _
    rw [List.getD_eq_getElem?_getD, List.getElem?_replicate]
    split <;> simp
  | i + 1 => by
    have h := inR_getD hC (by omega) i
    have ih := acU_bd (Z := Z) (d := d) (z := z) (m := m) (g := g) (n := n) hC j i
    have ih2 := acU_bd (Z := Z) (d := d) (z := z) (m := m) (g := g) (n := n) hC (jdT Z d z m g i).toNat i
    show _ ≤ ((acU Z C d z m g n i).set _ _).getD j 0 ∧ ((acU Z C d z m g n i).set _ _).getD j 0 ≤ _
    rw [List.getD_eq_getElem?_getD, List.getElem?_set]
    split
    · split
      · simp only [Option.getD_some]; omega
      · simp; omega
    · rw [← List.getD_eq_getElem?_getD]; omega
theorem acU_step {Z C : List Int} {d : Nat} {z m : Int} {g : List Int} {n i t : Nat} {v a : Int} (hv : C[i]? = some v) (ht : jdT Z d z m g i = (t : Int)) (ha : (acU Z C d z m g n i)[t]? = some a) : acU Z C d z m g n (i + 1) = (acU Z C d z m g n i).set t (a + v) := by
  show (acU Z C d z m g n i).set _ _ = _
  rw [ht, Int.toNat_natCast, getD_at hv, getD_at ha]
theorem set_many {Z : List Int} (h : csB Z = true) {d : Nat} {z m : Int} (hd : Z[d]? = some z) (h1 : 1 ≤ m) (h2 : m ≤ z) : csB (Z.set d m) = true ∧ cnC (Z.set d m) ≤ cnC Z := by
  obtain ⟨a, b⟩ := cs_get h
  have hok : okZ (Z.set d m) = true := by
    unfold okZ
    rw [Bool.and_eq_true, decide_eq_true_eq]
    refine ⟨by rw [List.length_set]; exact okZ_len a, ?_⟩
    unfold inR
    rw [List.all_eq_true]
    intro x hx
    have hzz := okZ_at a hd
    rcases List.mem_or_eq_of_mem_set hx with h9 | rfl
    · exact (inB_iff _ _ _).2 (okZ_mem a h9)
    · exact (inB_iff _ _ _).2 ⟨h1, by omega⟩
  have key : ∀ (Z : List Int) (d : Nat), (∀ a ∈ Z, 0 ≤ a) → Z[d]? = some z → cnC (Z.set d m) ≤ cnC Z := by
    intro Z
    induction Z with
    | nil => intro d _ hd; simp at hd
    | cons y r ih =>
      intro d hz hd
      have hc := cnC_pos (Z := r) fun a ha => hz a (by simp [ha])
      have hy := hz y (by simp)
      cases d with
      | zero =>
        simp only [List.getElem?_cons_zero, Option.some.injEq] at hd
        subst hd
        simp only [List.set_cons_zero, cnC]
        exact Int.mul_le_mul_of_nonneg_right (by omega) (by omega)
      | succ d =>
        have := ih d (fun a ha => hz a (by simp [ha])) (by simpa using hd)
        simp only [List.set_cons_succ, cnC]
        exact Int.mul_le_mul_of_nonneg_left this (by omega)
  have hk := key Z d (okZ_nn a) hd
  exact ⟨by rw [cs_eq hok, decide_eq_true_eq]; omega, hk⟩
theorem cgr_at {G : List Int} (h : cgrB G = true) {j : Nat} {v : Int} (hv : G[j]? = some v) : 0 ≤ v ∧ v < (gcM G : Int) ∧ (gcM G : Int) ≤ G.length := by
  have h0 := h
  unfold cgrB at h
  rw [Bool.and_eq_true] at h
  have hb := inR_at h.1 hv
  have hn : cgrN G = ((metL G).length : Int) := by unfold cgrN; rw [h.1]; rfl
  have hbd := cgrN_bd G
  have hm : (gcM G : Int) = cgrN G := by unfold gcM; omega
  refine ⟨hb.1, ?_, by omega⟩
  have hvm := List.mem_of_getElem? hv
  rw [List.all_eq_true] at h
  have hall : ∀ x ∈ G, 0 ≤ x := fun x hx => by
    have := h.1
    unfold inR at this
    rw [List.all_eq_true] at this
    exact ((inB_iff _ _ _).1 (this x hx)).1
  have hne : metL G ≠ [] := met_ne (List.ne_nil_of_mem hvm)
  have hl := (inc_full (metL_inc G) (fun x hx => hall x ((metL_mem G x).1 hx)) hne).1 fun k hk => (metL_mem G _).2 (of_decide_eq_true (h.2 k (List.mem_range.2 hk)))
  have := mx_top hvm
  unfold mxZ at this
  omega

set_option maxHeartbeats 16000000 in
theorem iGc_any (x y z : Option Addr) (c d e : Nat) (Z C G : List Int) (m : Int) (w : World) (h : CIn w x y Z C) (hG : IIn w z G) (hcZ : Z.length ≤ c) (hnZ : x = none → c = 0) (_ : C.length ≤ d) (_ : y = none → d = 0) :
    Calls Try.prog 38 #[.agg #[.slice x Z.length c, .slice y C.length d], .int .i64 m, .slice z G.length e] w (RetCu (gcR Z C m G) (gcB Z C m G) w) := by
  have hGh := Lib.hid hG
  have hGl := hG.1
  have hZl := h.1.1
  clear hG
  have hh := Lib.hid h
  clear h
  have t0n := Fr2.new w x Z.length c y C.length d
  obtain ⟨w0, hw0⟩ : ∃ w0, w0 = (w.alloc (.cells #[.slice x Z.length c, .slice y C.length d] 27)).alloc (.cells #[.slice none 0 0, .slice none 0 0] 27) := ⟨_, rfl⟩
  have B0 : Below w.heap.size w w0 := by rw [hw0]; exact (by repeat (first | exact Below.refl _ _ | assumption | refine Below.drew ?_ | refine below_drewN ?_ _ | refine Below.alloc' ?_ _ | (refine Below.setCell ?_ (by first | omega | (simp; done) | (simp; omega) | exact Below.size (by assumption) | exact Nat.le_trans (Below.size (by assumption)) (by simp)) _) | (refine Below.via' ?_ (by assumption)) | (refine Below.alloc ?_ (by first | omega | (simp; done) | (simp; omega) | exact Below.size (by assumption) | exact Nat.le_trans (Below.size (by assumption)) (by simp)) _) | (refine Below.via ?_ (by assumption) (by first | omega | (simp; done) | (simp; omega) | exact Below.size (by assumption) | exact Nat.le_trans (Below.size (by assumption)) (by simp)))))
  rw [← hw0] at t0n
  have t0 := Lib.hid t0n
  clear t0n
  go_enter Try.func38, Try.ntmps38
  go_wp2_with fail
  rw [← hw0]
  replace hw0 := Lib.hid hw0
  refine (iCu_any _ _ _ _ Z C _ (hh.out.below B0)).mono ?_
  rintro e1 w1 ⟨rfl, hb1⟩
  have B1 : Below w.heap.size w w1 := Below.via' B0 hb1
  have t1 := Lib.hid (t0.out.below hb1)
  try clear a0a a0b a0c z0a z0b z0c z0d z0e
  clear hb1
  obtain ⟨⟨a1a, a1b, a1c⟩, zz1⟩ := t1.out
  have z1a := (zz1.read 0).trans rfl
  have z1b := (zz1.read 1).trans rfl
  have z1c := zz1.free 0
  have z1d := zz1.free 1
  have z1e := zz1.inside
  clear zz1
  cases hg1 : cgB Z C
  · have hv := Lib.hid (gc_no (gc_no1 m G hg1))
    clear hg1
    go_wp2
    refine bodyPost_ret (v := .tuple #[.agg #[.slice none 0 0, .slice none 0 0], .bool false]) (by simp [results, Try.results38, go_sem, *]) rfl (retCu_no hv.out.1 hv.out.2 ?_)
    repeat (refine Below.setCell ?_ (by simp; try omega) _)
    exact B1
  have hgh := Lib.hid hg1
  have hfh := Lib.hid (cg_get hg1).1
  obtain ⟨f1, f2, f3⟩ := cf_get hfh.out
  have hcs := Lib.hid f1
  have hok := Lib.hid (cs_get f1).1
  have hcn := Lib.hid f2
  have hin := Lib.hid f3
  have h4 := okZ_len hok.out
  have hCl := cf_len hfh.out
  clear hg1 f1 f2 f3
  go_wp2_with fail
  refine (isDim_any _ _ _ _ Z C m _).mono ?_
  rintro e1 w2 ⟨rfl, hb2⟩
  have B2 : Below w.heap.size w w2 := Below.via' B1 hb2
  have t2 := Lib.hid (t1.out.below hb2)
  try clear a1a a1b a1c z1a z1b z1c z1d z1e
  clear hb2
  obtain ⟨⟨a2a, a2b, a2c⟩, zz2⟩ := t2.out
  have z2a := (zz2.read 0).trans rfl
  have z2b := (zz2.read 1).trans rfl
  have z2c := zz2.free 0
  have z2d := zz2.free 1
  have z2e := zz2.inside
  clear zz2
  cases hr : inB m 0 ((Z.length : Int) - 1)
  · have hv := Lib.hid (gc_no (gc_no2 C G hr))
    clear hr
    go_wp2
    refine bodyPost_ret (v := .tuple #[.agg #[.slice none 0 0, .slice none 0 0], .bool false]) (by simp [results, Try.results38, go_sem, *]) rfl (retCu_no hv.out.1 hv.out.2 ?_)
    repeat (refine Below.setCell ?_ (by simp; try omega) _)
    exact B2
  have hrh := Lib.hid hr
  obtain ⟨m1, m2⟩ := (inB_iff _ _ _).1 hr
  obtain ⟨k, rfl⟩ : ∃ k : Nat, m = (k : Int) := ⟨m.toNat, by omega⟩
  have hkl : k < Z.length := by omega
  obtain ⟨bl, off, zv, rfl, hbl, hZk, hc0⟩ := (hh.out.below B2).1.2.2.int hkl
  have hkl' : (k : Int) < (Z.length : Int) := by omega
  have hgd : Z.getD ((k : Int).toNat) 0 = zv := by rw [Int.toNat_natCast, getD_at hZk]
  have hzr := okZ_at hok.out hZk
  clear hr m2
  by_cases hgl : (G.length : Int) = zv
  rotate_left
  · have hv := Lib.hid (gc_no (gc_no3 (d := (k : Int)) C (by rw [hgd]; exact hgl)))
    have heb2 : ((G.length : Int) != zv) = true := by simpa using hgl
    clear hgl hgd
    replace hZk := Lib.hid hZk
    go_wp2
    refine bodyPost_ret (v := .tuple #[.agg #[.slice none 0 0, .slice none 0 0], .bool false]) (by simp [results, Try.results38, go_sem, *]) rfl (retCu_no hv.out.1 hv.out.2 ?_)
    repeat (refine Below.setCell ?_ (by simp; try omega) _)
    exact B2
  have heb2 : ((G.length : Int) != zv) = false := by rw [hgl]; simp
  have hglh := Lib.hid hgl
  have hgdh := Lib.hid hgd
  have hZkh := Lib.hid hZk
  clear hgl hgd hZk
  go_wp2_with fail
  refine (countGroups_any _ _ G _ hGl (hGh.out.below B2).2.2).mono ?_
  rintro e1 w3 ⟨rfl, hb3⟩
  have B3 : Below w.heap.size w w3 := Below.via' B2 hb3
  have t3 := Lib.hid (t2.out.below hb3)
  try clear a2a a2b a2c z2a z2b z2c z2d z2e
  clear hb3
  obtain ⟨⟨a3a, a3b, a3c⟩, zz3⟩ := t3.out
  have z3a := (zz3.read 0).trans rfl
  have z3b := (zz3.read 1).trans rfl
  have z3c := zz3.free 0
  have z3d := zz3.free 1
  have z3e := zz3.inside
  clear zz3
  obtain ⟨M, hM⟩ : ∃ M : Nat, cgrN G = (M : Int) := ⟨(cgrN G).toNat, by have := cgrN_bd G; omega⟩
  rw [hM]
  cases hgb : cgrB G
  · have hv := Lib.hid (gc_no (gc_no4 Z C (k : Int) hgb))
    clear hgb
    go_wp2
    refine bodyPost_ret (v := .tuple #[.agg #[.slice none 0 0, .slice none 0 0], .bool false]) (by simp [results, Try.results38, go_sem, *]) rfl (retCu_no hv.out.1 hv.out.2 ?_)
    repeat (refine Below.setCell ?_ (by simp; try omega) _)
    exact B3
  have hgbh := Lib.hid hgb
  have hMg : gcM G = M := by unfold gcM; omega
  have hga := Lib.hid (fun (j : Nat) (v : Int) (hj : G[j]? = some v) => (by have := cgr_at hgb hj; rw [hMg] at this; exact this : 0 ≤ v ∧ v < (M : Int) ∧ (M : Int) ≤ G.length))
  have hg0 := hga.out 0 (G[0]'(by have := hglh.out; omega)) (List.getElem?_eq_getElem _)
  have hM1 : 1 ≤ (M : Int) := by omega
  have hMz : (M : Int) ≤ zv := by have := hglh.out; omega
  obtain ⟨hsY0, hnY⟩ := set_many hcs.out hZkh.out hM1 hMz
  obtain ⟨Y, hY⟩ : ∃ Y, Y = Z.set k (M : Int) := ⟨_, rfl⟩
  rw [← hY] at hsY0 hnY
  have hsY := Lib.hid hsY0
  have hYl : Y.length = Z.length := by rw [hY, List.length_set]
  have hokY := Lib.hid (cs_get hsY0).1
  obtain ⟨n, hn⟩ : ∃ n : Nat, cnC Y = (n : Int) := ⟨(cnC Y).toNat, by have := (cn_ok hokY.out).1; omega⟩
  have hn2 : n ≤ 2000 := by have := (cs_get hsY0).2; omega
  have hYh := Lib.hid hY
  have hYlh := Lib.hid hYl
  have hnh := Lib.hid hn
  have hMgh := Lib.hid hMg
  have hMh := Lib.hid hM
  have hl3 : w.heap.size + 1 < w3.heap.size := t3.out.2.inside
  clear hgb hMg hg0 hsY0 hnY hY hYl hn hM hc0
  go_wp2_with fail
  refine (cloneInt_any _ c Z _ hZl hcZ hnZ (hh.out.below B3).1.2.2).mono ?_
  rintro e1 w4 ⟨vS, rfl, hoS, hb4⟩
  obtain ⟨xS, cS, rfl, -, -⟩ := (OwR.of hoS).form
  obtain ⟨gS, cS2, he⟩ := own_some hoS (by omega)
  cases he
  have B4 : Below w.heap.size w w4 := Below.via' B3 hb4
  have t4 := Lib.hid (t3.out.below hb4)
  have hl4 := hb4.size
  obtain ⟨u2, hu2, k0⟩ := own_cell hoS (j := k) (by omega)
  have k2 := hoS.frozenAt k
  have k4 := (own_lt hoS).2
  have k5 := (own_lt hoS).1
  obtain ⟨w5, hw5⟩ : ∃ w5, w5 = (w4.setCell ⟨gS, k, none⟩ (.int .i64 (M : Int))).alloc (.cells #[.slice (some ⟨gS, 0, none⟩) Z.length cS, .slice none 0 0] 27) := ⟨_, rfl⟩
  clear a3a a3b a3c z3a z3b z3c z3d z3e
  go_wp2_with fail
  rw [← hw5]
  have B5 : Below w.heap.size w w5 := by rw [hw5]; exact (Below.setCell (p := ⟨gS, k, none⟩) B4 (by show w.heap.size ≤ gS; omega) _).alloc (by simp; have := B4.size; omega) _
  have V5 : Hid (Wb w5 w4.heap.size 27 #[.slice (some ⟨gS, 0, none⟩) Z.length cS, .slice none 0 0]) := by
    have h9 := Wb.new (w4.setCell ⟨gS, k, none⟩ (.int .i64 (M : Int))) 27 #[.slice (some ⟨gS, 0, none⟩) Z.length cS, .slice none 0 0]
    rw [World.size_setCell, ← hw5] at h9
    exact h9
  have S5 : Hid (w5.ownsRow w3.heap.size 3 1 (.slice (some ⟨gS, 0, none⟩) Z.length cS) Z.length (iC Y)) := by
    have h9 := (hoS.stored k (.int .i64 (M : Int))).1
    rw [← iC_setA, ← hYh.out] at h9
    rw [hw5]
    exact h9.alloc _
  have t5 : Hid (Fr2 w5 w.heap.size (some ⟨bl, off, none⟩) Z.length c y C.length d) := by
    rw [hw5]
    exact (t4.out.grown (grown_setU w4 ⟨gS, k, none⟩ _) (fun q hq => by injection hq with hq; simp at hq; omega)).below ((Below.refl _ _).alloc (Nat.le_refl _) _)
  have hs5 : w5.heap.size = w4.heap.size + 1 := by rw [hw5, World.size_alloc, World.size_setCell]
  have hcc := ccount_any (some ⟨gS, 0, none⟩) cS Y w5 hokY.out ⟨by have := hYlh.out; omega, fun v hv => by have := okZ_mem hokY.out hv; unfold IsI64; omega, Rd.of_own S5.out⟩
  rw [hYlh.out, hnh.out] at hcc
  obtain ⟨g10, hg10⟩ : ∃ g10, g10 = w4.heap.size := ⟨_, rfl⟩
  rw [← hg10] at V5 hs5 ⊢
  have y1 : w5.cell? ⟨g10, 1, none⟩ = some (.slice none 0 0) := (V5.out.read 1).trans rfl
  have y2 := V5.out.free 1
  have y3 := V5.out.inside
  have hmk := fun (W : World) => run_make_row' (P := Try.prog) 22 3 (.int .i64 0) 8 Try.underlying22 Try.infoInt rfl .i64 .i64 n (by omega) (by omega) W
  have hg10h := Lib.hid hg10
  replace hw5 := Lib.hid hw5
  replace hs5 := Lib.hid hs5
  clear hu2 k0 k2 hoS hb4 hg10
  refine hcc.mono ?_
  rintro e1 w6 ⟨rfl, rfl⟩
  obtain ⟨⟨a5a, a5b, a5c⟩, -⟩ := t5.out
  go_upto_region 9 with fail
  obtain ⟨gC, hgC⟩ : ∃ gC, gC = w5.heap.size := ⟨_, rfl⟩
  rw [← hgC]
  obtain ⟨w7, hw7⟩ : ∃ w7, w7 = (w5.setCell ⟨g10, 1, none⟩ (.slice (some ⟨gC, 0, none⟩) n n)).alloc (.cells (madeCells #[.int .i64 0] n) 3) := ⟨_, rfl⟩
  rw [← hw7]
  have hl5 : g10 < gC := by rw [hgC]; exact V5.out.inside
  have hg3 : w3.heap.size ≤ g10 := by rw [hg10h.out]; exact hl4
  have B7 : Below w.heap.size w w7 := by rw [hw7]; exact (Below.setCell (p := ⟨g10, 1, none⟩) B5 (by show w.heap.size ≤ g10; omega) _).alloc (by simp; have := B5.size; omega) _
  have V7 : Hid (Wb w7 g10 27 #[.slice (some ⟨gS, 0, none⟩) Z.length cS, .slice (some ⟨gC, 0, none⟩) n n]) := by rw [hw7]; exact (V5.out.put 1 (.slice (some ⟨gC, 0, none⟩) n n)).kept ((Below.refl _ _).alloc (Nat.le_refl _) _)
  have S7 : Hid (w7.ownsRow w3.heap.size 3 1 (.slice (some ⟨gS, 0, none⟩) Z.length cS) Z.length (iC Y)) := by
    rw [hw7]
    exact (S5.out.kept (grown_setU w5 ⟨g10, 1, none⟩ _) (.inr (fun e => wb_apart V5.out S5.out (by decide) e))).alloc _
  have C7 : Hid (w7.ownsRow w3.heap.size 3 1 (.slice (some ⟨gC, 0, none⟩) n n) n (iC (acU Z C k zv M G n 0))) := by
    rw [hw7]
    exact made_ownC (w5.setCell ⟨g10, 1, none⟩ (.slice (some ⟨gC, 0, none⟩) n n)) w3.heap.size gC n (by rw [World.size_setCell]; exact hgC.symm) (by omega) (by omega)
  have t7 : Hid (Fr2 w7 w.heap.size (some ⟨bl, off, none⟩) Z.length c y C.length d) := by
    rw [hw7]
    exact (t5.out.grown (grown_setU w5 ⟨g10, 1, none⟩ _) (fun q hq => by injection hq with hq; simp at hq; omega)).below ((Below.refl _ _).alloc (Nat.le_refl _) _)
  have hsc : gS ≠ gC := by have := (own_lt S5.out).2; omega
  have hs7 : gC < w7.heap.size := (own_lt C7.out).2
  have hcl : n = (acU Z C k zv M G n 0).length := (acU_len _ _ _ _ _ _ _ 0).symm
  have hgCh := Lib.hid hgC
  have hw7h := Lib.hid hw7
  clear a5a a5b a5c y1 y2 y3 hmk hcc V5 S5 t5 B5 hgC hw7 hcl t4 B4
  obtain ⟨⟨a7a, a7b, a7c⟩, -⟩ := t7.out
  go_wp2
  clear a7a a7b a7c
  go_loopw [59] (fun q wr => ∃ i : Nat, i ≤ C.length ∧ q = .int .i64 i ∧ Hid (Wb wr g10 27 #[.slice (some ⟨gS, 0, none⟩) Z.length cS, .slice (some ⟨gC, 0, none⟩) n n]) ∧ Hid (wr.ownsRow w3.heap.size 3 1 (.slice (some ⟨gS, 0, none⟩) Z.length cS) Z.length (iC Y)) ∧ Hid (wr.ownsRow w3.heap.size 3 1 (.slice (some ⟨gC, 0, none⟩) n n) n (iC (acU Z C k zv M G n i))) ∧ Hid (Fr2 wr w.heap.size (some ⟨bl, off, none⟩) Z.length c y C.length d) ∧ Below w.heap.size w wr ∧ gC < wr.heap.size) (fun q _ => C.length - (intOf q).toNat)
  case atStart => exact ⟨0, by omega, by go_num, V7.out, S7.out, C7.out, t7.out, B7, hs7⟩
  case round =>
    clear V7 S7 C7 t7 B7 hs7
    obtain ⟨i, hi, rfl, hV, hS, hC, hT, hB, hsz⟩ := hrel
    obtain ⟨⟨ara, arb, arc⟩, -⟩ := hT.out
    by_cases hlt : i < C.length
    · obtain ⟨bC, oC, n0, rfl, hbC, hCi, hcC⟩ := (hh.out.below hB).2.2.2.int hlt
      have hlt' : (i : Int) < (C.length : Int) := by omega
      have hi0 : (0 : Int) ≤ (i : Int) := by omega
      replace hCi := Lib.hid hCi
      go_wp2_with fail
      refine (placeOf_any _ _ Z i _ hok.out (by omega) (by omega) (hh.out.below hB).1).mono ?_
      rintro e1 w8 ⟨a, b, c4, d4, hab, rfl, hb8⟩
      have habh := Lib.hid hab
      obtain ⟨gP, hgP⟩ : ∃ gP, gP = w8.heap.size := ⟨_, rfl⟩
      obtain ⟨w9, hw9⟩ : ∃ w9, w9 = w8.alloc (.cells #[.int .i64 a, .int .i64 b, .int .i64 c4, .int .i64 d4] 81) := ⟨_, rfl⟩
      have hb9 : Below wr.heap.size wr w9 := by rw [hw9]; exact (by repeat (first | exact Below.refl _ _ | assumption | refine Below.drew ?_ | refine below_drewN ?_ _ | refine Below.alloc' ?_ _ | (refine Below.setCell ?_ (by first | omega | (simp; done) | (simp; omega) | exact Below.size (by assumption) | exact Nat.le_trans (Below.size (by assumption)) (by simp)) _) | (refine Below.via' ?_ (by assumption)) | (refine Below.alloc ?_ (by first | omega | (simp; done) | (simp; omega) | exact Below.size (by assumption) | exact Nat.le_trans (Below.size (by assumption)) (by simp)) _) | (refine Below.via ?_ (by assumption) (by first | omega | (simp; done) | (simp; omega) | exact Below.size (by assumption) | exact Nat.le_trans (Below.size (by assumption)) (by simp)))))
      have P9 : Hid (Wb w9 gP 81 (iC [a, b, c4, d4]).toArray) := by rw [hw9, hgP]; exact Wb.new w8 81 #[.int .i64 a, .int .i64 b, .int .i64 c4, .int .i64 d4]
      have B9 : Below w.heap.size w w9 := Below.via' hB hb9
      have V9 := Lib.hid (hV.out.kept hb9)
      have S9 := Lib.hid (own_below hS.out hb9)
      have C9 := Lib.hid (own_below hC.out hb9)
      have T9 := Lib.hid (hT.out.below hb9)
      have hP1 : wr.heap.size ≤ gP := by rw [hgP]; exact hb8.size
      obtain ⟨v, hve⟩ : ∃ v, (dgL Z (i : Int))[k]? = some v := ⟨_, List.getElem?_eq_getElem (by rw [dgL_len]; exact hkl)⟩
      have hvr := (dg_fit (okZ_nn hok.out) (i : Int)).2 k zv v hZkh.out hve
      have hv4 : ([a, b, c4, d4] : List Int)[k]? = some v := by
        rw [← hab]
        unfold dgX
        rw [List.getElem?_append_left (by rw [dgL_len]; exact hkl)]
        exact hve
      have p0 := P9.out.atI hv4
      have p2 := P9.out.free k
      have p4 := P9.out.inside
      have hk4 : (k : Int) < 4 := by omega
      have hk0 : (0 : Int) ≤ (k : Int) := by omega
      have hveh := Lib.hid hve
      go_upto_region 13 with fail
      rw [← hw9, ← hgP]
      have hw9h := Lib.hid hw9
      have hgPh := Lib.hid hgP
      clear hab hb8 hv4 hve hb9 ara arb arc hw9 hgP
      by_cases hvz : v = zv
      · have hvb : (v == (G.length : Int)) = true := by rw [beq_iff_eq]; have := hglh.out; omega
        go_upto_region 16 with fail
        obtain ⟨w10, hw10⟩ : ∃ w10, w10 = w9.setCell ⟨gP, k, none⟩ (.int .i64 ((M : Int))) := ⟨_, rfl⟩
        rw [← hw10]
        have hjn : jnL k zv M G (dgL Z (i : Int)) = (dgL Z (i : Int)).set k ((M : Int)) := by
          unfold jnL
          rw [getD_at hveh.out, (show gzI zv M G v = (M : Int) by unfold gzI; rw [if_pos hvz])]
        obtain ⟨b0, b1, b2, b3, hL4⟩ := four_of (L := ([a, b, c4, d4] : List Int).set k ((M : Int))) (by rw [List.length_set]; rfl)
        have hX : jnL k zv M G (dgL Z (i : Int)) ++ List.replicate (4 - Z.length) 0 = [b0, b1, b2, b3] := by
          rw [hjn, ← hL4, ← habh.out]
          exact (dgX_set hZkh.out).symm
        have hftY : FtC Y (jnL k zv M G (dgL Z (i : Int))) := by
          rw [hYh.out, hjn]
          exact ft_both (dg_fit (okZ_nn hok.out) _) k (by omega) (Int.le_refl _)
        have hft4 : FtC Y [b0, b1, b2, b3] := hX ▸ hftY.more _
        have hix : ixC Y [b0, b1, b2, b3] = jdT Z k zv M G (i : Int) := by
          rw [← hX, ixC_more _ _ _ hftY.1]
          unfold jdT
          rw [hYh.out]
        have hixb := ix_in hft4
        rw [hix, hnh.out] at hixb
        obtain ⟨t, ht⟩ : ∃ t : Nat, jdT Z k zv M G (i : Int) = (t : Int) := ⟨(jdT Z k zv M G (i : Int)).toNat, by omega⟩
        have htn : t < n := by omega
        have P10 : Hid (Wb w10 gP 81 #[.int .i64 b0, .int .i64 b1, .int .i64 b2, .int .i64 b3]) := by
          have h9 := P9.out.putI k ((M : Int))
          rw [hL4, ← hw10] at h9
          exact h9
        have hgPn : g10 < gP ∧ gC < gP ∧ gS < gP := by have := (own_lt hS.out).2; omega
        have V10 : Hid (Wb w10 g10 27 #[.slice (some ⟨gS, 0, none⟩) Z.length cS, .slice (some ⟨gC, 0, none⟩) n n]) := by rw [hw10]; exact V9.out.off ⟨gP, k, none⟩ (by show g10 ≠ gP; omega) _
        have S10 : Hid (w10.ownsRow w3.heap.size 3 1 (.slice (some ⟨gS, 0, none⟩) Z.length cS) Z.length (iC Y)) := by rw [hw10]; exact S9.out.kept (grown_setU w9 ⟨gP, k, none⟩ _) (.inr (fun q => by injection q with q; simp at q; omega))
        have C10 : Hid (w10.ownsRow w3.heap.size 3 1 (.slice (some ⟨gC, 0, none⟩) n n) n (iC (acU Z C k zv M G n i))) := by rw [hw10]; exact C9.out.kept (grown_setU w9 ⟨gP, k, none⟩ _) (.inr (fun q => by injection q with q; simp at q; omega))
        have T10 : Hid (Fr2 w10 w.heap.size (some ⟨bl, off, none⟩) Z.length c (some ⟨bC, oC, none⟩) C.length d) := by rw [hw10]; exact T9.out.grown (grown_setU w9 ⟨gP, k, none⟩ _) (fun q hq => by injection hq with hq; simp at hq; have := hT.out.2.inside; omega)
        have B10 : Below w.heap.size w w10 := by rw [hw10]; exact Below.setCell (p := ⟨gP, k, none⟩) B9 (by show w.heap.size ≤ gP; have := hB.size; omega) _
        obtain ⟨acc, hacc⟩ : ∃ acc, (acU Z C k zv M G n i)[t]? = some acc := ⟨_, List.getElem?_eq_getElem (by rw [acU_len]; exact htn)⟩
        have hab1 := acU_bd (Z := Z) (d := k) (z := zv) (m := M) (g := G) (n := n) hin.out t i
        rw [getD_at hacc] at hab1
        have hnb := inR_at hin.out hCi.out
        have hst := Lib.hid (acU_step hCi.out ht hacc)
        have hwr : IntKind.i64.wrap (acc + n0) = acc + n0 := IntWalk.i64_in _ (by omega)
        have hcall : ∀ W, Below w10.heap.size w10 W → Calls Try.prog 75 #[.slice (some ⟨gS, 0, none⟩) Z.length cS, .agg #[.int .i64 b0, .int .i64 b1, .int .i64 b2, .int .i64 b3]] W fun e w' => e = .returned (.int .i64 (t : Int)) ∧ Below W.heap.size W w' := fun W hW => by
          have h0 := cellAt_any (some ⟨gS, 0, none⟩) cS Y b0 b1 b2 b3 W hokY.out hft4 ⟨by have := hYlh.out; omega, fun v hv => by have := okZ_mem hokY.out hv; unfold IsI64; omega, (Rd.of_own S10.out).below hW⟩
          rw [hYlh.out, hix, ht] at h0
          exact h0
        have hclh := Lib.hid hcall
        have cellC : ∀ W, Below w10.heap.size w10 W → W.cell? ⟨gC, t, none⟩ = some (.int .i64 acc) ∧ W.frozen? ⟨gC, t, none⟩ = false ∧ gC < W.heap.size := fun W hW => by
          have h9 := own_below C10.out hW
          obtain ⟨u, hu, h0⟩ := own_cell h9 (j := t) (by omega)
          obtain rfl : u = .int .i64 acc := iC_atI hacc hu
          exact ⟨h0, h9.frozenAt t, (own_lt h9).2⟩
        have cellh := Lib.hid cellC
        have q0 : w10.cell? ⟨gP, 0, none⟩ = some (.int .i64 b0) := (P10.out.read 0).trans rfl
        have q1 : w10.cell? ⟨gP, 1, none⟩ = some (.int .i64 b1) := (P10.out.read 1).trans rfl
        have q2 : w10.cell? ⟨gP, 2, none⟩ = some (.int .i64 b2) := (P10.out.read 2).trans rfl
        have q3 : w10.cell? ⟨gP, 3, none⟩ = some (.int .i64 b3) := (P10.out.read 3).trans rfl
        have q4 := P10.out.inside
        have g0 : w10.cell? ⟨g10, 0, none⟩ = some (.slice (some ⟨gS, 0, none⟩) Z.length cS) := (V10.out.read 0).trans rfl
        have g1 : w10.cell? ⟨g10, 1, none⟩ = some (.slice (some ⟨gC, 0, none⟩) n n) := (V10.out.read 1).trans rfl
        have g4 := V10.out.inside
        have htn' : (t : Int) < (n : Int) := by omega
        have ht0 : (0 : Int) ≤ (t : Int) := by omega
        have hth := Lib.hid ht
        have hacch := Lib.hid hacc
        have hw10h := Lib.hid hw10
        have hs10 : gC < w10.heap.size := (own_lt C10.out).2
        clear hjn hL4 hX hftY hft4 hix hixb ht hacc hab1 hcall cellC P9 V9 S9 C9 T9 hw10 p0 p2 p4
        go_wp2_with fail
        go_region_law (first
          | (go_simp; go_at_call 75; refine (hclh.out _ (by exact (by repeat (first | exact Below.refl _ _ | assumption | refine Below.drew ?_ | refine below_drewN ?_ _ | refine Below.alloc' ?_ _ | (refine Below.setCell ?_ (by first | omega | (simp; done) | (simp; omega) | exact Below.size (by assumption) | exact Nat.le_trans (Below.size (by assumption)) (by simp)) _) | (refine Below.via' ?_ (by assumption)) | (refine Below.alloc ?_ (by first | omega | (simp; done) | (simp; omega) | exact Below.size (by assumption) | exact Nat.le_trans (Below.size (by assumption)) (by simp)) _) | (refine Below.via ?_ (by assumption) (by first | omega | (simp; done) | (simp; omega) | exact Below.size (by assumption) | exact Nat.le_trans (Below.size (by assumption)) (by simp))))))).mono ?_; rintro e11 w11 ⟨rfl, hb11⟩; (have hbx : Hid (Below w10.heap.size w10 w11) := ((Below.refl _ w10).drew).trans hb11); (have V11 := Lib.hid (V10.out.kept hbx.out)); (have r0 : w11.cell? ⟨g10, 0, none⟩ = some (.slice (some ⟨gS, 0, none⟩) Z.length cS) := (V11.out.read 0).trans rfl); (have r1 : w11.cell? ⟨g10, 1, none⟩ = some (.slice (some ⟨gC, 0, none⟩) n n) := (V11.out.read 1).trans rfl); (have r4 := V11.out.inside); (obtain ⟨c11a, c11b, c11c⟩ := cellh.out w11 hbx.out); clear hb11))
        all_goals
          have hgw : w.heap.size + 1 < gC := by omega
          have V12 : Hid (Wb (w11.setCell ⟨gC, t, none⟩ (.int .i64 (acc + n0))) g10 27 #[.slice (some ⟨gS, 0, none⟩) Z.length cS, .slice (some ⟨gC, 0, none⟩) n n]) := V11.out.off ⟨gC, t, none⟩ (by show g10 ≠ gC; omega) _
          have S12 : Hid ((w11.setCell ⟨gC, t, none⟩ (.int .i64 (acc + n0))).ownsRow w3.heap.size 3 1 (.slice (some ⟨gS, 0, none⟩) Z.length cS) Z.length (iC Y)) := (own_below S10.out hbx.out).kept (grown_setU w11 ⟨gC, t, none⟩ _) (.inr (fun q => by injection q with q; simp at q; omega))
          have C12 : Hid ((w11.setCell ⟨gC, t, none⟩ (.int .i64 (acc + n0))).ownsRow w3.heap.size 3 1 (.slice (some ⟨gC, 0, none⟩) n n) n (iC (acU Z C k zv M G n (i + 1)))) := by
            have h9 := ((own_below C10.out hbx.out).stored t (.int .i64 (acc + n0))).1
            rw [← iC_setA, ← hst.out] at h9
            exact h9
          have T12 : Hid (Fr2 (w11.setCell ⟨gC, t, none⟩ (.int .i64 (acc + n0))) w.heap.size (some ⟨bl, off, none⟩) Z.length c (some ⟨bC, oC, none⟩) C.length d) := (T10.out.below hbx.out).grown (grown_setU w11 ⟨gC, t, none⟩ _) (fun q hq => by injection hq with hq; simp at hq; omega)
          have B12 : Below w.heap.size w (w11.setCell ⟨gC, t, none⟩ (.int .i64 (acc + n0))) := Below.setCell (p := ⟨gC, t, none⟩) (Below.via' B10 hbx.out) (by show w.heap.size ≤ gC; omega) _
          clear c11a c11b r0 r1 r4 q0 q1 q2 q3 g0 g1
          go_wp2
          go_roundw
          case rel => exact ⟨i + 1, by omega, by go_num, V12, S12, C12, T12, B12, by rw [World.size_setCell]; omega⟩
          case measure => simp [intOf]; omega
      · have hvb : (v == (G.length : Int)) = false := by rw [beq_eq_false_iff_ne]; have := hglh.out; omega
        obtain ⟨vn, rfl⟩ : ∃ vn : Nat, v = (vn : Int) := ⟨v.toNat, by omega⟩
        have hvl : vn < G.length := by have := hglh.out; omega
        obtain ⟨bG, oG, gv, rfl, hbG, hGv, hcG⟩ := (hGh.out.below B9).2.2.int hvl
        have hgr := hga.out vn gv hGv
        have hvl' : (vn : Int) < (G.length : Int) := by omega
        have hv0 : (0 : Int) ≤ (vn : Int) := by omega
        have hgz : gzI zv M G (vn : Int) = gv := by unfold gzI; rw [if_neg hvz, Int.toNat_natCast, getD_at hGv]
        have hgzh := Lib.hid hgz
        replace hGv := Lib.hid hGv
        clear hgz
        go_upto_region 16 with fail
        obtain ⟨w10, hw10⟩ : ∃ w10, w10 = w9.setCell ⟨gP, k, none⟩ (.int .i64 (gv)) := ⟨_, rfl⟩
        rw [← hw10]
        have hjn : jnL k zv M G (dgL Z (i : Int)) = (dgL Z (i : Int)).set k (gv) := by
          unfold jnL
          rw [getD_at hveh.out, hgzh.out]
        obtain ⟨b0, b1, b2, b3, hL4⟩ := four_of (L := ([a, b, c4, d4] : List Int).set k (gv)) (by rw [List.length_set]; rfl)
        have hX : jnL k zv M G (dgL Z (i : Int)) ++ List.replicate (4 - Z.length) 0 = [b0, b1, b2, b3] := by
          rw [hjn, ← hL4, ← habh.out]
          exact (dgX_set hZkh.out).symm
        have hftY : FtC Y (jnL k zv M G (dgL Z (i : Int))) := by
          rw [hYh.out, hjn]
          exact ft_both (dg_fit (okZ_nn hok.out) _) k (by omega) (by omega)
        have hft4 : FtC Y [b0, b1, b2, b3] := hX ▸ hftY.more _
        have hix : ixC Y [b0, b1, b2, b3] = jdT Z k zv M G (i : Int) := by
          rw [← hX, ixC_more _ _ _ hftY.1]
          unfold jdT
          rw [hYh.out]
        have hixb := ix_in hft4
        rw [hix, hnh.out] at hixb
        obtain ⟨t, ht⟩ : ∃ t : Nat, jdT Z k zv M G (i : Int) = (t : Int) := ⟨(jdT Z k zv M G (i : Int)).toNat, by omega⟩
        have htn : t < n := by omega
        have P10 : Hid (Wb w10 gP 81 #[.int .i64 b0, .int .i64 b1, .int .i64 b2, .int .i64 b3]) := by
          have h9 := P9.out.putI k (gv)
          rw [hL4, ← hw10] at h9
          exact h9
        have hgPn : g10 < gP ∧ gC < gP ∧ gS < gP := by have := (own_lt hS.out).2; omega
        have V10 : Hid (Wb w10 g10 27 #[.slice (some ⟨gS, 0, none⟩) Z.length cS, .slice (some ⟨gC, 0, none⟩) n n]) := by rw [hw10]; exact V9.out.off ⟨gP, k, none⟩ (by show g10 ≠ gP; omega) _
        have S10 : Hid (w10.ownsRow w3.heap.size 3 1 (.slice (some ⟨gS, 0, none⟩) Z.length cS) Z.length (iC Y)) := by rw [hw10]; exact S9.out.kept (grown_setU w9 ⟨gP, k, none⟩ _) (.inr (fun q => by injection q with q; simp at q; omega))
        have C10 : Hid (w10.ownsRow w3.heap.size 3 1 (.slice (some ⟨gC, 0, none⟩) n n) n (iC (acU Z C k zv M G n i))) := by rw [hw10]; exact C9.out.kept (grown_setU w9 ⟨gP, k, none⟩ _) (.inr (fun q => by injection q with q; simp at q; omega))
        have T10 : Hid (Fr2 w10 w.heap.size (some ⟨bl, off, none⟩) Z.length c (some ⟨bC, oC, none⟩) C.length d) := by rw [hw10]; exact T9.out.grown (grown_setU w9 ⟨gP, k, none⟩ _) (fun q hq => by injection hq with hq; simp at hq; have := hT.out.2.inside; omega)
        have B10 : Below w.heap.size w w10 := by rw [hw10]; exact Below.setCell (p := ⟨gP, k, none⟩) B9 (by show w.heap.size ≤ gP; have := hB.size; omega) _
        obtain ⟨acc, hacc⟩ : ∃ acc, (acU Z C k zv M G n i)[t]? = some acc := ⟨_, List.getElem?_eq_getElem (by rw [acU_len]; exact htn)⟩
        have hab1 := acU_bd (Z := Z) (d := k) (z := zv) (m := M) (g := G) (n := n) hin.out t i
        rw [getD_at hacc] at hab1
        have hnb := inR_at hin.out hCi.out
        have hst := Lib.hid (acU_step hCi.out ht hacc)
        have hwr : IntKind.i64.wrap (acc + n0) = acc + n0 := IntWalk.i64_in _ (by omega)
        have hcall : ∀ W, Below w10.heap.size w10 W → Calls Try.prog 75 #[.slice (some ⟨gS, 0, none⟩) Z.length cS, .agg #[.int .i64 b0, .int .i64 b1, .int .i64 b2, .int .i64 b3]] W fun e w' => e = .returned (.int .i64 (t : Int)) ∧ Below W.heap.size W w' := fun W hW => by
          have h0 := cellAt_any (some ⟨gS, 0, none⟩) cS Y b0 b1 b2 b3 W hokY.out hft4 ⟨by have := hYlh.out; omega, fun v hv => by have := okZ_mem hokY.out hv; unfold IsI64; omega, (Rd.of_own S10.out).below hW⟩
          rw [hYlh.out, hix, ht] at h0
          exact h0
        have hclh := Lib.hid hcall
        have cellC : ∀ W, Below w10.heap.size w10 W → W.cell? ⟨gC, t, none⟩ = some (.int .i64 acc) ∧ W.frozen? ⟨gC, t, none⟩ = false ∧ gC < W.heap.size := fun W hW => by
          have h9 := own_below C10.out hW
          obtain ⟨u, hu, h0⟩ := own_cell h9 (j := t) (by omega)
          obtain rfl : u = .int .i64 acc := iC_atI hacc hu
          exact ⟨h0, h9.frozenAt t, (own_lt h9).2⟩
        have cellh := Lib.hid cellC
        have q0 : w10.cell? ⟨gP, 0, none⟩ = some (.int .i64 b0) := (P10.out.read 0).trans rfl
        have q1 : w10.cell? ⟨gP, 1, none⟩ = some (.int .i64 b1) := (P10.out.read 1).trans rfl
        have q2 : w10.cell? ⟨gP, 2, none⟩ = some (.int .i64 b2) := (P10.out.read 2).trans rfl
        have q3 : w10.cell? ⟨gP, 3, none⟩ = some (.int .i64 b3) := (P10.out.read 3).trans rfl
        have q4 := P10.out.inside
        have g0 : w10.cell? ⟨g10, 0, none⟩ = some (.slice (some ⟨gS, 0, none⟩) Z.length cS) := (V10.out.read 0).trans rfl
        have g1 : w10.cell? ⟨g10, 1, none⟩ = some (.slice (some ⟨gC, 0, none⟩) n n) := (V10.out.read 1).trans rfl
        have g4 := V10.out.inside
        have htn' : (t : Int) < (n : Int) := by omega
        have ht0 : (0 : Int) ≤ (t : Int) := by omega
        have hth := Lib.hid ht
        have hacch := Lib.hid hacc
        have hw10h := Lib.hid hw10
        have hs10 : gC < w10.heap.size := (own_lt C10.out).2
        clear hjn hL4 hX hftY hft4 hix hixb ht hacc hab1 hcall cellC P9 V9 S9 C9 T9 hw10 p0 p2 p4
        go_wp2_with fail
        go_region_law (first
          | (go_simp; go_at_call 75; refine (hclh.out _ (by exact (by repeat (first | exact Below.refl _ _ | assumption | refine Below.drew ?_ | refine below_drewN ?_ _ | refine Below.alloc' ?_ _ | (refine Below.setCell ?_ (by first | omega | (simp; done) | (simp; omega) | exact Below.size (by assumption) | exact Nat.le_trans (Below.size (by assumption)) (by simp)) _) | (refine Below.via' ?_ (by assumption)) | (refine Below.alloc ?_ (by first | omega | (simp; done) | (simp; omega) | exact Below.size (by assumption) | exact Nat.le_trans (Below.size (by assumption)) (by simp)) _) | (refine Below.via ?_ (by assumption) (by first | omega | (simp; done) | (simp; omega) | exact Below.size (by assumption) | exact Nat.le_trans (Below.size (by assumption)) (by simp))))))).mono ?_; rintro e11 w11 ⟨rfl, hb11⟩; (have hbx : Hid (Below w10.heap.size w10 w11) := ((Below.refl _ w10).drew).trans hb11); (have V11 := Lib.hid (V10.out.kept hbx.out)); (have r0 : w11.cell? ⟨g10, 0, none⟩ = some (.slice (some ⟨gS, 0, none⟩) Z.length cS) := (V11.out.read 0).trans rfl); (have r1 : w11.cell? ⟨g10, 1, none⟩ = some (.slice (some ⟨gC, 0, none⟩) n n) := (V11.out.read 1).trans rfl); (have r4 := V11.out.inside); (obtain ⟨c11a, c11b, c11c⟩ := cellh.out w11 hbx.out); clear hb11))
        all_goals
          have hgw : w.heap.size + 1 < gC := by omega
          have V12 : Hid (Wb (w11.setCell ⟨gC, t, none⟩ (.int .i64 (acc + n0))) g10 27 #[.slice (some ⟨gS, 0, none⟩) Z.length cS, .slice (some ⟨gC, 0, none⟩) n n]) := V11.out.off ⟨gC, t, none⟩ (by show g10 ≠ gC; omega) _
          have S12 : Hid ((w11.setCell ⟨gC, t, none⟩ (.int .i64 (acc + n0))).ownsRow w3.heap.size 3 1 (.slice (some ⟨gS, 0, none⟩) Z.length cS) Z.length (iC Y)) := (own_below S10.out hbx.out).kept (grown_setU w11 ⟨gC, t, none⟩ _) (.inr (fun q => by injection q with q; simp at q; omega))
          have C12 : Hid ((w11.setCell ⟨gC, t, none⟩ (.int .i64 (acc + n0))).ownsRow w3.heap.size 3 1 (.slice (some ⟨gC, 0, none⟩) n n) n (iC (acU Z C k zv M G n (i + 1)))) := by
            have h9 := ((own_below C10.out hbx.out).stored t (.int .i64 (acc + n0))).1
            rw [← iC_setA, ← hst.out] at h9
            exact h9
          have T12 : Hid (Fr2 (w11.setCell ⟨gC, t, none⟩ (.int .i64 (acc + n0))) w.heap.size (some ⟨bl, off, none⟩) Z.length c (some ⟨bC, oC, none⟩) C.length d) := (T10.out.below hbx.out).grown (grown_setU w11 ⟨gC, t, none⟩ _) (fun q hq => by injection hq with hq; simp at hq; omega)
          have B12 : Below w.heap.size w (w11.setCell ⟨gC, t, none⟩ (.int .i64 (acc + n0))) := Below.setCell (p := ⟨gC, t, none⟩) (Below.via' B10 hbx.out) (by show w.heap.size ≤ gC; omega) _
          clear c11a c11b r0 r1 r4 q0 q1 q2 q3 g0 g1
          go_wp2
          go_roundw
          case rel => exact ⟨i + 1, by omega, by go_num, V12, S12, C12, T12, B12, by rw [World.size_setCell]; omega⟩
          case measure => simp [intOf]; omega
    · have hij : i = C.length := by omega
      subst hij
      obtain ⟨O, hO⟩ : ∃ O, O = acU Z C k zv M G n C.length := ⟨_, rfl⟩
      have hOl : O.length = n := by rw [hO]; exact acU_len _ _ _ _ _ _ _ _
      have hOg : gcC Z C (k : Int) G = O := by
        unfold gcC
        rw [hMgh.out, Int.toNat_natCast, getD_at hZkh.out, ← hYh.out, hnh.out, Int.toNat_natCast, hO]
      have hOb : ∀ v ∈ O, -2000000000 ≤ v ∧ v ≤ 2000000000 := fun v hv => by
        obtain ⟨q, hq, e9⟩ := List.getElem_of_mem hv
        have h9 := acU_bd (Z := Z) (d := k) (z := zv) (m := M) (g := G) (n := n) hin.out q C.length
        rw [← hO, getD_at (List.getElem?_eq_getElem hq), e9] at h9
        omega
      rw [← hO] at hC
      have hS' : Hid (wr.ownsRow w3.heap.size 3 1 (.slice (some ⟨gS, 0, none⟩) Y.length cS) Y.length (iC Y)) := by unfold Hid; rw [hYlh.out]; exact hS.out
      have hC' : Hid (wr.ownsRow w3.heap.size 3 1 (.slice (some ⟨gC, 0, none⟩) O.length n) O.length (iC O)) := by unfold Hid; rw [hOl]; exact hC.out
      have hci : Hid (CIn wr (some ⟨gS, 0, none⟩) (some ⟨gC, 0, none⟩) Y O) := ⟨⟨by have := hYlh.out; omega, fun v hv => by have := okZ_mem hokY.out hv; unfold IsI64; omega, Rd.of_own hS'.out⟩, ⟨by omega, fun v hv => by have := hOb v hv; unfold IsI64; omega, Rd.of_own hC'.out⟩⟩
      have hcall := wl_any (some ⟨gS, 0, none⟩) (some ⟨gC, 0, none⟩) cS n Y O wr hci.out
      rw [hYlh.out, hOl] at hcall
      have hclh := Lib.hid hcall
      have hOgh := Lib.hid hOg
      have hOlh := Lib.hid hOl
      have g0 : wr.cell? ⟨g10, 0, none⟩ = some (.slice (some ⟨gS, 0, none⟩) Z.length cS) := (hV.out.read 0).trans rfl
      have g1 : wr.cell? ⟨g10, 1, none⟩ = some (.slice (some ⟨gC, 0, none⟩) n n) := (hV.out.read 1).trans rfl
      have g4 := hV.out.inside
      have hz3 : w.heap.size ≤ w3.heap.size := B3.size
      have hw3 : w3.heap.size ≤ wr.heap.size := by omega
      clear hO hOl hOg hOb hcall ara arb arc
      go_wp2_with fail
      refine hclh.out.mono ?_
      rintro e1 w10 ⟨h5, hb10⟩
      have B10 : Below w.heap.size w w10 := Below.via' hB hb10
      have T10 := Lib.hid (hT.out.below hb10)
      have S10 := Lib.hid (own_below hS'.out hb10)
      have C10 := Lib.hid (own_below hC'.out hb10)
      have z5a : w10.cell? ⟨w.heap.size + 1, 0, none⟩ = some (.slice none 0 0) := (T10.out.2.read 0).trans rfl
      have z5b : w10.cell? ⟨w.heap.size + 1, 1, none⟩ = some (.slice none 0 0) := (T10.out.2.read 1).trans rfl
      have z5c := T10.out.2.free 0
      have z5d := T10.out.2.free 1
      have z5e := T10.out.2.inside
      have hs10 := hb10.size
      clear hb10 g0 g1 g4
      rcases h5 with ⟨hr, rfl⟩ | ⟨hr, rfl⟩
      · have hv := Lib.hid (gc_yes (d := (k : Int)) hgh.out hrh.out (by rw [hgdh.out]; exact hglh.out) hgbh.out (by rw [hOgh.out]; exact hr))
        clear hr
        go_wp2
        refine bodyPost_ret (v := .tuple #[.agg #[.slice (some ⟨gS, 0, none⟩) Z.length cS, .slice (some ⟨gC, 0, none⟩) n n], .bool true]) (by simp [results, Try.results38, go_sem, *]) rfl ?_
        have e1 : (Value.slice (some ⟨gS, 0, none⟩) Z.length cS) = .slice (some ⟨gS, 0, none⟩) Y.length cS := by rw [hYlh.out]
        have e2 : (Value.slice (some ⟨gC, 0, none⟩) n n) = .slice (some ⟨gC, 0, none⟩) O.length n := by rw [hOlh.out]
        rw [e1, e2]
        refine retCu_yes hv.out.1 (by rw [hv.out.2, hOgh.out, hMgh.out, Int.toNat_natCast, ← hYh.out]) ?_ ?_
        · refine OwU.more (lo := w3.heap.size) (owU_of ?_ ?_ ?_ (fun q hq e => by injection hq with hq; injection e with e; simp at hq e; omega)) hz3 (Nat.le_refl _)
          · simp only [World.size_setCell]
            omega
          · exact ((S10.out.kept (grown_setU _ _ _) (own_ne_lt S10.out (by show w.heap.size + 1 < w3.heap.size; omega))).kept (grown_setU _ _ _) (own_ne_lt S10.out (by show w.heap.size + 1 < w3.heap.size; omega)))
          · exact ((C10.out.kept (grown_setU _ _ _) (own_ne_lt C10.out (by show w.heap.size + 1 < w3.heap.size; omega))).kept (grown_setU _ _ _) (own_ne_lt C10.out (by show w.heap.size + 1 < w3.heap.size; omega)))
        · repeat (refine Below.setCell ?_ (by simp; try omega) _)
          exact B10
      · have hv := Lib.hid (gc_no (gc_no5 (d := (k : Int)) (by rw [hOgh.out]; exact hr)))
        clear hr
        go_wp2
        refine bodyPost_ret (v := .tuple #[.agg #[.slice none 0 0, .slice none 0 0], .bool false]) (by simp [results, Try.results38, go_sem, *]) rfl (retCu_no hv.out.1 hv.out.2 ?_)
        repeat (refine Below.setCell ?_ (by simp; try omega) _)
        exact B10
end Go.Proofs.Ytnmpigedhpdenaa

namespace Go.Proofs.Ytnmpigedhpdenaa
open Go.RowKit
set_option maxRecDepth 100000

def PutPost (base : Nat) (L : List Int) (x : Int) (w : World) (e : Ending) (w' : World) : Prop :=
  ∃ v, e = .returned v ∧ w'.ownsRow base 3 1 v (putL L x).length (iC (putL L x)) ∧ Below w.heap.size w w'
theorem Rd.drop {w : World} {g : Nat} {xs : List Value} (h : Rd w (some ⟨g, 0, none⟩) xs) (k : Nat) : Rd w (some ⟨g, k, none⟩) (xs.drop k) := by
  rcases h with h | ⟨b, off, e, hl, hc⟩
  · exact Or.inl (by rw [h]; simp)
  · injection e with e
    injection e with e1 e2
    subst e1 e2
    refine Or.inr ⟨g, k, rfl, hl, fun j u hj => ?_⟩
    rw [List.getElem?_drop] at hj
    have := hc _ _ hj
    rwa [Nat.zero_add] at this
theorem Rd.one (w : World) (t : TypeId) (n : Int) : Rd (w.alloc (.cells #[.int .i64 n] t)) (some ⟨w.heap.size, 0, none⟩) (iC [n]) := by
  refine Or.inr ⟨w.heap.size, 0, rfl, by simp, fun j u hj => ?_⟩
  have : j = 0 := by
    have := (List.getElem?_eq_some_iff.1 hj).1
    simp [iC] at this
    exact this
  subst this
  simp [iC] at hj
  subst hj
  rw [World.cell?_alloc_at _ _ _ _ rfl]
  rfl
theorem iC_app (A B : List Int) : iC (A ++ B) = iC A ++ iC B := by unfold iC; rw [List.map_append]
theorem iC_drop (L : List Int) (k : Nat) : iC (L.drop k) = (iC L).drop k := by unfold iC; rw [List.map_drop]
theorem iC_at' {L : List Int} {i : Nat} {v : Int} (h : (iC L)[i]? = some (.int .i64 v)) : L[i]? = some v := by
  unfold iC at h
  rw [List.getElem?_map] at h
  cases hL : L[i]? with
  | none => rw [hL] at h; cases h
  | some u =>
    rw [hL] at h
    simp at h
    rw [h]

theorem put_in {L : List Int} {x : Int} (h : x ∈ L) : putL L x = L := if_pos h
theorem put_at {L : List Int} {x : Int} {k : Nat} (hk : k ≤ L.length) (hI : Inc L) (h1 : ∀ j v, j < k → L[j]? = some v → v < x) (h2 : k < L.length → ∀ v, L[k]? = some v → x < v) :
    putL L x = L.take k ++ x :: L.drop k ∧ (putL L x).length = L.length + 1 := by
  have e := plK_of hk h1 (fun hl v hv => by have := h2 hl v hv; omega)
  have hn : x ∉ L := by
    intro hx
    obtain ⟨j, hj, ej⟩ := List.getElem_of_mem hx
    have hjx : L[j]? = some x := by rw [List.getElem?_eq_getElem hj, ej]
    rcases Nat.lt_or_ge j k with h | h
    · have := h1 j x h hjx
      omega
    · have hkl : k < L.length := by omega
      have a := h2 hkl L[k] (List.getElem?_eq_getElem hkl)
      rcases Nat.lt_or_ge k j with h' | h'
      · have := List.pairwise_iff_getElem.1 hI k j hkl hj h'
        omega
      · have : j = k := by omega
        subst this
        omega
  refine ⟨?_, by rw [putL_len, if_neg hn]⟩
  unfold putL
  rw [if_neg hn, e]

set_option maxHeartbeats 2000000 in
theorem l1Put_nil (x : Int) (base : Nat) (w : World) (hbase : base ≤ w.heap.size) :
    Calls Try.prog 100 #[.slice none 0 0, .int .i64 x] w (PutPost base [] x w) := by
  obtain ⟨i0, hi, hz0, hz1, hz2⟩ := info_parts Try.infoInt
  have ho0 := World.ownsRow_made (e := 3) (size := 1) w #[] 0 hbase (by unfold maxLen; omega) (by simp)
  go_enter Try.func100, Try.ntmps100
  go_wp2
  refine wp_loop_rounds 1 ?_
  rw [rounds_succ]
  go_wp2_with (first
    | (at_builtin; refine wpList_append_rd _ rfl (.tmp 34) (.tmp 37) 22 rfl base 3 i0 (.int .i64 0) 1 8 Try.underlying22 hi hz0 hz1 hz2 rfl (by decide) _ 0 [] rfl ho0 _ 0 0 rfl (Nat.le_refl _) (fun _ => rfl) [] rfl (Rd.nil _ _) (by simp) (by unfold maxLen; omega) (by omega) (by simp; omega) ?_; intro v1 w1 hown1 hgrow1 hwhere1; (have hbs1 : base ≤ w1.heap.size := by (have := hgrow1.size; simp at this; omega)); (have hownB := own_eq (hown1.alloc (.cells #[.int .i64 x] 3)) (Nat.zero_add 0) rfl))
    | (at_builtin; refine wpList_append_rd _ rfl (.tmp 39) (.tmp 41) 22 rfl base 3 i0 (.int .i64 0) 1 8 Try.underlying22 hi hz0 hz1 hz2 rfl (by decide) v1 0 [] rfl hownB _ 1 1 rfl (Nat.le_refl _) (by intro h; cases h) (iC [x]) rfl (Rd.one _ _ _) (iC_one _) (by unfold maxLen; omega) (by omega) (by simp; omega) ?_; intro v2 w2 hown2 hgrow2 hwhere2; (have hbs2 : base ≤ w2.heap.size := by (have := hgrow2.size; simp at this; omega)); (have hownC := own_eq hown2 (Nat.zero_add 1) (List.nil_append _)))
    | (at_builtin; refine wpList_append_rd _ rfl (.tmp 43) (.tmp 46) 22 rfl base 3 i0 (.int .i64 0) 1 8 Try.underlying22 hi hz0 hz1 hz2 rfl (by decide) v2 1 (iC [x]) rfl hownC _ 0 0 rfl (Nat.le_refl _) (fun _ => rfl) [] rfl (Rd.nil _ _) (by simp) (by unfold maxLen; omega) (by omega) hbs2 ?_; intro v3 w3 hown3 hgrow3 hwhere3))
  have hb3 : Below w.heap.size w w3 := by
    have hbA : Below w.heap.size w w1 := ((Below.refl _ _).alloc (Nat.le_refl _) _).grown hgrow1 (by simp) (fun k hk => by injection hk with hk; exact Nat.le_of_eq hk)
    have hw1 := hbA.size
    have hv1 : ∀ k, v1.ownBlock = some k → w.heap.size ≤ k := fun k hk => by
      rcases hwhere1 with h | h
      · rw [h] at hk; injection hk with hk; exact Nat.le_of_eq hk
      · rw [h] at hk; injection hk with hk; simp at hk; omega
    have hbB : Below w.heap.size w w2 := (hbA.alloc hw1 _).grown hgrow2 (by simp; omega) hv1
    have hv2 : ∀ k, v2.ownBlock = some k → w.heap.size ≤ k := fun k hk => by
      rcases hwhere2 with h | h
      · rw [h] at hk; exact hv1 k hk
      · rw [h] at hk; injection hk with hk; simp at hk; omega
    exact hbB.grown hgrow3 hbB.size hv2
  have hfin := Lib.hid (own_eq (n' := 1) (ys := iC [x]) hown3 rfl (by simp))
  go_ret
  exact ⟨v3, rfl, hfin.out, hb3⟩

theorem own_take {w : World} {base e g n cap : Nat} {L : List Int} (h : w.ownsRow base e 1 (.slice (some ⟨g, 0, none⟩) n cap) n (iC L)) (k : Nat) : Rd w (some ⟨g, 0, none⟩) (iC (L.take k)) := by rw [iC_take]; exact (Rd.of_own h).take k
theorem own_drop {w : World} {base e g n cap : Nat} {L : List Int} (h : w.ownsRow base e 1 (.slice (some ⟨g, 0, none⟩) n cap) n (iC L)) (k : Nat) : Rd w (some ⟨g, k, none⟩) (iC (L.drop k)) := by rw [iC_drop]; exact (Rd.of_own h).drop k

set_option maxHeartbeats 4000000 in
theorem l1Put_some (g cap n : Nat) (L : List Int) (x : Int) (base : Nat) (w : World) (hm : L.length ≤ 1000) (hn : n = L.length) (h0 : 0 < n) (hI : Inc L) (hbase : base ≤ w.heap.size) (hown : w.ownsRow base 3 1 (.slice (some ⟨g, 0, none⟩) n cap) n (iC L)) :
    Calls Try.prog 100 #[.slice (some ⟨g, 0, none⟩) n cap, .int .i64 x] w (PutPost base L x w) := by
  obtain ⟨i0, hi, hz0, hz1, hz2⟩ := info_parts Try.infoInt
  have ho0 := World.ownsRow_made (e := 3) (size := 1) w #[] 0 hbase (by unfold maxLen; omega) (by simp)
  have hRh := Lib.hid (Rd.of_own hown)
  have hcap : n ≤ cap := by
    rcases hown.2 with ⟨h1, h2⟩ | ⟨g', c, cur, hv, _, _, h3, _⟩
    · omega
    · injection hv with _ _ hc; omega
  have hn1 : n ≤ 1000 := by omega
  have hRT := fun k => Lib.hid (own_take hown k)
  have hRD := fun k => Lib.hid (own_drop hown k)
  replace hn := Lib.hid hn
  replace hI := Lib.hid hI
  go_enter Try.func100, Try.ntmps100
  go_wp2
  go_loop [5] (fun c => ∃ k : Nat, k ≤ n ∧ c = .int .i64 k ∧ Hid (∀ j v, j < k → L[j]? = some v → v < x)) (fun c => n - (intOf c).toNat)
  case atStart => exact ⟨0, by omega, rfl, fun j v hj => absurd hj (by omega)⟩
  case round =>
    obtain ⟨k, hk, rfl, hlow⟩ := hrel
    by_cases hlt : k < n
    · obtain ⟨bl, off, v, hx, hbl, hLk, hc0⟩ := hRh.out.int (i := k) (by have := hn.out; omega)
      injection hx with hx
      injection hx with hx1 hx2
      subst hx1 hx2
      rw [Nat.zero_add] at hc0
      have hlt' : (k : Int) < (n : Int) := by omega
      by_cases hvx : v < x
      · replace hLk := Lib.hid hLk
        go_wp2
        go_round
        case rel =>
          refine ⟨k + 1, by omega, by go_num, fun j u hj hu => ?_⟩
          rcases Nat.lt_or_ge j k with h | h
          · exact hlow.out j u h hu
          · obtain rfl : j = k := by omega
            have := hLk.out.symm.trans hu
            injection this with this
            omega
        case measure => simp [intOf]; omega
      by_cases hxe : v = x
      · subst hxe
        have hp := Lib.hid (put_in (List.mem_of_getElem? hLk))
        replace hown := Lib.hid hown
        clear hLk
        go_wp2
        go_ret
        refine ⟨_, rfl, ?_, Below.refl _ _⟩
        rw [hp.out, ← hn.out]
        exact hown.out
      have hxe' : (v == x) = false := by rw [beq_eq_false_iff_ne]; exact hxe
      have hput := Lib.hid (put_at (x := x) (k := k) (by have := hn.out; omega) hI.out hlow.out (fun _ u hu => by have := hLk.symm.trans hu; injection this with this; omega))
      have hkc : k ≤ cap := by omega
      have hck : ¬ cap = k := by omega
      have hck' : ¬ (cap : Int) = (k : Int) := by omega
      have hl1 := Lib.hid (show (iC (L.take k)).length = k * 1 by rw [iC_len, List.length_take]; have := hn.out; omega)
      have hl2 := Lib.hid (show (iC (L.drop k)).length = (n - k) * 1 by rw [iC_len, List.length_drop]; have := hn.out; omega)
      have HRA := hRT k
      have HRC := hRD k
      replace hLk := Lib.hid hLk
      clear hRT hRD hown
      go_wp2_with (first
        | (at_builtin; refine wpList_append_rd _ rfl (.tmp 34) (.tmp 37) 22 rfl base 3 i0 (.int .i64 0) 1 8 Try.underlying22 hi hz0 hz1 hz2 rfl (by decide) _ 0 [] rfl ho0 _ k cap rfl hkc (by intro h; cases h) (iC (L.take k)) hl1.out (HRA.out.alloc _) (iC_one _) (by unfold maxLen; omega) (by omega) (by simp; omega) ?_; intro v1 w1 hown1 hgrow1 hwhere1; (have hh1 := append_below (Below.refl _ _) (fun k hk => by injection hk with hk; exact Nat.le_of_eq hk) hgrow1 hwhere1); (have hs1 := hh1.1.size); (have hownB := own_eq (n' := k) (ys := iC (L.take k)) (hown1.alloc (.cells #[.int .i64 x] 3)) (Nat.zero_add k) (List.nil_append _)))
        | (at_builtin; refine wpList_append_rd _ rfl (.tmp 39) (.tmp 41) 22 rfl base 3 i0 (.int .i64 0) 1 8 Try.underlying22 hi hz0 hz1 hz2 rfl (by decide) v1 k (iC (L.take k)) rfl hownB _ 1 1 rfl (Nat.le_refl _) (by intro h; cases h) (iC [x]) rfl (Rd.one _ _ _) (iC_one _) (by unfold maxLen; omega) (by omega) (by simp; omega) ?_; intro v2 w2 hown2 hgrow2 hwhere2; (have hh2 := append_below hh1.1 hh1.2 hgrow2 hwhere2); (have hs2 := hh2.1.size))
        | (at_builtin; refine wpList_append_rd _ rfl (.tmp 43) (.tmp 46) 22 rfl base 3 i0 (.int .i64 0) 1 8 Try.underlying22 hi hz0 hz1 hz2 rfl (by decide) v2 (k + 1) (iC (L.take k) ++ iC [x]) rfl hown2 _ (n - k) (cap - k) rfl (by omega) (by intro h; cases h) (iC (L.drop k)) hl2.out (HRC.out.below hh2.1) (iC_one _) (by unfold maxLen; omega) (by omega) (by omega) ?_; intro v3 w3 hown3 hgrow3 hwhere3; (have hh3 := append_below0 hh2.1 hh2.2 hgrow3 hwhere3)))
      go_ret
      refine ⟨v3, rfl, own_eq hown3 ?_ ?_, hh3.1⟩
      · rw [hput.out.2]; have := hn.out; omega
      · rw [hput.out.1, iC_app, List.append_assoc, ← iC_app]; rfl
    · have hkn : k = n := by omega
      subst hkn
      have hput := Lib.hid (put_at (x := x) (k := k) (by have := hn.out; omega) hI.out hlow.out (fun hl => by have := hn.out; omega))
      have hkc : k ≤ cap := by omega
      have hl1 := Lib.hid (show (iC (L.take k)).length = k * 1 by rw [iC_len, List.length_take]; have := hn.out; omega)
      have hl2 := Lib.hid (show (iC (L.drop k)).length = 0 * 1 by rw [iC_len, List.length_drop]; have := hn.out; omega)
      have HRA := hRT k
      have HRN := Lib.hid (show ∀ W A, Rd W A (iC (L.drop k)) from fun W A => Or.inl (by rw [List.drop_of_length_le (by have := hn.out; omega)]; rfl))
      clear hRT hRD hown
      by_cases hck : cap = k
      · obtain rfl : k = cap := hck.symm
        go_wp2_with (first
          | (at_builtin; refine wpList_append_rd _ rfl (.tmp 34) (.tmp 37) 22 rfl base 3 i0 (.int .i64 0) 1 8 Try.underlying22 hi hz0 hz1 hz2 rfl (by decide) _ 0 [] rfl ho0 _ k k rfl hkc (by intro h; cases h) (iC (L.take k)) hl1.out (HRA.out.alloc _) (iC_one _) (by unfold maxLen; omega) (by omega) (by simp; omega) ?_; intro v1 w1 hown1 hgrow1 hwhere1; (have hh1 := append_below (Below.refl _ _) (fun k hk => by injection hk with hk; exact Nat.le_of_eq hk) hgrow1 hwhere1); (have hs1 := hh1.1.size); (have hownB := own_eq (n' := k) (ys := iC (L.take k)) (hown1.alloc (.cells #[.int .i64 x] 3)) (Nat.zero_add k) (List.nil_append _)))
          | (at_builtin; refine wpList_append_rd _ rfl (.tmp 39) (.tmp 41) 22 rfl base 3 i0 (.int .i64 0) 1 8 Try.underlying22 hi hz0 hz1 hz2 rfl (by decide) v1 k (iC (L.take k)) rfl hownB _ 1 1 rfl (Nat.le_refl _) (by intro h; cases h) (iC [x]) rfl (Rd.one _ _ _) (iC_one _) (by unfold maxLen; omega) (by omega) (by simp; omega) ?_; intro v2 w2 hown2 hgrow2 hwhere2; (have hh2 := append_below hh1.1 hh1.2 hgrow2 hwhere2); (have hs2 := hh2.1.size))
          | (at_builtin; refine wpList_append_rd _ rfl (.tmp 43) (.tmp 46) 22 rfl base 3 i0 (.int .i64 0) 1 8 Try.underlying22 hi hz0 hz1 hz2 rfl (by decide) v2 (k + 1) (iC (L.take k) ++ iC [x]) rfl hown2 _ (0) (0) rfl (by omega) (by intro h; cases h) (iC (L.drop k)) hl2.out (HRN.out _ _) (iC_one _) (by unfold maxLen; omega) (by omega) (by omega) ?_; intro v3 w3 hown3 hgrow3 hwhere3; (have hh3 := append_below0 hh2.1 hh2.2 hgrow3 hwhere3)))
        go_ret
        refine ⟨v3, rfl, own_eq hown3 ?_ ?_, hh3.1⟩
        · rw [hput.out.2]; have := hn.out; omega
        · rw [hput.out.1, iC_app, List.append_assoc, ← iC_app]; rfl
      · have hck' : ¬ (cap : Int) = (k : Int) := by omega
        go_wp2_with (first
          | (at_builtin; refine wpList_append_rd _ rfl (.tmp 34) (.tmp 37) 22 rfl base 3 i0 (.int .i64 0) 1 8 Try.underlying22 hi hz0 hz1 hz2 rfl (by decide) _ 0 [] rfl ho0 _ k cap rfl hkc (by intro h; cases h) (iC (L.take k)) hl1.out (HRA.out.alloc _) (iC_one _) (by unfold maxLen; omega) (by omega) (by simp; omega) ?_; intro v1 w1 hown1 hgrow1 hwhere1; (have hh1 := append_below (Below.refl _ _) (fun k hk => by injection hk with hk; exact Nat.le_of_eq hk) hgrow1 hwhere1); (have hs1 := hh1.1.size); (have hownB := own_eq (n' := k) (ys := iC (L.take k)) (hown1.alloc (.cells #[.int .i64 x] 3)) (Nat.zero_add k) (List.nil_append _)))
          | (at_builtin; refine wpList_append_rd _ rfl (.tmp 39) (.tmp 41) 22 rfl base 3 i0 (.int .i64 0) 1 8 Try.underlying22 hi hz0 hz1 hz2 rfl (by decide) v1 k (iC (L.take k)) rfl hownB _ 1 1 rfl (Nat.le_refl _) (by intro h; cases h) (iC [x]) rfl (Rd.one _ _ _) (iC_one _) (by unfold maxLen; omega) (by omega) (by simp; omega) ?_; intro v2 w2 hown2 hgrow2 hwhere2; (have hh2 := append_below hh1.1 hh1.2 hgrow2 hwhere2); (have hs2 := hh2.1.size))
          | (at_builtin; refine wpList_append_rd _ rfl (.tmp 43) (.tmp 46) 22 rfl base 3 i0 (.int .i64 0) 1 8 Try.underlying22 hi hz0 hz1 hz2 rfl (by decide) v2 (k + 1) (iC (L.take k) ++ iC [x]) rfl hown2 _ (0) (cap - k) rfl (by omega) (by intro h; cases h) (iC (L.drop k)) hl2.out (HRN.out _ _) (iC_one _) (by unfold maxLen; omega) (by omega) (by omega) ?_; intro v3 w3 hown3 hgrow3 hwhere3; (have hh3 := append_below0 hh2.1 hh2.2 hgrow3 hwhere3)))
        go_ret
        refine ⟨v3, rfl, own_eq hown3 ?_ ?_, hh3.1⟩
        · rw [hput.out.2]; have := hn.out; omega
        · rw [hput.out.1, iC_app, List.append_assoc, ← iC_app]; rfl
end Go.Proofs.Ytnmpigedhpdenaa
