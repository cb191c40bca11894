import Derived.Test.YtnmpigedhpdenaaPQpB
import Derived.Laws.CopyOwn
import Derived.Deep.RegionLaw
namespace Go.Proofs.Ytnmpigedhpdenaa
open Go.RowKit
set_option maxRecDepth 100000

/-- The blocks at the beginning: the cube and the result. -/
def Fr2 (W : World) (g : Nat) (x : Option Addr) (n c : Nat) (y : Option Addr) (k d : Nat) : Prop := CQ W g x n c y k d ∧ Wb W (g + 1) 27 #[.slice none 0 0, .slice none 0 0]
section
variable {W W' : World} {g : Nat} {x : Option Addr} {n c : Nat} {y : Option Addr} {k d : Nat}
theorem Fr2.below (h : Fr2 W g x n c y k d) (hb : Below W.heap.size W W') : Fr2 W' g x n c y k d := ⟨h.1.below hb, h.2.kept hb⟩
theorem Fr2.grown {r : Option Nat} (h : Fr2 W g x n c y k d) (hg : W.grownBy W' r) (hr : ∀ q, r = some q → g + 1 < q) : Fr2 W' g x n c y k d :=
  ⟨h.1.grown hg (fun e => by have := hr _ e.symm; omega), h.2.grownC hg (fun e => by have := hr _ e; omega)⟩
theorem Fr2.new (w : World) (x : Option Addr) (n c : Nat) (y : Option Addr) (k d : Nat) : Fr2 ((w.alloc (.cells #[.slice x n c, .slice y k d] 27)).alloc (.cells #[.slice none 0 0, .slice none 0 0] 27)) w.heap.size x n c y k d := by
  refine ⟨(CQ.new w x n c y k d 27).below (by repeat (first | exact Below.refl _ _ | assumption | refine Below.drew ?_ | refine below_drewN ?_ _ | refine Below.alloc' ?_ _ | (refine Below.setCell ?_ (by first | omega | (simp; done) | (simp; omega) | exact Below.size (by assumption) | exact Nat.le_trans (Below.size (by assumption)) (by simp)) _) | (refine Below.via' ?_ (by assumption)) | (refine Below.alloc ?_ (by first | omega | (simp; done) | (simp; omega) | exact Below.size (by assumption) | exact Nat.le_trans (Below.size (by assumption)) (by simp)) _) | (refine Below.via ?_ (by assumption) (by first | omega | (simp; done) | (simp; omega) | exact Below.size (by assumption) | exact Nat.le_trans (Below.size (by assumption)) (by simp))))), ?_⟩
  have h := Wb.new (w.alloc (.cells #[.slice x n c, .slice y k d] 27)) 27 #[.slice none 0 0, .slice none 0 0]
  rwa [World.size_alloc] at h
end
set_option maxHeartbeats 2000000 in
theorem isDim_any (x y : Option Addr) (c d : Nat) (Z C : List Int) (m : Int) (w : World) :
    Calls Try.prog 81 #[.agg #[.slice x Z.length c, .slice y C.length d], .int .i64 m] w fun e w' => e = .returned (.bool (inB m 0 ((Z.length : Int) - 1))) ∧ Below w.heap.size w w' := by
  by_cases h0 : 0 ≤ m
  · by_cases h1 : m < (Z.length : Int)
    · have hv := Lib.hid ((inB_iff m 0 ((Z.length : Int) - 1)).2 ⟨h0, by omega⟩)
      go_enter Try.func81, Try.ntmps81
      go_wp2
      go_ret
      exact ⟨ret_bool hv.out.symm, (by repeat (first | exact Below.refl _ _ | assumption | refine Below.drew ?_ | refine below_drewN ?_ _ | refine Below.alloc' ?_ _ | (refine Below.setCell ?_ (by first | omega | (simp; done) | (simp; omega) | exact Below.size (by assumption) | exact Nat.le_trans (Below.size (by assumption)) (by simp)) _) | (refine Below.via' ?_ (by assumption)) | (refine Below.alloc ?_ (by first | omega | (simp; done) | (simp; omega) | exact Below.size (by assumption) | exact Nat.le_trans (Below.size (by assumption)) (by simp)) _) | (refine Below.via ?_ (by assumption) (by first | omega | (simp; done) | (simp; omega) | exact Below.size (by assumption) | exact Nat.le_trans (Below.size (by assumption)) (by simp)))))⟩
    · have hv := Lib.hid ((inB_no m 0 ((Z.length : Int) - 1)).2 (by omega))
      go_enter Try.func81, Try.ntmps81
      go_wp2
      go_ret
      exact ⟨ret_bool hv.out.symm, (by repeat (first | exact Below.refl _ _ | assumption | refine Below.drew ?_ | refine below_drewN ?_ _ | refine Below.alloc' ?_ _ | (refine Below.setCell ?_ (by first | omega | (simp; done) | (simp; omega) | exact Below.size (by assumption) | exact Nat.le_trans (Below.size (by assumption)) (by simp)) _) | (refine Below.via' ?_ (by assumption)) | (refine Below.alloc ?_ (by first | omega | (simp; done) | (simp; omega) | exact Below.size (by assumption) | exact Nat.le_trans (Below.size (by assumption)) (by simp)) _) | (refine Below.via ?_ (by assumption) (by first | omega | (simp; done) | (simp; omega) | exact Below.size (by assumption) | exact Nat.le_trans (Below.size (by assumption)) (by simp)))))⟩
  · have hv := Lib.hid ((inB_no m 0 ((Z.length : Int) - 1)).2 (by omega))
    go_enter Try.func81, Try.ntmps81
    go_wp2
    go_ret
    exact ⟨ret_bool hv.out.symm, (by repeat (first | exact Below.refl _ _ | assumption | refine Below.drew ?_ | refine below_drewN ?_ _ | refine Below.alloc' ?_ _ | (refine Below.setCell ?_ (by first | omega | (simp; done) | (simp; omega) | exact Below.size (by assumption) | exact Nat.le_trans (Below.size (by assumption)) (by simp)) _) | (refine Below.via' ?_ (by assumption)) | (refine Below.alloc ?_ (by first | omega | (simp; done) | (simp; omega) | exact Below.size (by assumption) | exact Nat.le_trans (Below.size (by assumption)) (by simp)) _) | (refine Below.via ?_ (by assumption) (by first | omega | (simp; done) | (simp; omega) | exact Below.size (by assumption) | exact Nat.le_trans (Below.size (by assumption)) (by simp)))))⟩
set_option maxHeartbeats 16000000 in
theorem iMg_any (x y z : Option Addr) (c d e : Nat) (Z C D : List Int) (w : World) (h : CIn w x y Z C) (hD : IIn w z D) :
    Calls Try.prog 34 #[.agg #[.slice x Z.length c, .slice y C.length d], .slice z D.length e] w (RetCu (mgR Z C D) (mgB Z C D) w) := by
  have hDh := Lib.hid hD
  have hDl := hD.1
  have hZl := h.1.1
  clear hD
  have hh := Lib.hid h
  clear h
  have t0n := Fr2.new w x Z.length c y C.length d
  obtain ⟨w0, hw0⟩ : ∃ w0, w0 = (w.alloc (.cells #[.slice x Z.length c, .slice y C.length d] 27)).alloc (.cells #[.slice none 0 0, .slice none 0 0] 27) := ⟨_, rfl⟩
  have B0 : Below w.heap.size w w0 := by rw [hw0]; exact (by repeat (first | exact Below.refl _ _ | assumption | refine Below.drew ?_ | refine below_drewN ?_ _ | refine Below.alloc' ?_ _ | (refine Below.setCell ?_ (by first | omega | (simp; done) | (simp; omega) | exact Below.size (by assumption) | exact Nat.le_trans (Below.size (by assumption)) (by simp)) _) | (refine Below.via' ?_ (by assumption)) | (refine Below.alloc ?_ (by first | omega | (simp; done) | (simp; omega) | exact Below.size (by assumption) | exact Nat.le_trans (Below.size (by assumption)) (by simp)) _) | (refine Below.via ?_ (by assumption) (by first | omega | (simp; done) | (simp; omega) | exact Below.size (by assumption) | exact Nat.le_trans (Below.size (by assumption)) (by simp)))))
  rw [← hw0] at t0n
  have t0 := Lib.hid t0n
  clear t0n
  go_enter Try.func34, Try.ntmps34
  go_wp2_with fail
  rw [← hw0]
  replace hw0 := Lib.hid hw0
  refine (iCu_any _ _ _ _ Z C _ (hh.out.below B0)).mono ?_
  rintro e1 w1 ⟨rfl, hb1⟩
  have B1 : Below w.heap.size w w1 := Below.via' B0 hb1
  have t1 := Lib.hid (t0.out.below hb1)
  try clear a0a a0b a0c z0a z0b z0c z0d z0e
  clear hb1
  obtain ⟨⟨a1a, a1b, a1c⟩, zz1⟩ := t1.out
  have z1a := (zz1.read 0).trans rfl
  have z1b := (zz1.read 1).trans rfl
  have z1c := zz1.free 0
  have z1d := zz1.free 1
  have z1e := zz1.inside
  clear zz1
  cases hg1 : cgB Z C
  · have hv := Lib.hid (mg_no (mg_no1 D hg1))
    clear hg1
    go_wp2
    refine bodyPost_ret (v := .tuple #[.agg #[.slice none 0 0, .slice none 0 0], .bool false]) (by simp [results, Try.results34, go_sem, *]) rfl (retCu_no hv.out.1 hv.out.2 ?_)
    repeat (refine Below.setCell ?_ (by simp; try omega) _)
    exact B1
  have hgh := Lib.hid hg1
  have hfh := Lib.hid (cg_get hg1).1
  obtain ⟨f1, f2, f3⟩ := cf_get hfh.out
  have hok := Lib.hid (cs_get f1).1
  have hcn := Lib.hid f2
  have h4 := okZ_len hok.out
  have hCl := cf_len hfh.out
  clear hg1 f1 f2 f3
  go_wp2_with fail
  refine (areIndicesR_any _ _ Z.length D _ hZl (hDh.out.below B1)).mono ?_
  rintro e1 w2 ⟨rfl, rfl⟩
  cases hr : riU (Z.length : Int) 0 D
  · have hv := Lib.hid (mg_no (mg_no2 C hr))
    clear hr
    go_wp2
    refine bodyPost_ret (v := .tuple #[.agg #[.slice none 0 0, .slice none 0 0], .bool false]) (by simp [results, Try.results34, go_sem, *]) rfl (retCu_no hv.out.1 hv.out.2 ?_)
    repeat (refine Below.setCell ?_ (by simp; try omega) _)
    exact B1
  obtain ⟨m1, m2, m3⟩ := mg_all (okZ_nn hok.out) hr
  have hrh := Lib.hid hr
  have hF1 := Lib.hid m1
  have hFl := Lib.hid (mgF_len Z D)
  have hbd := Lib.hid (ri_bd hr)
  have hv := Lib.hid (mg_yes hgh.out hr)
  clear hr m1 m2 m3
  have hnew := Lib.hid (Wb.new w1 81 (iC [0, 0, 0, 0]).toArray)
  obtain ⟨w3, hw3⟩ : ∃ w3, w3 = w1.alloc (.cells #[.int .i64 0, .int .i64 0, .int .i64 0, .int .i64 0] 81) := ⟨_, rfl⟩
  have hbn : Below w1.heap.size w1 w3 := by rw [hw3]; exact (by repeat (first | exact Below.refl _ _ | assumption | refine Below.drew ?_ | refine below_drewN ?_ _ | refine Below.alloc' ?_ _ | (refine Below.setCell ?_ (by first | omega | (simp; done) | (simp; omega) | exact Below.size (by assumption) | exact Nat.le_trans (Below.size (by assumption)) (by simp)) _) | (refine Below.via' ?_ (by assumption)) | (refine Below.alloc ?_ (by first | omega | (simp; done) | (simp; omega) | exact Below.size (by assumption) | exact Nat.le_trans (Below.size (by assumption)) (by simp)) _) | (refine Below.via ?_ (by assumption) (by first | omega | (simp; done) | (simp; omega) | exact Below.size (by assumption) | exact Nat.le_trans (Below.size (by assumption)) (by simp)))))
  have hn3 : Hid (Wb w3 w1.heap.size 81 (iC [0, 0, 0, 0]).toArray) := by rw [hw3]; exact hnew.out
  have B3 : Below w.heap.size w w3 := Below.via' B1 hbn
  have t3 := Lib.hid (t1.out.below hbn)
  clear a1a a1b a1c z1a z1b z1c z1d z1e hnew
  obtain ⟨⟨a3a, a3b, a3c⟩, zz3⟩ := t3.out
  clear zz3
  have hlo := hbn.size
  have hlt1 : w1.heap.size < w3.heap.size := hn3.out.inside
  have hl1 : w.heap.size + 1 < w1.heap.size := t1.out.2.inside
  obtain ⟨p0, p1, p2, p3, hfour, hspl⟩ := splice_four (I := Z) h4
  have hpos := Lib.hid (show 0 < (iC Z).length → ∃ ad, x = some ad ∧ ∀ j v, (iC Z)[j]? = some v → w3.drew.cell? (ad.add j) = some v from fun hp => by
    rw [iC_len] at hp
    obtain ⟨b, off, u, e1, h1, h2, h3⟩ := (hh.out.below B3).1.2.2.int hp
    refine ⟨_, e1, fun j v hj => ?_⟩
    have hjl := (List.getElem?_eq_some_iff.1 hj).1
    rw [iC_len] at hjl
    obtain ⟨b2, off2, u2, e2, k1, k2, k3⟩ := (hh.out.below B3).1.2.2.int hjl
    rw [e1] at e2
    injection e2 with e2
    injection e2 with e2 e3
    subst e2 e3
    rw [iC_at k2] at hj
    cases hj
    rw [addr_add]
    exact k3)
  have hfh4 := Lib.hid hfour
  have hsplh := Lib.hid hspl
  have hnd : Hid (w3.drew.heap[w1.heap.size]? = some (.cells (iC [0, 0, 0, 0]).toArray 81 (0, 0))) := hn3.out
  have hbd3 : Hid (Below w1.heap.size w1 w3.drew) := Below.drew hbn
  clear hfour hspl hbn
  go_wp2_with fail
  rw [← hw3]
  replace hw3 := Lib.hid hw3
  go_upto_region 4 with fail
  go_cut [] (fun wx => Wb wx w1.heap.size 81 (iC (Z ++ List.replicate (4 - Z.length) 0)).toArray ∧ Below w1.heap.size w1 wx ∧ w3.heap.size ≤ wx.heap.size)
  case first =>
    go_region_law (go_loud (refine step_copy_splice rfl (.tmp 21) (.tmp 23) 22 22 rfl 3 Try.underlying22 (by kernel_rfl) (some ⟨w1.heap.size, 0, none⟩) x 4 4 Z.length c (by go_simp) (by go_simp) w1.heap.size 0 (iC [0, 0, 0, 0]) 81 hnd.out (iC Z) (by rw [iC_len]; exact (Nat.min_eq_left h4).symm) (fun hp => ⟨rfl, hpos.out hp⟩) (by rw [iC_len, iC_len]; simpa using h4) (iC_one _) w1.heap.size w1 hbd3.out (Nat.le_refl _) ?_); intro w4 hg4 hb4)
    all_goals
      have hg5 : Hid (Wb w4 w1.heap.size 81 (iC (Z ++ List.replicate (4 - Z.length) 0)).toArray) := by
        have h0 := hg4.out
        rw [hsplh.out, ← hfh4.out] at h0
        exact h0
      have hs4 : Hid (w3.heap.size ≤ w4.heap.size) := by
        have := hg5.out.inside
        have h3 : w3.heap.size = w1.heap.size + 1 := by rw [hw3.out, World.size_alloc]
        unfold Hid
        omega
      clear hg4
      try go_simp
      go_wp2_with fail
      go_meet
      exact ⟨hg5, hb4, hs4⟩
  obtain ⟨hP, hb4, hs4⟩ := hcut
  obtain ⟨w4, rfl⟩ : ∃ u : World, u = wc := ⟨_, rfl⟩
  have hP4 := Lib.hid (show Wb w4 w1.heap.size 81 (iC (mgF (Z ++ List.replicate (4 - Z.length) 0) (D.take 0))).toArray from hP)
  have t4 := Lib.hid (t1.out.below hb4)
  have B4 : Below w.heap.size w w4 := Below.via' B1 hb4
  have happ := Lib.hid (mgF_app (List.replicate (4 - Z.length) 0) Z D (fun d hd => by have := hbd.out d hd; omega))
  clear hP hb4 hs4 hpos hnd hbd3 hn3 B3 t3 a3a a3b a3c hlo hlt1 hfh4 hsplh hw3
  obtain ⟨u4, hu4⟩ : ∃ u4, u4 = w1.heap.size := ⟨_, rfl⟩
  rw [← hu4] at hP4 hl1 ⊢
  replace hu4 := Lib.hid hu4
  go_wp2
  go_loopw [27] (fun q wr => ∃ j : Nat, j ≤ D.length ∧ q = .int .i64 j ∧ Hid (Wb wr u4 81 (iC (mgF (Z ++ List.replicate (4 - Z.length) 0) (D.take j))).toArray) ∧ Hid (Fr2 wr w.heap.size x Z.length c y C.length d) ∧ Below w.heap.size w wr) (fun q _ => D.length - (intOf q).toNat)
  case atStart => exact ⟨0, by omega, by go_num, hP4.out, t4.out, B4⟩
  case round =>
    clear hP4 t4 B4
    obtain ⟨j, hj, rfl, hP, tr, hB⟩ := hrel
    by_cases hlt : j < D.length
    · obtain ⟨bl, off, v, rfl, hbl, hDj, hc0⟩ := (hDh.out.below hB).2.2.int hlt
      obtain ⟨v1, v2⟩ := hbd.out v (List.mem_of_getElem? hDj)
      have hst := Lib.hid (show mgF (Z ++ List.replicate (4 - Z.length) 0) (D.take (j + 1)) = (mgF (Z ++ List.replicate (4 - Z.length) 0) (D.take j)).set v.toNat (-1) by rw [take_snoc hDj, mgF_snoc])
      obtain ⟨k, rfl⟩ : ∃ k : Nat, v = (k : Int) := ⟨v.toNat, by omega⟩
      have k2 := hP.out.free k
      have k4 := hP.out.inside
      obtain ⟨y', hy'⟩ : ∃ y', (mgF (Z ++ List.replicate (4 - Z.length) 0) (D.take j))[k]? = some y' := ⟨_, List.getElem?_eq_getElem (by rw [mgF_len, List.length_append, List.length_replicate]; omega)⟩
      have k0 := hP.out.atI hy'
      have hlt' : (j : Int) < (D.length : Int) := by omega
      have hk4 : (k : Int) < 4 := by omega
      have hk0 : (0 : Int) ≤ (k : Int) := by omega
      have hP2 := Lib.hid (hP.out.putI k (-1))
      have tr2 := Lib.hid (tr.out.grown (grown_setU wr ⟨u4, k, none⟩ (.int .i64 (-1))) (fun q hq => by injection hq with hq; simp at hq; omega))
      replace hDj := Lib.hid hDj
      replace hy' := Lib.hid hy'
      go_wp2
      go_roundw
      case rel => exact ⟨j + 1, by omega, by go_num, (by rw [hst.out]; exact hP2), tr2, Below.setCell (p := ⟨u4, k, none⟩) hB (by show w.heap.size ≤ u4; omega) _⟩
      case measure => simp [intOf]; omega
    · have hij : j = D.length := by omega
      subst hij
      rw [List.take_length, happ.out] at hP
      obtain ⟨f0, f1, f2, f3, hf4⟩ := four_of (L := (mgF Z D) ++ (List.replicate (4 - Z.length) 0)) (by rw [List.length_append, hFl.out, List.length_replicate]; omega)
      rw [hf4] at hP
      have hf4h := Lib.hid hf4
      have q0 : wr.cell? ⟨u4, 0, none⟩ = some (.int .i64 f0) := (hP.out.read 0).trans rfl
      have q1 : wr.cell? ⟨u4, 1, none⟩ = some (.int .i64 f1) := (hP.out.read 1).trans rfl
      have q2 : wr.cell? ⟨u4, 2, none⟩ = some (.int .i64 f2) := (hP.out.read 2).trans rfl
      have q3 : wr.cell? ⟨u4, 3, none⟩ = some (.int .i64 f3) := (hP.out.read 3).trans rfl
      have q4 := hP.out.inside
      obtain ⟨⟨ara, arb, arc⟩, -⟩ := tr.out
      clear hf4
      have hz5 : w.heap.size + 1 < wr.heap.size := tr.out.2.inside
      go_wp2_with fail
      refine (cutOf_any _ _ _ _ Z C (mgF Z D) (List.replicate (4 - Z.length) 0) f0 f1 f2 f3 _ hok.out hCl (hh.out.below hB) hf4h.out hFl.out (fun t ht => .inl (List.eq_of_mem_replicate ht)) (by rw [List.length_replicate])).mono ?_
      rw [ctU_all hF1.out (okZ_nn hok.out) hcn.out]
      rintro e5 w5 ⟨x5, c5, z5, d5, rfl, ho5, hb5⟩
      have t5 := Lib.hid (tr.out.below hb5)
      have B5 : Below w.heap.size w w5 := Below.via' hB hb5
      have ho5h := Lib.hid ho5
      have z5a : w5.cell? ⟨w.heap.size + 1, 0, none⟩ = some (.slice none 0 0) := (t5.out.2.read 0).trans rfl
      have z5b : w5.cell? ⟨w.heap.size + 1, 1, none⟩ = some (.slice none 0 0) := (t5.out.2.read 1).trans rfl
      have z5c := t5.out.2.free 0
      have z5d := t5.out.2.free 1
      have z5e := t5.out.2.inside
      have hs5 := hb5.size
      dsimp only at ho5 ho5h
      clear hb5 ho5 q0 q1 q2 q3 q4 ara arb arc
      go_wp2
      refine bodyPost_ret (v := .tuple #[.agg #[.slice x5 (opZ Z (mgF Z D)).length c5, .slice z5 (ctL Z (mgF Z D) C).length d5], .bool true]) (by simp [results, Try.results34, go_sem, *]) rfl ?_
      refine retCu_yes hv.out.1 hv.out.2 ?_ ?_
      · exact ((ho5h.out.aside _ _ (.inl (by show w.heap.size + 1 < wr.heap.size; omega))).aside _ _ (.inl (by show w.heap.size + 1 < wr.heap.size; omega))).more (by omega) (by simp only [World.size_setCell]; exact Nat.le_refl _)
      · repeat (refine Below.setCell ?_ (by simp; try omega) _)
        exact B5
def rpL (j : Nat) : List Int := List.replicate j (-1) ++ List.replicate (4 - j) 0
theorem rp_set {j : Nat} (h : j < 4) : rpL (j + 1) = (rpL j).set j (-1) := by
  have : j = 0 ∨ j = 1 ∨ j = 2 ∨ j = 3 := by omega
  rcases this with rfl | rfl | rfl | rfl <;> rfl
theorem rp_len {j : Nat} (h : j ≤ 4) : (rpL j).length = 4 := by unfold rpL; rw [List.length_append, List.length_replicate, List.length_replicate]; omega
set_option maxHeartbeats 16000000 in
theorem iSl_any (x y : Option Addr) (c d : Nat) (Z C : List Int) (m i : Int) (w : World) (h : CIn w x y Z C) :
    Calls Try.prog 36 #[.agg #[.slice x Z.length c, .slice y C.length d], .int .i64 m, .int .i64 i] w (RetCu (slR Z C m i) (slB Z C m i) w) := by
  have hh := Lib.hid h
  clear h
  have t0n := Fr2.new w x Z.length c y C.length d
  obtain ⟨w0, hw0⟩ : ∃ w0, w0 = (w.alloc (.cells #[.slice x Z.length c, .slice y C.length d] 27)).alloc (.cells #[.slice none 0 0, .slice none 0 0] 27) := ⟨_, rfl⟩
  have B0 : Below w.heap.size w w0 := by rw [hw0]; exact (by repeat (first | exact Below.refl _ _ | assumption | refine Below.drew ?_ | refine below_drewN ?_ _ | refine Below.alloc' ?_ _ | (refine Below.setCell ?_ (by first | omega | (simp; done) | (simp; omega) | exact Below.size (by assumption) | exact Nat.le_trans (Below.size (by assumption)) (by simp)) _) | (refine Below.via' ?_ (by assumption)) | (refine Below.alloc ?_ (by first | omega | (simp; done) | (simp; omega) | exact Below.size (by assumption) | exact Nat.le_trans (Below.size (by assumption)) (by simp)) _) | (refine Below.via ?_ (by assumption) (by first | omega | (simp; done) | (simp; omega) | exact Below.size (by assumption) | exact Nat.le_trans (Below.size (by assumption)) (by simp)))))
  rw [← hw0] at t0n
  have t0 := Lib.hid t0n
  clear t0n
  go_enter Try.func36, Try.ntmps36
  go_wp2_with fail
  rw [← hw0]
  replace hw0 := Lib.hid hw0
  refine (iCu_any _ _ _ _ Z C _ (hh.out.below B0)).mono ?_
  rintro e1 w1 ⟨rfl, hb1⟩
  have B1 : Below w.heap.size w w1 := Below.via' B0 hb1
  have t1 := Lib.hid (t0.out.below hb1)
  try clear a0a a0b a0c z0a z0b z0c z0d z0e
  clear hb1
  obtain ⟨⟨a1a, a1b, a1c⟩, zz1⟩ := t1.out
  have z1a := (zz1.read 0).trans rfl
  have z1b := (zz1.read 1).trans rfl
  have z1c := zz1.free 0
  have z1d := zz1.free 1
  have z1e := zz1.inside
  clear zz1
  cases hg1 : cgB Z C
  · have hv := Lib.hid (sl_no (sl_no1 m i hg1))
    clear hg1
    go_wp2
    refine bodyPost_ret (v := .tuple #[.agg #[.slice none 0 0, .slice none 0 0], .bool false]) (by simp [results, Try.results36, go_sem, *]) rfl (retCu_no hv.out.1 hv.out.2 ?_)
    repeat (refine Below.setCell ?_ (by simp; try omega) _)
    exact B1
  have hgh := Lib.hid hg1
  have hfh := Lib.hid (cg_get hg1).1
  obtain ⟨f1, f2, f3⟩ := cf_get hfh.out
  have hok := Lib.hid (cs_get f1).1
  have hcn := Lib.hid f2
  have h4 := okZ_len hok.out
  have hCl := cf_len hfh.out
  clear hg1 f1 f2 f3
  go_wp2_with fail
  refine (isDim_any _ _ _ _ Z C m _).mono ?_
  rintro e1 w2 ⟨rfl, hb2⟩
  have B2 : Below w.heap.size w w2 := Below.via' B1 hb2
  have t2 := Lib.hid (t1.out.below hb2)
  try clear a1a a1b a1c z1a z1b z1c z1d z1e
  clear hb2
  obtain ⟨⟨a2a, a2b, a2c⟩, zz2⟩ := t2.out
  have z2a := (zz2.read 0).trans rfl
  have z2b := (zz2.read 1).trans rfl
  have z2c := zz2.free 0
  have z2d := zz2.free 1
  have z2e := zz2.inside
  clear zz2
  cases hr : inB m 0 ((Z.length : Int) - 1)
  · have hv := Lib.hid (sl_no (sl_no2 C i hr))
    clear hr
    go_wp2
    refine bodyPost_ret (v := .tuple #[.agg #[.slice none 0 0, .slice none 0 0], .bool false]) (by simp [results, Try.results36, go_sem, *]) rfl (retCu_no hv.out.1 hv.out.2 ?_)
    repeat (refine Below.setCell ?_ (by simp; try omega) _)
    exact B2
  have hrh := Lib.hid hr
  obtain ⟨m1, m2⟩ := (inB_iff _ _ _).1 hr
  obtain ⟨k, rfl⟩ : ∃ k : Nat, m = (k : Int) := ⟨m.toNat, by omega⟩
  have hkl : k < Z.length := by omega
  obtain ⟨bl, off, v, rfl, hbl, hZk, hc0⟩ := (hh.out.below B2).1.2.2.int hkl
  have hkl' : (k : Int) < (Z.length : Int) := by omega
  clear hr m2
  cases hin : inB i 0 (Z.getD ((k : Int).toNat) 0)
  · have hno := (inB_no _ _ _).1 hin
    rw [Int.toNat_natCast, getD_at hZk] at hno
    have hv := Lib.hid (sl_no (sl_no3 C hin))
    replace hZk := Lib.hid hZk
    clear hin
    by_cases hlo : i < 0
    · clear hno
      go_wp2
      refine bodyPost_ret (v := .tuple #[.agg #[.slice none 0 0, .slice none 0 0], .bool false]) (by simp [results, Try.results36, go_sem, *]) rfl (retCu_no hv.out.1 hv.out.2 ?_)
      repeat (refine Below.setCell ?_ (by simp; try omega) _)
      exact B2
    · have hhi : v < i := by omega
      clear hno
      go_wp2
      refine bodyPost_ret (v := .tuple #[.agg #[.slice none 0 0, .slice none 0 0], .bool false]) (by simp [results, Try.results36, go_sem, *]) rfl (retCu_no hv.out.1 hv.out.2 ?_)
      repeat (refine Below.setCell ?_ (by simp; try omega) _)
      exact B2
  have hinh := Lib.hid hin
  have hio := (inB_iff _ _ _).1 hin
  rw [Int.toNat_natCast, getD_at hZk] at hio
  obtain ⟨i1, i2⟩ := hio
  have hlo : ¬ i < 0 := by omega
  have hhi : ¬ v < i := by omega
  have hF1 := Lib.hid (sl_all (m := (k : Int)) (by rw [Int.toNat_natCast]; exact hZk) i1 i2).1
  have hFl := Lib.hid (slF_len Z (k : Int) i)
  have hv := Lib.hid (sl_yes hgh.out hrh.out hin)
  have happ := Lib.hid (sl_four (Z := Z) (m := (k : Int)) (i := i) h4 (by rw [Int.toNat_natCast]; exact hkl))
  replace hZk := Lib.hid hZk
  clear hin i1 i2
  have hnew := Wb.new w2 81 (iC (rpL 0)).toArray
  obtain ⟨w3, hw3⟩ : ∃ w3, w3 = w2.alloc (.cells #[.int .i64 0, .int .i64 0, .int .i64 0, .int .i64 0] 81) := ⟨_, rfl⟩
  have hbn : Below w2.heap.size w2 w3 := by rw [hw3]; exact (by repeat (first | exact Below.refl _ _ | assumption | refine Below.drew ?_ | refine below_drewN ?_ _ | refine Below.alloc' ?_ _ | (refine Below.setCell ?_ (by first | omega | (simp; done) | (simp; omega) | exact Below.size (by assumption) | exact Nat.le_trans (Below.size (by assumption)) (by simp)) _) | (refine Below.via' ?_ (by assumption)) | (refine Below.alloc ?_ (by first | omega | (simp; done) | (simp; omega) | exact Below.size (by assumption) | exact Nat.le_trans (Below.size (by assumption)) (by simp)) _) | (refine Below.via ?_ (by assumption) (by first | omega | (simp; done) | (simp; omega) | exact Below.size (by assumption) | exact Nat.le_trans (Below.size (by assumption)) (by simp)))))
  have hn3 : Hid (Wb w3 w2.heap.size 81 (iC (rpL 0)).toArray) := by rw [hw3]; exact hnew
  have B3 : Below w.heap.size w w3 := Below.via' B2 hbn
  have t3 := Lib.hid (t2.out.below hbn)
  have hl1 : w.heap.size + 1 < w2.heap.size := t2.out.2.inside
  clear hnew hbn
  go_wp2_with fail
  rw [← hw3]
  replace hw3 := Lib.hid hw3
  clear a2a a2b a2c z2a z2b z2c z2d z2e hc0
  obtain ⟨u4, hu4⟩ : ∃ u4, u4 = w2.heap.size := ⟨_, rfl⟩
  rw [← hu4] at hn3 hl1 ⊢
  replace hu4 := Lib.hid hu4
  go_wp2
  go_loopw [33] (fun q wr => ∃ j : Nat, j ≤ 4 ∧ q = .int .i64 j ∧ Hid (Wb wr u4 81 (iC (rpL j)).toArray) ∧ Hid (Fr2 wr w.heap.size (some ⟨bl, off, none⟩) Z.length c y C.length d) ∧ Below w.heap.size w wr) (fun q _ => 4 - (intOf q).toNat)
  case atStart => exact ⟨0, by omega, by go_num, hn3.out, t3.out, B3⟩
  case round =>
    clear hn3 t3 B3
    obtain ⟨j, hj, rfl, hP, tr, hB⟩ := hrel
    by_cases hlt : j < 4
    · have hst := Lib.hid (rp_set hlt)
      have k2 := hP.out.free j
      have k4 := hP.out.inside
      obtain ⟨y', hy'⟩ : ∃ y', (rpL j)[j]? = some y' := ⟨_, List.getElem?_eq_getElem (by rw [rp_len hj]; exact hlt)⟩
      have k0 := hP.out.atI hy'
      have hj4 : (j : Int) < 4 := by omega
      have hj0 : (0 : Int) ≤ (j : Int) := by omega
      have hP2 := Lib.hid (hP.out.putI j (-1))
      have tr2 := Lib.hid (tr.out.grown (grown_setU wr ⟨u4, j, none⟩ (.int .i64 (-1))) (fun q hq => by injection hq with hq; simp at hq; omega))
      replace hy' := Lib.hid hy'
      go_wp2
      go_roundw
      case rel => exact ⟨j + 1, by omega, by go_num, (by rw [hst.out]; exact hP2), tr2, Below.setCell (p := ⟨u4, j, none⟩) hB (by show w.heap.size ≤ u4; omega) _⟩
      case measure => simp [intOf]; omega
    · have hij : j = 4 := by omega
      subst hij
      have k2 := hP.out.free k
      have k4 := hP.out.inside
      obtain ⟨y', hy'⟩ : ∃ y', (rpL 4)[k]? = some y' := ⟨_, List.getElem?_eq_getElem (by rw [rp_len (Nat.le_refl _)]; omega)⟩
      have k0 := hP.out.atI hy'
      have hk4 : (k : Int) < 4 := by omega
      have hk0 : (0 : Int) ≤ (k : Int) := by omega
      have hP2 := Lib.hid (hP.out.putI k i)
      have tr2 := Lib.hid (tr.out.grown (grown_setU wr ⟨u4, k, none⟩ (.int .i64 i)) (fun q hq => by injection hq with hq; simp at hq; omega))
      have hB2 : Below w.heap.size w (wr.setCell ⟨u4, k, none⟩ (.int .i64 i)) := Below.setCell (p := ⟨u4, k, none⟩) hB (by show w.heap.size ≤ u4; omega) _
      replace hy' := Lib.hid hy'
      obtain ⟨w5, hw5⟩ : ∃ w5, w5 = wr.setCell ⟨u4, k, none⟩ (.int .i64 i) := ⟨_, rfl⟩
      go_upto_region 10 with fail
      rw [← hw5] at hP2 tr2 hB2 ⊢
      rw [Int.toNat_natCast, show ([-1, -1, -1, -1] : List Int) = rpL 4 from rfl] at happ
      rw [← happ.out] at hP2
      have hw54 := Lib.hid hw5
      clear hw5 k0 k2 k4 hB tr hP
      obtain ⟨f0, f1, f2, f3, hf4⟩ := four_of (L := (slF Z (k : Int) i) ++ (List.replicate (4 - Z.length) (-1))) (by rw [List.length_append, hFl.out, List.length_replicate]; omega)
      rw [hf4] at hP2
      have hf4h := Lib.hid hf4
      have q0 : w5.cell? ⟨u4, 0, none⟩ = some (.int .i64 f0) := (hP2.out.read 0).trans rfl
      have q1 : w5.cell? ⟨u4, 1, none⟩ = some (.int .i64 f1) := (hP2.out.read 1).trans rfl
      have q2 : w5.cell? ⟨u4, 2, none⟩ = some (.int .i64 f2) := (hP2.out.read 2).trans rfl
      have q3 : w5.cell? ⟨u4, 3, none⟩ = some (.int .i64 f3) := (hP2.out.read 3).trans rfl
      have q4 := hP2.out.inside
      obtain ⟨⟨ara, arb, arc⟩, -⟩ := tr2.out
      clear hf4
      have hz5 : w.heap.size + 1 < w5.heap.size := tr2.out.2.inside
      go_wp2_with fail
      refine (cutOf_any _ _ _ _ Z C (slF Z (k : Int) i) (List.replicate (4 - Z.length) (-1)) f0 f1 f2 f3 _ hok.out hCl (hh.out.below hB2) hf4h.out hFl.out (fun t ht => .inr (List.eq_of_mem_replicate ht)) (by rw [List.length_replicate])).mono ?_
      rw [ctU_all hF1.out (okZ_nn hok.out) hcn.out]
      rintro e5 w6 ⟨x5, c5, z5, d5, rfl, ho5, hb5⟩
      have t5 := Lib.hid (tr2.out.below hb5)
      have B5 : Below w.heap.size w w6 := Below.via' hB2 hb5
      have ho5h := Lib.hid ho5
      have z5a : w6.cell? ⟨w.heap.size + 1, 0, none⟩ = some (.slice none 0 0) := (t5.out.2.read 0).trans rfl
      have z5b : w6.cell? ⟨w.heap.size + 1, 1, none⟩ = some (.slice none 0 0) := (t5.out.2.read 1).trans rfl
      have z5c := t5.out.2.free 0
      have z5d := t5.out.2.free 1
      have z5e := t5.out.2.inside
      have hs5 := hb5.size
      dsimp only at ho5 ho5h
      clear hb5 ho5 q0 q1 q2 q3 q4 ara arb arc
      go_wp2
      refine bodyPost_ret (v := .tuple #[.agg #[.slice x5 (opZ Z (slF Z (k : Int) i)).length c5, .slice z5 (ctL Z (slF Z (k : Int) i) C).length d5], .bool true]) (by simp [results, Try.results36, go_sem, *]) rfl ?_
      refine retCu_yes hv.out.1 hv.out.2 ?_ ?_
      · exact ((ho5h.out.aside _ _ (.inl (by show w.heap.size + 1 < w5.heap.size; omega))).aside _ _ (.inl (by show w.heap.size + 1 < w5.heap.size; omega))).more (by have := B5.size; omega) (by simp only [World.size_setCell]; exact Nat.le_refl _)
      · repeat (refine Below.setCell ?_ (by simp; try omega) _)
        exact B5
end Go.Proofs.Ytnmpigedhpdenaa

namespace Go.Proofs.Ytnmpigedhpdenaa
open Go.RowKit
set_option maxRecDepth 100000

def pkL (Z D : List Int) : List Int := D.map fun d => Z.getD d.toNat 0
set_option maxHeartbeats 4000000 in
theorem pickI_any (x y : Option Addr) (c d : Nat) (Z D : List Int) (w : World) (hZ : IIn w x Z) (hD : Rd w y (iC D)) (hl : D.length ≤ 1000) (hb : ∀ v ∈ D, 0 ≤ v ∧ v < (Z.length : Int)) :
    Calls Try.prog 98 #[.slice x Z.length c, .slice y D.length d] w (RetC (pkL Z D) w) := by
  obtain ⟨i0, hii, hz0, hz1, hz2⟩ := info_parts Try.infoInt
  have hZh := Lib.hid hZ
  have hDh := Lib.hid hD
  have hbh := Lib.hid hb
  clear hZ hD hb
  go_enter Try.func98, Try.ntmps98
  go_wp2
  go_loopw [5, 10] (fun u q wr => ∃ j : Nat, j ≤ D.length ∧ q = .int .i64 j ∧ Hid (wr.ownsRow w.heap.size 3 1 u (pkL Z (D.take j)).length (iC (pkL Z (D.take j)))) ∧ Below w.heap.size w wr) (fun _ q _ => D.length - (intOf q).toNat)
  case atStart => exact ⟨0, by omega, by go_num, World.ownsRow_nil _ _ _ _, Below.refl _ _⟩
  case round =>
    obtain ⟨j, hj, rfl, ho, hB⟩ := hrel
    by_cases hlt : j < D.length
    · obtain ⟨bl, off, v, rfl, hbl, hDj, hc0⟩ := (hDh.out.below hB).int hlt
      obtain ⟨v1, v2⟩ := hbh.out v (List.mem_of_getElem? hDj)
      obtain ⟨k, rfl⟩ : ∃ k : Nat, v = (k : Int) := ⟨v.toNat, by omega⟩
      obtain ⟨b2, o2, n, rfl, hb2, hZk, hc1⟩ := (hZh.out.below hB).2.2.int (i := k) (by omega)
      have hst : pkL Z (D.take (j + 1)) = pkL Z (D.take j) ++ [n] := by
        rw [take_snoc hDj]
        unfold pkL
        rw [List.map_append]
        simp [List.getD_eq_getElem?_getD, hZk]
      have hsn := Lib.hid hst
      have hll : (pkL Z (D.take j)).length = j := by unfold pkL; simp; omega
      have hsw := hB.size
      have hlt' : (j : Int) < (D.length : Int) := by omega
      have hk0 : (0 : Int) ≤ (k : Int) := by omega
      replace hDj := Lib.hid hDj
      replace hZk := Lib.hid hZk
      clear hst
      obtain ⟨L, hL⟩ : ∃ L, L = pkL Z (D.take j) := ⟨_, rfl⟩
      rw [← hL] at ho hsn hll
      replace hL := Lib.hid hL
      go_wp2_with (at_builtin; go_loud (refine wpList_append_rd _ rfl (.tmp 14) (.tmp 19) 22 rfl w.heap.size 3 i0 (.int .i64 0) 1 8 Try.underlying22 hii hz0 hz1 hz2 rfl (by decide) _ L.length (iC L) rfl (ho.out.alloc _) _ 1 1 rfl (Nat.le_refl _) (by intro h; cases h) (iC [n]) rfl (rd_oneN _ _ _ _ (by simp)) (iC_one _) (by unfold maxLen; omega) (by omega) (by simp; omega) ?_); intro v3 w3 hown3 hgrow3 hwhere3)
      obtain ⟨hb3, hl3⟩ := append_below hB (fun k hk => (ho.out.lt k hk).1) hgrow3 hwhere3
      have ho3 := Lib.hid (own_snocN (M := pkL Z (D.take (j + 1))) hown3 hsn.out rfl)
      clear hgrow3 hwhere3 hown3
      go_wp2
      go_roundw
      case rel => exact ⟨j + 1, by omega, by go_num, ho3, hb3⟩
      case measure => simp [intOf]; omega
    · have hij : j = D.length := by omega
      subst hij
      go_wp2
      go_ret
      exact ⟨_, rfl, by have h9 := ho.out; rw [List.take_length] at h9; exact h9, hB⟩
/-- The cells, by the model. -/
def cmU (Z F C : List Int) : Nat → List Int
  | 0 => []
  | i + 1 => cmU Z F C i ++ [C.getD (ixC Z (mgL F (dgL (opZ Z F) (i : Int)))).toNat 0]
theorem cmU_len (Z F C : List Int) : ∀ n, (cmU Z F C n).length = n
  | 0 => rfl
  | n + 1 => by unfold cmU; rw [List.length_append, cmU_len Z F C n]; rfl
theorem cmU_map (Z F C : List Int) : ∀ n : Nat, cmU Z F C n = (rnI (n : Int)).map fun i => C.getD (ixC Z (mgL F (dgL (opZ Z F) i))).toNat 0
  | 0 => rfl
  | n + 1 => by
    have e : rnI ((n + 1 : Nat) : Int) = rnI (n : Int) ++ [(n : Int)] := by
      unfold rnI
      rw [Int.toNat_natCast, Int.toNat_natCast, List.range_succ, List.map_append]
      rfl
    rw [e, List.map_append, ← cmU_map Z F C n]
    rfl
theorem cmU_all {Z F C : List Int} (h : okF Z F) (hz : ∀ z ∈ Z, 0 ≤ z) {n : Nat} (hn : (n : Int) = cnC (opZ Z F)) : cmU Z F C n = ctL Z F C := by
  rw [cmU_map, hn]
  exact ctO_all h hz
theorem cs_open {Z : List Int} (F : List Int) (h : csB Z = true) : csB (opZ Z F) = true := by
  obtain ⟨h1, h2⟩ := cs_get h
  rw [cs_eq (opZ_ok h1), decide_eq_true_eq]
  have := cn_open F (okZ_nn h1)
  omega
theorem st_step {G D X : List Int} {k : Nat} {d n : Int} (hd : D[k]? = some d) (hx : X[k]? = some n) : stL G ((D.zip X).take (k + 1)) = (stL G ((D.zip X).take k)).set d.toNat n := by
  rw [take_snoc (show (D.zip X)[k]? = some (d, n) from List.getElem?_zip_eq_some.2 ⟨hd, hx⟩), stL_snoc]
theorem st_len (G : List Int) (Q : List (Int × Int)) : (stL G Q).length = G.length := by
  induction Q using snoc_rec with
  | h0 => rfl
  | h1 Q q ih => rw [stL_snoc, List.length_set, ih]
end Go.Proofs.Ytnmpigedhpdenaa

namespace Go.Proofs.Ytnmpigedhpdenaa
open Go.RowKit
set_option maxRecDepth 100000

set_option maxHeartbeats 16000000 in
theorem cbFrom_any (x y z g : Option Addr) (c d e p : Nat) (Z C F G : List Int) (w : World) (hs : csB Z = true) (hm : (C.length : Int) = cnC Z) (h : CIn w x y Z C) (hD : Rd w z (iC (opD F 0))) (hG : IIn w g G) (hcG : G.length ≤ p) (hnG : g = none → p = 0) (hF : okF Z F) (hag : agF F G) (hft : FtC Z G) :
    Calls Try.prog 77 #[.agg #[.slice x Z.length c, .slice y C.length d], .slice z (opD F 0).length e, .slice g G.length p] w (RetCq (opZ Z F, ctL Z F C) w) := by
  obtain ⟨i0, hii, hz0, hz1, hz2⟩ := info_parts Try.infoInt
  have hh := Lib.hid h
  obtain ⟨hz, hc2⟩ := cs_get hs
  have hzh := Lib.hid hz
  have hsY := Lib.hid (cs_open F hs)
  have hzY := Lib.hid (opZ_ok (F := F) hz)
  have h4 := okZ_len hz
  have hl := okF_len hF
  obtain ⟨Y, hY⟩ : ∃ Y, Y = opZ Z F := ⟨_, rfl⟩
  obtain ⟨D, hDe⟩ : ∃ D, D = opD F 0 := ⟨_, rfl⟩
  have hDl : D.length = Y.length := by rw [hDe, hY]; exact opD_len 0 hl
  have hDm : ∀ v ∈ D, 0 ≤ v ∧ v < (Z.length : Int) := fun v hv => by rw [hDe] at hv; have := opD_mem hv; rw [hl] at this; omega
  have hpk : pkL Z D = Y := by rw [hDe, hY]; exact opD_sizes hl
  have hYl : Y.length ≤ 4 := by have := opZ_len Z F; rw [← hY] at this; omega
  obtain ⟨n, hn⟩ : ∃ n : Nat, (n : Int) = cnC Y := ⟨(cnC Y).toNat, by have := (cn_ok (opZ_ok (F := F) hz)).1; rw [← hY] at this; omega⟩
  have hn2 : n ≤ 2000 := by have := (cs_get hsY.out).2; rw [← hY] at this; omega
  have hcv : cbV Y = (n : Int) := by rw [hn, hY]; exact cbV_yes hsY.out
  have hall := Lib.hid (cmU_all (C := C) hF (okZ_nn hz) (n := n) (by rw [hn, hY]))
  have hGl : G.length = Z.length := by
    have h1 : ∀ F G : List Int, agF F G → F.length = G.length := by
      intro F
      induction F with
      | nil => intro G h; cases G with | nil => rfl | cons a b => exact h.elim
      | cons a r ih => intro G h; cases G with | nil => exact h.elim | cons b s => simp only [List.length_cons]; rw [ih s h.2]
    have := h1 F G hag
    omega
  rw [← hDe] at hD ⊢
  have hDh := Lib.hid hD
  have hGh := Lib.hid hG
  have hGm := hG.1
  have hsta := Lib.hid (fun X : List Int => fun hX : X.length = D.length => (by rw [hDe] at hX ⊢; exact st_all hag hX : stL G (D.zip X) = mgL F X))
  have hDmh := Lib.hid hDm
  have hpkh := Lib.hid hpk
  have hfth := Lib.hid hft
  rw [← hY] at hsY hzY ⊢
  have hYh := Lib.hid hY
  have hcm := Lib.hid hm
  have hCl : C.length ≤ 2000 := by omega
  have hcvh := Lib.hid hcv
  have hD4 : D.length ≤ 4 := by omega
  have hDlh := Lib.hid hDl
  have hGlh := Lib.hid hGl
  clear h hs hz hm hc2 hD hG hF hag hft hl hDm hpk hn hcv hY hDe hDl hGl
  have t0n := Fr2.new w x Z.length c y C.length d
  obtain ⟨w0, hw0⟩ : ∃ w0, w0 = (w.alloc (.cells #[.slice x Z.length c, .slice y C.length d] 27)).alloc (.cells #[.slice none 0 0, .slice none 0 0] 27) := ⟨_, rfl⟩
  have B0 : Below w.heap.size w w0 := by rw [hw0]; exact (by repeat (first | exact Below.refl _ _ | assumption | refine Below.drew ?_ | refine below_drewN ?_ _ | refine Below.alloc' ?_ _ | (refine Below.setCell ?_ (by first | omega | (simp; done) | (simp; omega) | exact Below.size (by assumption) | exact Nat.le_trans (Below.size (by assumption)) (by simp)) _) | (refine Below.via' ?_ (by assumption)) | (refine Below.alloc ?_ (by first | omega | (simp; done) | (simp; omega) | exact Below.size (by assumption) | exact Nat.le_trans (Below.size (by assumption)) (by simp)) _) | (refine Below.via ?_ (by assumption) (by first | omega | (simp; done) | (simp; omega) | exact Below.size (by assumption) | exact Nat.le_trans (Below.size (by assumption)) (by simp)))))
  rw [← hw0] at t0n
  have t0 := Lib.hid t0n
  clear t0n
  obtain ⟨⟨a0a, a0b, a0c⟩, -⟩ := t0.out
  go_enter Try.func77, Try.ntmps77
  go_wp2_with fail
  rw [← hw0]
  replace hw0 := Lib.hid hw0
  refine (pickI_any _ _ _ _ Z D _ (hh.out.below B0).1 (hDh.out.below B0) (by omega) hDmh.out).mono ?_
  rw [hpkh.out]
  rintro e1 w1 ⟨v1, rfl, ho1, hb1⟩
  obtain ⟨xS, cS, rfl, -, -⟩ := (OwR.of ho1).form
  have hg1 := hb1.size
  have hl0 : w.heap.size + 1 < w0.heap.size := t0.out.2.inside
  obtain ⟨w2, hw2⟩ : ∃ w2, w2 = w1.alloc (.cells #[.slice xS Y.length cS, .slice none 0 0] 27) := ⟨_, rfl⟩
  have hb2 : Below w1.heap.size w1 w2 := by rw [hw2]; exact (by repeat (first | exact Below.refl _ _ | assumption | refine Below.drew ?_ | refine below_drewN ?_ _ | refine Below.alloc' ?_ _ | (refine Below.setCell ?_ (by first | omega | (simp; done) | (simp; omega) | exact Below.size (by assumption) | exact Nat.le_trans (Below.size (by assumption)) (by simp)) _) | (refine Below.via' ?_ (by assumption)) | (refine Below.alloc ?_ (by first | omega | (simp; done) | (simp; omega) | exact Below.size (by assumption) | exact Nat.le_trans (Below.size (by assumption)) (by simp)) _) | (refine Below.via ?_ (by assumption) (by first | omega | (simp; done) | (simp; omega) | exact Below.size (by assumption) | exact Nat.le_trans (Below.size (by assumption)) (by simp)))))
  have V2 : Hid (Wb w2 w1.heap.size 27 #[.slice xS Y.length cS, .slice none 0 0]) := by rw [hw2]; exact Wb.new w1 27 #[.slice xS Y.length cS, .slice none 0 0]
  have S2 := Lib.hid (own_below ho1 hb2)
  have B1 : Below w.heap.size w w1 := Below.via' B0 hb1
  have B2 : Below w.heap.size w w2 := Below.via' B1 hb2
  have t2 := Lib.hid ((t0.out.below hb1).below hb2)
  have hs2 : w1.heap.size < w2.heap.size := V2.out.inside
  clear ho1 hb1 hb2 a0a a0b a0c
  go_wp2
  rw [← hw2]
  replace hw2 := Lib.hid hw2
  obtain ⟨u7, hu7⟩ : ∃ u7, u7 = w1.heap.size := ⟨_, rfl⟩
  rw [← hu7] at V2 hg1 hs2 ⊢
  replace hu7 := Lib.hid hu7
  go_loopw [8] (fun q wr => ∃ (i : Nat) (zC : Option Addr) (cC : Nat), i ≤ n ∧ q = .int .i64 i ∧ Hid (Wb wr u7 27 #[.slice xS Y.length cS, .slice zC (cmU Z F C i).length cC]) ∧ Hid (wr.ownsRow w0.heap.size 3 1 (.slice xS Y.length cS) Y.length (iC Y)) ∧ Hid (wr.ownsRow w0.heap.size 3 1 (.slice zC (cmU Z F C i).length cC) (cmU Z F C i).length (iC (cmU Z F C i))) ∧ Hid (∀ k, (Value.slice xS Y.length cS).ownBlock = some k → (Value.slice zC (cmU Z F C i).length cC).ownBlock ≠ some k) ∧ Hid (Fr2 wr w.heap.size x Z.length c y C.length d) ∧ Below w.heap.size w wr ∧ u7 < wr.heap.size) (fun q _ => n - (intOf q).toNat)
  case atStart => exact ⟨0, none, 0, by omega, by go_num, V2.out, S2.out, World.ownsRow_nil _ _ _ _, (fun _ _ e => by cases e), t2.out, B2, hs2⟩
  case round =>
    clear V2 S2 t2 B2 hs2
    obtain ⟨i, zC, cC, hi, rfl, hV, hS, hC, hnx, hT, hB, hsz⟩ := hrel
    have v1 : wr.cell? ⟨u7, 0, none⟩ = some (.slice xS Y.length cS) := (hV.out.read 0).trans rfl
    have v3 := hV.out.inside
    have hYi : Hid (IIn wr xS Y) := ⟨by omega, fun m hm => by have := okZ_mem hzY.out hm; unfold IsI64; omega, Rd.of_own hS.out⟩
    go_wp2_with fail
    refine (cbCount_any _ _ Y _ hYi.out).mono ?_
    rintro e w3 ⟨rfl, rfl⟩
    rw [hcvh.out]
    by_cases hlt : i < n
    · have hlt' : (i : Int) < (n : Int) := by omega
      go_wp2_with fail
      refine (l1Own_any g p G _ hGm hcG hnG (hGh.out.2.2.below hB)).mono ?_
      rintro e w3 ⟨v9, rfl, ho9, hb3⟩
      obtain ⟨x9, c9, rfl, -, -⟩ := (OwR.of ho9).form
      obtain ⟨wo, rfl⟩ : ∃ u : World, u = wr := ⟨_, rfl⟩
      have V3 := hV.out.kept hb3
      have v1' : w3.cell? ⟨u7, 0, none⟩ = some (.slice xS Y.length cS) := (V3.read 0).trans rfl
      have v3' := V3.inside
      have hYi3 : Hid (IIn w3 xS Y) := hYi.out.below hb3
      clear v1 v3
      go_wp2_with fail
      refine (cbIndices_any _ _ Y i _ hzY.out (by omega) (by omega) hYi3.out).mono ?_
      rintro e w4 ⟨rfl, ho4, hb4⟩
      have O4 := Lib.hid (own_below ho9 hb4)
      have X4 := Lib.hid ho4
      have hlx := Lib.hid (fun k hk => (ho9.lt k hk))
      have b34 : Hid (Below wo.heap.size wo w4) := Below.via' hb3 hb4
      have hs3 : wo.heap.size ≤ w3.heap.size := hb3.size
      have hs4 := own_lt ho4
      obtain ⟨X, hX⟩ : ∃ X, X = dgL Y (i : Int) := ⟨_, rfl⟩
      have hXl : Hid (X.length = Y.length) := by unfold Hid; rw [hX]; exact dgL_len _ _
      have hXf : Hid (FtC Y X) := by unfold Hid; rw [hX]; exact dg_fit (okZ_nn hzY.out) _
      rw [← hX] at X4
      replace hX := Lib.hid hX
      have hw4s := b34.out.size
      clear ho4 hb4 ho9 hb3 V3 v1' v3' hYi hYi3
      go_wp2
      go_loopw [31] (fun q wi => ∃ k : Nat, k ≤ Y.length ∧ q = .int .i64 k ∧ Hid (wi.ownsRow wo.heap.size 3 1 (.slice x9 G.length c9) G.length (iC (stL G ((D.zip X).take k)))) ∧ Hid (FtC Z (stL G ((D.zip X).take k))) ∧ Hid (wi.ownsRow w3.heap.size 3 1 (.slice (some ⟨w3.heap.size, 0, none⟩) Y.length Y.length) Y.length (iC X)) ∧ Hid (Below wo.heap.size wo wi)) (fun q _ => Y.length - (intOf q).toNat)
      case atStart => exact ⟨0, by omega, by go_num, O4.out, hfth.out, X4.out, b34.out⟩
      case round =>
        clear O4 X4 b34 hs4 hw4s
        obtain ⟨k, hk, rfl, hL, hft, hXo, hBi⟩ := hrel
        obtain ⟨wi, rfl⟩ : ∃ u : World, u = wr := ⟨_, rfl⟩
        have Bi : Hid (Below w.heap.size w wi) := Below.via' hB hBi.out
        by_cases hkl : k < Y.length
        · obtain ⟨bl, off, dd, rfl, hbl, hDk, hc0⟩ := (hDh.out.below Bi.out).int (i := k) (by have := hDlh.out; omega)
          obtain ⟨d1, d2⟩ := hDmh.out dd (List.mem_of_getElem? hDk)
          obtain ⟨kd, rfl⟩ : ∃ kd : Nat, dd = (kd : Int) := ⟨dd.toNat, by omega⟩
          have hkd : kd < Z.length := by omega
          have hZk : Z[kd]? = some Z[kd] := List.getElem?_eq_getElem hkd
          have hYk : Y[k]? = some Z[kd] := by
            rw [← hpkh.out]
            unfold pkL
            rw [List.getElem?_map, hDk]
            simp [List.getD_eq_getElem?_getD, hZk]
          have hxk : k < X.length := by have := hXl.out; omega
          have hXk : X[k]? = some X[k] := List.getElem?_eq_getElem hxk
          have hrng := hXf.out.2 k _ _ hYk hXk
          obtain ⟨u, hu, j0⟩ := own_cell hXo.out (j := k) (by omega)
          obtain rfl : u = .int .i64 X[k] := iC_atI hXk hu
          have j4 := (own_lt hXo.out).2
          have hst := st_step (G := G) hDk hXk
          rw [Int.toNat_natCast] at hst
          have hft2 := hft.out.set hZk hrng.1 hrng.2
          generalize X[k] = xv at *
          generalize Z[kd] = zv at *
          obtain ⟨g9, c92, he⟩ := own_some hL.out (by have := hGlh.out; omega)
          cases he
          obtain ⟨u2, hu2, k0⟩ := own_cell hL.out (j := kd) (by have := hGlh.out; omega)
          have k2 := hL.out.frozenAt kd
          have k4 := (own_lt hL.out).2
          have k5 := (own_lt hL.out).1
          have hlg := (hlx.out g9 rfl).2
          have hkl' : (k : Int) < (Y.length : Int) := by omega
          have hkl2 : (k : Int) < (D.length : Int) := by have := hDlh.out; omega
          have hkg : (kd : Int) < (G.length : Int) := by have := hGlh.out; omega
          have hk0 : (0 : Int) ≤ (kd : Int) := by omega
          have hL2 : Hid ((wi.setCell ⟨g9, kd, none⟩ (.int .i64 xv)).ownsRow wo.heap.size 3 1 (.slice (some ⟨g9, 0, none⟩) G.length c9) G.length (iC (stL G ((D.zip X).take (k + 1))))) := by
            have h5 := (hL.out.stored kd (.int .i64 xv)).1
            rw [← iC_setA, ← hst] at h5
            exact h5
          have hft3 : Hid (FtC Z (stL G ((D.zip X).take (k + 1)))) := by unfold Hid; rw [hst]; exact hft2
          have hXo2 : Hid ((wi.setCell ⟨g9, kd, none⟩ (.int .i64 xv)).ownsRow w3.heap.size 3 1 (.slice (some ⟨w3.heap.size, 0, none⟩) Y.length Y.length) Y.length (iC X)) := hXo.out.kept (grown_setU wi ⟨g9, kd, none⟩ _) (.inr (fun e => by injection e with e; simp at e; omega))
          have hB2 : Hid (Below wo.heap.size wo (wi.setCell ⟨g9, kd, none⟩ (.int .i64 xv))) := Below.setCell (p := ⟨g9, kd, none⟩) hBi.out (by show wo.heap.size ≤ g9; omega) _
          replace hDk := Lib.hid hDk
          clear hZk hYk hXk hst hft2 hu hu2 hrng
          go_wp2
          go_roundw
          case rel => exact ⟨k + 1, by omega, by go_num, hL2, hft3, hXo2, hB2⟩
          case measure => simp [intOf]; omega
        · have hij : k = Y.length := by omega
          subst hij
          have hzl : (D.zip X).take Y.length = D.zip X := List.take_of_length_le (by rw [List.length_zip]; have := hXl.out; have := hDlh.out; omega)
          rw [hzl] at hL hft
          obtain ⟨L, hLe⟩ : ∃ L, L = stL G (D.zip X) := ⟨_, rfl⟩
          have hLl : L.length = G.length := by rw [hLe]; exact st_len _ _
          have hLm : L = mgL F (dgL Y (i : Int)) := by rw [hLe, hsta.out X (by have := hXl.out; have := hDlh.out; omega), hX.out]
          rw [← hLe] at hL hft
          obtain ⟨ix1, ix2⟩ := ix_in hft.out
          obtain ⟨ni, hni⟩ : ∃ ni : Nat, ixC Z L = (ni : Int) := ⟨(ixC Z L).toNat, by omega⟩
          have hnl : ni < C.length := by have := hcm.out; omega
          obtain ⟨bC, oC, val, rfl, hbC, hCn, hcC⟩ := (hh.out.below Bi.out).2.2.2.int hnl
          have hst : cmU Z F C (i + 1) = cmU Z F C i ++ [val] := by
            show _ ++ [C.getD (ixC Z (mgL F (dgL (opZ Z F) (i : Int)))).toNat 0] = _
            rw [← hYh.out, ← hLm, hni, Int.toNat_natCast, getD_at hCn]
          have hsn := Lib.hid hst
          have hix := Lib.hid hni
          have hnl' : (ni : Int) < (C.length : Int) := by omega
          have hni0 : (0 : Int) ≤ (ni : Int) := by omega
          have hcall : ∀ W, Below wi.heap.size wi W → Calls Try.prog 74 #[.slice x Z.length c, .slice x9 G.length c9] W fun e w' => e = .returned (.int .i64 (ni : Int)) ∧ W = w' := fun W hW => by
            have h0 := cbAt_any x x9 c c9 Z L W hzh.out hft.out ((hh.out.below Bi.out).1.below hW) ((Rd.of_own hL.out).below hW)
            rw [hLl, hni] at h0
            exact h0
          have hcl := Lib.hid hcall
          obtain ⟨M, hM⟩ : ∃ M, M = cmU Z F C i := ⟨_, rfl⟩
          have hMl : M.length = i := by rw [hM]; exact cmU_len _ _ _ _
          rw [← hM] at hsn hV hC hnx
          have Vi := Lib.hid (hV.out.kept hBi.out)
          have Si := Lib.hid (own_below hS.out hBi.out)
          have Ci := Lib.hid (own_below hC.out hBi.out)
          have Ti := Lib.hid (hT.out.below hBi.out)
          have hsi := hBi.out.size
          have hne2 := Lib.hid (wb_apart Vi.out Ci.out (by decide))
          have hlow := Lib.hid Ci.out.lt
          have g0 : wi.cell? ⟨u7, 0, none⟩ = some (.slice xS Y.length cS) := (Vi.out.read 0).trans rfl
          have g1 : wi.cell? ⟨u7, 1, none⟩ = some (.slice zC M.length cC) := (Vi.out.read 1).trans rfl
          have gi := Vi.out.inside
          obtain ⟨⟨ara, arb, arc⟩, -⟩ := Ti.out
          have hMh := Lib.hid hMl
          have hM2 : M.length ≤ 2000 := by omega
          have hs0 : w0.heap.size ≤ wi.heap.size := by omega
          replace hCn := Lib.hid hCn
          clear hLe hLm hst hni hcall hM hMl ix1 ix2 hzl hV hS hC hT
          go_wp2_with fail
          go_region_law (first
            | (go_simp; go_at_call 74; refine (hcl.out _ (by exact (by repeat (first | exact Below.refl _ _ | assumption | refine Below.drew ?_ | refine below_drewN ?_ _ | refine Below.alloc' ?_ _ | (refine Below.setCell ?_ (by first | omega | (simp; done) | (simp; omega) | exact Below.size (by assumption) | exact Nat.le_trans (Below.size (by assumption)) (by simp)) _) | (refine Below.via' ?_ (by assumption)) | (refine Below.alloc ?_ (by first | omega | (simp; done) | (simp; omega) | exact Below.size (by assumption) | exact Nat.le_trans (Below.size (by assumption)) (by simp)) _) | (refine Below.via ?_ (by assumption) (by first | omega | (simp; done) | (simp; omega) | exact Below.size (by assumption) | exact Nat.le_trans (Below.size (by assumption)) (by simp))))))).mono ?_; rintro e8 w8 ⟨rfl, rfl⟩)
            | (go_loud (refine step_append_rd _ rfl (.tmp 45) (.tmp 54) 22 rfl w0.heap.size 3 i0 (.int .i64 0) 1 8 Try.underlying22 hii hz0 hz1 hz2 rfl (by decide) _ M.length (iC M) rfl ((Ci.out.alloc _).drew) _ 1 1 rfl (Nat.le_refl _) (by intro h; cases h) (iC [val]) rfl (rd_oneN _ _ _ _ (by simp)) (iC_one _) (by unfold maxLen; omega) (by omega) (by simp; omega) ?_); intro v5 w5 hown5 hgrow5 hwhere5; (obtain ⟨z5, c5, rfl, -, -⟩ := (OwR.of hown5).form); (have hgr : (wi.alloc (.cells #[.int .i64 val] 3)).drew.grownBy w5 (Value.ownBlock (.slice zC M.length cC)) := hgrow5); (have hg5 : wi.grownBy w5 (Value.ownBlock (.slice zC M.length cC)) := (show wi.grownBy (wi.alloc (.cells #[.int .i64 val] 3)).drew _ from grown_drewC (World.grownBy_alloc wi _ _)).trans hgr); (have V5 := Lib.hid (Vi.out.grownC hg5 hne2.out)); (have c50 : w5.cell? ⟨u7, 0, none⟩ = some (.slice xS Y.length cS) := (V5.out.read 0).trans rfl); (have c51 : w5.cell? ⟨u7, 1, none⟩ = some (.slice zC M.length cC) := (V5.out.read 1).trans rfl); (have f50 := V5.out.free 1); (have in5 := V5.out.inside)))
          all_goals
            have hB5 : Below w.heap.size w w5 := Bi.out.grown hg5 Bi.out.size (fun k hk => by have := (hlow.out k hk).1; omega)
            have hLn : (M ++ [val]).length = M.length + 1 := by simp
            have hO5 : Hid (w5.ownsRow w0.heap.size 3 1 (.slice z5 (M ++ [val]).length c5) (M ++ [val]).length (iC (M ++ [val]))) := by
              have h6 := hown5
              rw [← iC_appN] at h6
              rw [hLn]
              exact h6
            have hS5 : Hid (w5.ownsRow w0.heap.size 3 1 (.slice xS Y.length cS) Y.length (iC Y)) := Si.out.kept hg5 (by
              cases hv : (Value.slice xS Y.length cS).ownBlock with
              | none => exact .inl rfl
              | some q => exact .inr (fun e => hnx.out q hv e.symm))
            have hnx5 : Hid (∀ k, (Value.slice xS Y.length cS).ownBlock = some k → (Value.slice z5 (M ++ [val]).length c5).ownBlock ≠ some k) := by
              intro q hq e
              rw [hLn] at e
              rcases hwhere5 with h7 | h7
              · rw [h7] at e
                exact hnx.out q hq e
              · rw [h7] at e
                have h8 := (Si.out.lt q hq).2
                injection e with e
                have h9 : (wi.alloc (.cells #[.int .i64 val] 3)).heap.size = wi.heap.size + 1 := World.size_alloc _ _
                have h10 : (wi.alloc (.cells #[.int .i64 val] 3)).drew.heap.size = (wi.alloc (.cells #[.int .i64 val] 3)).heap.size := rfl
                omega
            have T5 := Lib.hid (Ti.out.grown hg5 (fun k hk => by have := (hlow.out k hk).1; omega))
            have hs5 := hg5.size
            have hO6 := Lib.hid (hO5.out.kept (grown_setU w5 ⟨u7, 1, none⟩ (.slice z5 (M.length + 1) c5)) (by
              cases hv : (Value.slice z5 (M ++ [val]).length c5).ownBlock with
              | none => exact .inl rfl
              | some q => exact .inr (fun e => wb_apart V5.out hO5.out (by decide) (by rw [hv, e]))))
            have hS6 := Lib.hid (hS5.out.kept (grown_setU w5 ⟨u7, 1, none⟩ (.slice z5 (M.length + 1) c5)) (by
              cases hv : (Value.slice xS Y.length cS).ownBlock with
              | none => exact .inl rfl
              | some q => exact .inr (fun e => wb_apart V5.out hS5.out (by decide) (by rw [hv, e]))))
            have T6 := Lib.hid (T5.out.grown (grown_setU w5 ⟨u7, 1, none⟩ (.slice z5 (M.length + 1) c5)) (fun k hk => by injection hk with hk; simp at hk; omega))
            have V6 : Hid (Wb (w5.setCell ⟨u7, 1, none⟩ (.slice z5 (M.length + 1) c5)) u7 27 #[.slice xS Y.length cS, .slice z5 (M ++ [val]).length c5]) := by rw [hLn]; exact V5.out.put 1 _
            have hB6 : Below w.heap.size w (w5.setCell ⟨u7, 1, none⟩ (.slice z5 (M.length + 1) c5)) := Below.setCell (p := ⟨u7, 1, none⟩) hB5 (by show w.heap.size ≤ u7; omega) _
            clear hgrow5 hwhere5 hgr hown5 g0 g1 ara arb arc hg5 c50 c51 hLn
            go_wp2
            go_roundw
            case rel => exact ⟨i + 1, z5, c5, by omega, by go_num, (by rw [hsn.out]; exact V6), hS6, (by rw [hsn.out]; exact hO6), (by rw [hsn.out]; exact hnx5), T6, hB6, by rw [World.size_setCell]; omega⟩
            case measure => simp [intOf]; omega
    · have hij : i = n := by omega
      subst hij
      rw [hall.out] at hV hC hnx
      have v2 : wr.cell? ⟨u7, 1, none⟩ = some (.slice zC (ctL Z F C).length cC) := (hV.out.read 1).trans rfl
      have z0 : wr.cell? ⟨w.heap.size + 1, 0, none⟩ = some (.slice none 0 0) := (hT.out.2.read 0).trans rfl
      have z1 : wr.cell? ⟨w.heap.size + 1, 1, none⟩ = some (.slice none 0 0) := (hT.out.2.read 1).trans rfl
      have z2 := hT.out.2.free 0
      have z3 := hT.out.2.free 1
      have z4 := hT.out.2.inside
      go_wp2
      refine bodyPost_ret (v := .agg #[.slice xS Y.length cS, .slice zC (ctL Z F C).length cC]) (by simp [results, Try.results77, go_sem, *]) rfl ?_
      refine ⟨xS, cS, zC, cC, rfl, OwU.more (lo := w0.heap.size) (owU_of ?_ ?_ ?_ hnx.out) (by omega) (Nat.le_refl _), ?_⟩
      · simp only [World.size_setCell]
        omega
      · exact ((hS.out.kept (grown_setU _ _ _) (own_ne_lt hS.out (by show w.heap.size + 1 < w0.heap.size; omega))).kept (grown_setU _ _ _) (own_ne_lt hS.out (by show w.heap.size + 1 < w0.heap.size; omega)))
      · exact ((hC.out.kept (grown_setU _ _ _) (own_ne_lt hC.out (by show w.heap.size + 1 < w0.heap.size; omega))).kept (grown_setU _ _ _) (own_ne_lt hC.out (by show w.heap.size + 1 < w0.heap.size; omega)))
      · repeat (refine Below.setCell ?_ (by simp; try omega) _)
        exact hB
end Go.Proofs.Ytnmpigedhpdenaa

namespace Go.Proofs.Ytnmpigedhpdenaa
open Go.RowKit
set_option maxRecDepth 100000

theorem ft_self {Z : List Int} (h : ∀ z ∈ Z, 0 ≤ z) : FtC Z Z := ⟨Nat.le_refl _, fun d z x hz hx => by
  rw [hz] at hx
  cases hx
  exact ⟨h z (List.mem_of_getElem? hz), Int.le_refl _⟩⟩
theorem slF_get {Z : List Int} {m i : Int} {d : Nat} (h : d < Z.length) (hne : d ≠ m.toNat) : (slF Z m i)[d]? = some (-1) := by
  unfold slF
  rw [List.getElem?_set, if_neg (fun e => hne e.symm), List.getElem?_replicate, if_pos h]
theorem slF_get2 {Z : List Int} {m i : Int} (h : m.toNat < Z.length) : (slF Z m i)[m.toNat]? = some i := by
  unfold slF
  rw [List.getElem?_set, if_pos rfl, if_pos (by rw [List.length_replicate]; exact h)]
theorem opD_step {F : List Int} {j : Nat} {f : Int} (h : F[j]? = some f) : opD (F.take (j + 1)) 0 = opD (F.take j) 0 ++ (if f = -1 then [(j : Int)] else []) := by
  have hj := (List.getElem?_eq_some_iff.1 h).1
  rw [take_snoc h, opD_snoc, List.length_take, Nat.min_eq_left (by omega), Int.zero_add]
theorem opD_le (F : List Int) : ∀ k, (opD F k).length ≤ F.length := by
  induction F with
  | nil => intro k; exact Nat.le_refl _
  | cons f g ih =>
    intro k
    have := ih (k + 1)
    unfold opD
    split <;> simp only [List.length_cons] <;> omega
set_option maxHeartbeats 16000000 in
theorem sMg_any (x y z : Option Addr) (c d e : Nat) (Z C D : List Int) (w : World) (h : CIn w x y Z C) (hD : IIn w z D) (hcZ : Z.length ≤ c) (hnZ : x = none → c = 0) (_ : C.length ≤ d) (_ : y = none → d = 0) :
    Calls Try.prog 33 #[.agg #[.slice x Z.length c, .slice y C.length d], .slice z D.length e] w (RetCu (mgR Z C D) (mgB Z C D) w) := by
  have hDh := Lib.hid hD
  have hDl := hD.1
  have hZl := h.1.1
  clear hD
  have hh := Lib.hid h
  clear h
  have t0n := Fr2.new w x Z.length c y C.length d
  obtain ⟨w0, hw0⟩ : ∃ w0, w0 = (w.alloc (.cells #[.slice x Z.length c, .slice y C.length d] 27)).alloc (.cells #[.slice none 0 0, .slice none 0 0] 27) := ⟨_, rfl⟩
  have B0 : Below w.heap.size w w0 := by rw [hw0]; exact (by repeat (first | exact Below.refl _ _ | assumption | refine Below.drew ?_ | refine below_drewN ?_ _ | refine Below.alloc' ?_ _ | (refine Below.setCell ?_ (by first | omega | (simp; done) | (simp; omega) | exact Below.size (by assumption) | exact Nat.le_trans (Below.size (by assumption)) (by simp)) _) | (refine Below.via' ?_ (by assumption)) | (refine Below.alloc ?_ (by first | omega | (simp; done) | (simp; omega) | exact Below.size (by assumption) | exact Nat.le_trans (Below.size (by assumption)) (by simp)) _) | (refine Below.via ?_ (by assumption) (by first | omega | (simp; done) | (simp; omega) | exact Below.size (by assumption) | exact Nat.le_trans (Below.size (by assumption)) (by simp)))))
  rw [← hw0] at t0n
  have t0 := Lib.hid t0n
  clear t0n
  go_enter Try.func33, Try.ntmps33
  go_wp2_with fail
  rw [← hw0]
  replace hw0 := Lib.hid hw0
  refine (cbGood_any _ _ _ _ Z C _ (hh.out.below B0)).mono ?_
  rintro e1 w1 ⟨rfl, hb1⟩
  have B1 : Below w.heap.size w w1 := Below.via' B0 hb1
  have t1 := Lib.hid (t0.out.below hb1)
  try clear a0a a0b a0c z0a z0b z0c z0d z0e
  clear hb1
  obtain ⟨⟨a1a, a1b, a1c⟩, zz1⟩ := t1.out
  have z1a := (zz1.read 0).trans rfl
  have z1b := (zz1.read 1).trans rfl
  have z1c := zz1.free 0
  have z1d := zz1.free 1
  have z1e := zz1.inside
  clear zz1
  cases hg1 : cgB Z C
  · have hv := Lib.hid (mg_no (mg_no1 D hg1))
    clear hg1
    go_wp2
    refine bodyPost_ret (v := .tuple #[.agg #[.slice none 0 0, .slice none 0 0], .bool false]) (by simp [results, Try.results33, go_sem, *]) rfl (retCu_no hv.out.1 hv.out.2 ?_)
    repeat (refine Below.setCell ?_ (by simp; try omega) _)
    exact B1
  have hgh := Lib.hid hg1
  have hfh := Lib.hid (cg_get hg1).1
  obtain ⟨f1, f2, f3⟩ := cf_get hfh.out
  have hcs := Lib.hid f1
  have hok := Lib.hid (cs_get f1).1
  have hcn := Lib.hid f2
  have h4 := okZ_len hok.out
  have hCl := cf_len hfh.out
  clear hg1 f1 f2 f3
  go_wp2_with fail
  refine (risingR_any _ _ Z.length D _ hZl (hDh.out.below B1)).mono ?_
  rintro e1 w2 ⟨rfl, hb2⟩
  have B2 : Below w.heap.size w w2 := Below.via' B1 hb2
  have t2 := Lib.hid (t1.out.below hb2)
  try clear a1a a1b a1c z1a z1b z1c z1d z1e
  clear hb2
  obtain ⟨⟨a2a, a2b, a2c⟩, zz2⟩ := t2.out
  have z2a := (zz2.read 0).trans rfl
  have z2b := (zz2.read 1).trans rfl
  have z2c := zz2.free 0
  have z2d := zz2.free 1
  have z2e := zz2.inside
  clear zz2
  cases hr : riU (Z.length : Int) 0 D
  · have hv := Lib.hid (mg_no (mg_no2 C hr))
    clear hr
    go_wp2
    refine bodyPost_ret (v := .tuple #[.agg #[.slice none 0 0, .slice none 0 0], .bool false]) (by simp [results, Try.results33, go_sem, *]) rfl (retCu_no hv.out.1 hv.out.2 ?_)
    repeat (refine Below.setCell ?_ (by simp; try omega) _)
    exact B2
  obtain ⟨m1, m2, m3⟩ := mg_all (okZ_nn hok.out) hr
  have hv := Lib.hid (mg_yes hgh.out hr)
  have hcall := cbFrom_any x y z x c d e c Z C (mgF Z D) Z w2 hcs.out hcn.out (hh.out.below B2) (by rw [m2]; exact (hDh.out.below B2).2.2) (hh.out.below B2).1 hcZ hnZ m1 m3 (ft_self (okZ_nn hok.out))
  rw [m2] at hcall
  have hcl := Lib.hid hcall
  have hz5 : w.heap.size + 1 < w2.heap.size := t2.out.2.inside
  clear hr m1 m2 m3 hcall
  go_wp2_with fail
  refine hcl.out.mono ?_
  rintro e5 w5 ⟨x5, c5, z5, d5, rfl, ho5, hb5⟩
  have t5 := Lib.hid (t2.out.below hb5)
  have B5 : Below w.heap.size w w5 := Below.via' B2 hb5
  have ho5h := Lib.hid ho5
  have z5a : w5.cell? ⟨w.heap.size + 1, 0, none⟩ = some (.slice none 0 0) := (t5.out.2.read 0).trans rfl
  have z5b : w5.cell? ⟨w.heap.size + 1, 1, none⟩ = some (.slice none 0 0) := (t5.out.2.read 1).trans rfl
  have z5c := t5.out.2.free 0
  have z5d := t5.out.2.free 1
  have z5e := t5.out.2.inside
  have hs5 := hb5.size
  have hs2 := B2.size
  dsimp only at ho5 ho5h
  clear hb5 ho5 a2a a2b a2c z2a z2b z2c z2d z2e
  go_wp2
  refine bodyPost_ret (v := .tuple #[.agg #[.slice x5 (opZ Z (mgF Z D)).length c5, .slice z5 (ctL Z (mgF Z D) C).length d5], .bool true]) (by simp [results, Try.results33, go_sem, *]) rfl ?_
  refine retCu_yes hv.out.1 hv.out.2 ?_ ?_
  · exact ((ho5h.out.aside _ _ (.inl (by show w.heap.size + 1 < w2.heap.size; omega))).aside _ _ (.inl (by show w.heap.size + 1 < w2.heap.size; omega))).more hs2 (by simp only [World.size_setCell]; exact Nat.le_refl _)
  · repeat (refine Below.setCell ?_ (by simp; try omega) _)
    exact B5
theorem iMg_x (x y z : Option Addr) (c d e : Nat) (Z C D : List Int) (w : World) (h : CIn w x y Z C) (hD : IIn w z D) (_ : Z.length ≤ c) (_ : x = none → c = 0) (_ : C.length ≤ d) (_ : y = none → d = 0) :
    Calls Try.prog 34 #[.agg #[.slice x Z.length c, .slice y C.length d], .slice z D.length e] w (RetCu (mgR Z C D) (mgB Z C D) w) := iMg_any x y z c d e Z C D w h hD
theorem iSl_x (x y : Option Addr) (c d : Nat) (Z C : List Int) (m i : Int) (w : World) (h : CIn w x y Z C) (_ : Z.length ≤ c) (_ : x = none → c = 0) (_ : C.length ≤ d) (_ : y = none → d = 0) :
    Calls Try.prog 36 #[.agg #[.slice x Z.length c, .slice y C.length d], .int .i64 m, .int .i64 i] w (RetCu (slR Z C m i) (slB Z C m i) w) := iSl_any x y c d Z C m i w h
theorem mgR_l1 {Z C D : List Int} (h : Z.length ≤ 1048576) : (mgR Z C D).1.length ≤ 1048576 := by
  unfold mgR
  split
  · exact cut_l1 Z _ h
  · simp
theorem slR_l1 {Z C : List Int} {m i : Int} (h : Z.length ≤ 1048576) : (slR Z C m i).1.length ≤ 1048576 := by
  unfold slR
  split
  · exact cut_l1 Z _ h
  · simp
theorem ctL_len {Z F C : List Int} (h : okF Z F) (hz : ∀ z ∈ Z, 0 ≤ z) (hl : (C.length : Int) = cnC Z) : (ctL Z F C).length ≤ C.length := by rw [← ctU_all h hz hl]; exact ctU_len _ _ _ _
theorem mgR_l2 {Z C D : List Int} (h : C.length ≤ 1048576) : (mgR Z C D).2.length ≤ 1048576 := by
  cases hb : mgB Z C D
  · rw [(mg_no hb).2]
    simp
  · unfold mgB at hb
    rw [Bool.and_eq_true] at hb
    rw [(mg_yes hb.1 hb.2).2]
    obtain ⟨f1, f2, -⟩ := cf_get (cg_get hb.1).1
    have hz := okZ_nn (cs_get f1).1
    have := ctL_len (C := C) (mg_all hz hb.2).1 hz f2
    show (ctL Z (mgF Z D) C).length ≤ _
    omega
theorem slR_l2 {Z C : List Int} {m i : Int} (h : C.length ≤ 1048576) : (slR Z C m i).2.length ≤ 1048576 := by
  cases hb : slB Z C m i
  · rw [(sl_no hb).2]
    simp
  · have hb0 := hb
    unfold slB at hb
    rw [Bool.and_eq_true, Bool.and_eq_true] at hb
    rw [(sl_yes hb.1 hb.2.1 hb.2.2).2]
    obtain ⟨f1, f2, -⟩ := cf_get (cg_get hb.1).1
    have hz := okZ_nn (cs_get f1).1
    obtain ⟨m1, m2⟩ := (inB_iff _ _ _).1 hb.2.1
    have hm : Z[m.toNat]? = some (Z[m.toNat]'(by omega)) := List.getElem?_eq_getElem _
    have hi := (inB_iff _ _ _).1 hb.2.2
    rw [getD_at hm] at hi
    have := ctL_len (C := C) (sl_all hm hi.1 hi.2).1 hz f2
    show (ctL Z (slF Z m i) C).length ≤ _
    omega
end Go.Proofs.Ytnmpigedhpdenaa

namespace Go.Proofs.Ytnmpigedhpdenaa
open Go.RowKit
set_option maxRecDepth 100000

set_option maxHeartbeats 16000000 in
theorem sSl_any (x y : Option Addr) (c d : Nat) (Z C : List Int) (m i : Int) (w : World) (h : CIn w x y Z C) (hcZ : Z.length ≤ c) (hnZ : x = none → c = 0) (_ : C.length ≤ d) (_ : y = none → d = 0) :
    Calls Try.prog 35 #[.agg #[.slice x Z.length c, .slice y C.length d], .int .i64 m, .int .i64 i] w (RetCu (slR Z C m i) (slB Z C m i) w) := by
  obtain ⟨i0, hii, hz0, hz1, hz2⟩ := info_parts Try.infoInt
  have hZl := h.1.1
  have hh := Lib.hid h
  clear h
  have t0n := Fr2.new w x Z.length c y C.length d
  obtain ⟨w0, hw0⟩ : ∃ w0, w0 = (w.alloc (.cells #[.slice x Z.length c, .slice y C.length d] 27)).alloc (.cells #[.slice none 0 0, .slice none 0 0] 27) := ⟨_, rfl⟩
  have B0 : Below w.heap.size w w0 := by rw [hw0]; exact (by repeat (first | exact Below.refl _ _ | assumption | refine Below.drew ?_ | refine below_drewN ?_ _ | refine Below.alloc' ?_ _ | (refine Below.setCell ?_ (by first | omega | (simp; done) | (simp; omega) | exact Below.size (by assumption) | exact Nat.le_trans (Below.size (by assumption)) (by simp)) _) | (refine Below.via' ?_ (by assumption)) | (refine Below.alloc ?_ (by first | omega | (simp; done) | (simp; omega) | exact Below.size (by assumption) | exact Nat.le_trans (Below.size (by assumption)) (by simp)) _) | (refine Below.via ?_ (by assumption) (by first | omega | (simp; done) | (simp; omega) | exact Below.size (by assumption) | exact Nat.le_trans (Below.size (by assumption)) (by simp)))))
  rw [← hw0] at t0n
  have t0 := Lib.hid t0n
  clear t0n
  go_enter Try.func35, Try.ntmps35
  go_wp2_with fail
  rw [← hw0]
  replace hw0 := Lib.hid hw0
  refine (cbGood_any _ _ _ _ Z C _ (hh.out.below B0)).mono ?_
  rintro e1 w1 ⟨rfl, hb1⟩
  have B1 : Below w.heap.size w w1 := Below.via' B0 hb1
  have t1 := Lib.hid (t0.out.below hb1)
  try clear a0a a0b a0c z0a z0b z0c z0d z0e
  clear hb1
  obtain ⟨⟨a1a, a1b, a1c⟩, zz1⟩ := t1.out
  have z1a := (zz1.read 0).trans rfl
  have z1b := (zz1.read 1).trans rfl
  have z1c := zz1.free 0
  have z1d := zz1.free 1
  have z1e := zz1.inside
  clear zz1
  cases hg1 : cgB Z C
  · have hv := Lib.hid (sl_no (sl_no1 m i hg1))
    clear hg1
    go_wp2
    refine bodyPost_ret (v := .tuple #[.agg #[.slice none 0 0, .slice none 0 0], .bool false]) (by simp [results, Try.results35, go_sem, *]) rfl (retCu_no hv.out.1 hv.out.2 ?_)
    repeat (refine Below.setCell ?_ (by simp; try omega) _)
    exact B1
  have hgh := Lib.hid hg1
  have hfh := Lib.hid (cg_get hg1).1
  obtain ⟨f1, f2, f3⟩ := cf_get hfh.out
  have hcs := Lib.hid f1
  have hok := Lib.hid (cs_get f1).1
  have hcn := Lib.hid f2
  have h4 := okZ_len hok.out
  have hCl := cf_len hfh.out
  clear hg1 f1 f2 f3
  go_wp2_with fail
  refine (l1In_any _ _ _ _).mono ?_
  rintro e1 w2 ⟨rfl, rfl⟩
  cases hr : inB m 0 ((Z.length : Int) - 1)
  · have hv := Lib.hid (sl_no (sl_no2 C i hr))
    clear hr
    go_wp2
    refine bodyPost_ret (v := .tuple #[.agg #[.slice none 0 0, .slice none 0 0], .bool false]) (by simp [results, Try.results35, go_sem, *]) rfl (retCu_no hv.out.1 hv.out.2 ?_)
    repeat (refine Below.setCell ?_ (by simp; try omega) _)
    exact B1
  have hrh := Lib.hid hr
  obtain ⟨m1, m2⟩ := (inB_iff _ _ _).1 hr
  obtain ⟨k, rfl⟩ : ∃ k : Nat, m = (k : Int) := ⟨m.toNat, by omega⟩
  have hkl : k < Z.length := by omega
  obtain ⟨bl, off, v, rfl, hbl, hZk, hc0⟩ := (hh.out.below B1).1.2.2.int hkl
  have hkl' : (k : Int) < (Z.length : Int) := by omega
  clear hr m2
  have hgd : Z.getD ((k : Int).toNat) 0 = v := by rw [Int.toNat_natCast, getD_at hZk]
  replace hZk := Lib.hid hZk
  go_wp2_with fail
  refine (l1In_any _ _ _ _).mono ?_
  rintro e1 w2 ⟨rfl, rfl⟩
  cases hin : inB i 0 v
  · have hv := Lib.hid (sl_no (sl_no3 (m := (k : Int)) C (by rw [hgd]; exact hin)))
    clear hin hgd
    go_wp2
    refine bodyPost_ret (v := .tuple #[.agg #[.slice none 0 0, .slice none 0 0], .bool false]) (by simp [results, Try.results35, go_sem, *]) rfl (retCu_no hv.out.1 hv.out.2 ?_)
    repeat (refine Below.setCell ?_ (by simp; try omega) _)
    exact B1
  have hio := (inB_iff _ _ _).1 hin
  have hsa := sl_all (Z := Z) (m := (k : Int)) (by rw [Int.toNat_natCast]; exact hZk.out) hio.1 hio.2
  have hF1 := Lib.hid hsa.1
  have hF2 := Lib.hid hsa.2
  have hFl := Lib.hid (slF_len Z (k : Int) i)
  have hv := Lib.hid (sl_yes hgh.out hrh.out (by rw [hgd]; exact hin))
  have hoh := Lib.hid hio
  have hdl := Lib.hid (opD_le (slF Z (k : Int) i) 0)
  obtain ⟨F, hF⟩ : ∃ F, F = slF Z (k : Int) i := ⟨_, rfl⟩
  have hg2 := Lib.hid (fun (j : Nat) (h1 : j < Z.length) (h2 : j ≠ k) => (by rw [hF]; exact slF_get h1 (by rwa [Int.toNat_natCast]) : F[j]? = some (-1)))
  have hg3 := Lib.hid (show F[k]? = some i by rw [hF]; have := slF_get2 (Z := Z) (m := (k : Int)) (i := i) (by rwa [Int.toNat_natCast]); rwa [Int.toNat_natCast] at this)
  rw [← hF] at hF1 hF2 hFl hv hdl
  replace hF := Lib.hid hF
  clear hin hgd hio hsa
  have hl1 : w.heap.size + 1 < w1.heap.size := t1.out.2.inside
  obtain ⟨w2, hw2⟩ : ∃ u : World, u = w1 := ⟨_, rfl⟩
  go_wp2
  clear a1a a1b a1c z1a z1b z1c z1d z1e
  go_loopw [8, 37] (fun u q wr => ∃ j : Nat, j ≤ Z.length ∧ q = .int .i64 j ∧ Hid (wr.ownsRow w1.heap.size 3 1 u (opD (F.take j) 0).length (iC (opD (F.take j) 0))) ∧ Hid (Fr2 wr w.heap.size (some ⟨bl, off, none⟩) Z.length c y C.length d) ∧ Below w.heap.size w wr ∧ w1.heap.size ≤ wr.heap.size) (fun _ q _ => Z.length - (intOf q).toNat)
  case atStart => exact ⟨0, by omega, by go_num, World.ownsRow_nil _ _ _ _, t1.out, B1, Nat.le_refl _⟩
  case round =>
    clear t1 B1 hw2
    obtain ⟨j, hj, rfl, ho, tr, hB, hsz⟩ := hrel
    obtain ⟨⟨ara, arb, arc⟩, -⟩ := tr.out
    by_cases hlt : j < Z.length
    · have hlt' : (j : Int) < (Z.length : Int) := by omega
      by_cases hjk : j = k
      · subst hjk
        have hst : opD (F.take (j + 1)) 0 = opD (F.take j) 0 := by rw [opD_step hg3.out, if_neg (by have := hoh.out; omega), List.append_nil]
        have hsn := Lib.hid hst
        clear hst
        go_wp2
        go_roundw
        case rel => exact ⟨j + 1, by omega, by go_num, (by rw [hsn.out]; exact ho), tr, hB, hsz⟩
        case measure => simp [intOf]; omega
      · have hst : opD (F.take (j + 1)) 0 = opD (F.take j) 0 ++ [(j : Int)] := by rw [opD_step (hg2.out j hlt hjk), if_pos rfl]
        have hsn := Lib.hid hst
        have hjk2 : ¬ (j : Int) = (k : Int) := by omega
        have hLl : (opD (F.take j) 0).length ≤ 4 := by have := opD_le (F.take j) 0; rw [List.length_take] at this; omega
        obtain ⟨L, hL⟩ : ∃ L, L = opD (F.take j) 0 := ⟨_, rfl⟩
        rw [← hL] at ho hsn hLl
        replace hL := Lib.hid hL
        clear hst
        go_wp2_with (at_builtin; go_loud (refine wpList_append_rd _ rfl (.tmp 43) (.tmp 45) 22 rfl w1.heap.size 3 i0 (.int .i64 0) 1 8 Try.underlying22 hii hz0 hz1 hz2 rfl (by decide) _ L.length (iC L) rfl (ho.out.alloc _) _ 1 1 rfl (Nat.le_refl _) (by intro h; cases h) (iC [(j : Int)]) rfl (rd_oneN _ _ _ _ (by simp)) (iC_one _) (by unfold maxLen; omega) (by omega) (by simp; omega) ?_); intro v3 w3 hown3 hgrow3 hwhere3)
        obtain ⟨hb3, hl3⟩ := append_below hB (fun k hk => by have := (ho.out.lt k hk).1; omega) hgrow3 hwhere3
        have ho3 := Lib.hid (own_snocN (M := opD (F.take (j + 1)) 0) hown3 hsn.out rfl)
        have tr3 := Lib.hid ((tr.out.below ((Below.refl _ _).alloc (Nat.le_refl _) (.cells #[.int .i64 (j : Int)] 3))).grown hgrow3 (fun q hq => by have := (ho.out.lt q hq).1; omega))
        have hs3 : w1.heap.size ≤ w3.heap.size := by have := hgrow3.size; simp at this; omega
        clear hgrow3 hwhere3 hown3 ara arb arc
        go_wp2
        go_roundw
        case rel => exact ⟨j + 1, by omega, by go_num, ho3, tr3, hb3, hs3⟩
        case measure => simp [intOf]; omega
    · have hij : j = Z.length := by omega
      subst hij
      rw [show F.take Z.length = F from List.take_of_length_le (by have := hFl.out; omega)] at ho
      obtain ⟨xD, cD, hu, -, -⟩ := (OwR.of ho.out).form
      subst hu
      have hsw := hB.size
      go_wp2_with fail
      refine (l1Own_any _ c Z _ hZl hcZ hnZ (hh.out.below hB).1.2.2).mono ?_
      rintro e w3 ⟨v9, rfl, ho9, hb3⟩
      obtain ⟨x9, c9, rfl, hle9, -⟩ := (OwR.of ho9).form
      obtain ⟨g9, c92, he⟩ := own_some ho9 (by omega)
      cases he
      obtain ⟨u2, hu2, k0⟩ := own_cell ho9 (j := k) (by omega)
      have k2 := ho9.frozenAt k
      have k4 := (own_lt ho9).2
      have k5 := (own_lt ho9).1
      have hL2 : Hid ((w3.setCell ⟨g9, k, none⟩ (.int .i64 i)).ownsRow wr.heap.size 3 1 (.slice (some ⟨g9, 0, none⟩) Z.length c9) Z.length (iC (Z.set k i))) := by
        have h5 := (ho9.stored k (.int .i64 i)).1
        rw [← iC_setA] at h5
        exact h5
      obtain ⟨w4, hw4⟩ : ∃ w4, w4 = w3.setCell ⟨g9, k, none⟩ (.int .i64 i) := ⟨_, rfl⟩
      have hbw : Below wr.heap.size wr w4 := by rw [hw4]; exact Below.setCell (p := ⟨g9, k, none⟩) hb3 (by show wr.heap.size ≤ g9; omega) _
      have B4 : Below w.heap.size w w4 := Below.via' hB hbw
      have t4 := Lib.hid (tr.out.below hbw)
      have hD4 := Lib.hid (own_below ho.out hbw)
      have hk0 : (0 : Int) ≤ (k : Int) := by omega
      rw [← hw4] at hL2
      have hRG : Rd w4 (some ⟨g9, 0, none⟩) (iC (Z.set k i)) := Rd.of_own hL2.out
      have hIG : IIn w4 (some ⟨g9, 0, none⟩) (Z.set k i) := ⟨by rw [List.length_set]; exact hZl, fun n hn => by
        rcases List.mem_or_eq_of_mem_set hn with h9 | rfl
        · exact hh.out.1.2.1 n h9
        · have := hoh.out
          have := okZ_mem hok.out (List.mem_of_getElem? hZk.out)
          unfold IsI64
          omega, hRG⟩
      have hcall := cbFrom_any (some ⟨bl, off, none⟩) y xD (some ⟨g9, 0, none⟩) c d cD c9 Z C F (Z.set k i) w4 hcs.out hcn.out (hh.out.below B4) (Rd.of_own hD4.out) hIG (by rw [List.length_set]; exact hle9) (by intro h9; cases h9) hF1.out (by have h9 := hF2.out; rwa [Int.toNat_natCast] at h9) ((ft_self (okZ_nn hok.out)).set hZk.out hoh.out.1 hoh.out.2)
      rw [List.length_set] at hcall
      have hcl := Lib.hid hcall
      have hz5 : w.heap.size + 1 < w4.heap.size := t4.out.2.inside
      have hw4h := Lib.hid hw4
      obtain ⟨⟨a4a, a4b, a4c⟩, -⟩ := t4.out
      obtain ⟨a3a, a3b, a3c⟩ := tr.out.1.below hb3
      have hgne : w.heap.size ≠ g9 := by omega
      clear hcall hRG hIG hu2
      go_wp2_with fail
      rw [← hw4]
      clear hw4
      refine hcl.out.mono ?_
      rintro e5 w5 ⟨x5, c5, z5, d5, rfl, ho5, hb5⟩
      have t5 := Lib.hid (t4.out.below hb5)
      have B5 : Below w.heap.size w w5 := Below.via' B4 hb5
      have ho5h := Lib.hid ho5
      have z5a : w5.cell? ⟨w.heap.size + 1, 0, none⟩ = some (.slice none 0 0) := (t5.out.2.read 0).trans rfl
      have z5b : w5.cell? ⟨w.heap.size + 1, 1, none⟩ = some (.slice none 0 0) := (t5.out.2.read 1).trans rfl
      have z5c := t5.out.2.free 0
      have z5d := t5.out.2.free 1
      have z5e := t5.out.2.inside
      have hs5 := hb5.size
      have hs2 := B4.size
      dsimp only at ho5 ho5h
      clear hb5 ho5 a4a a4b a4c a3a a3b a3c
      go_wp2
      refine bodyPost_ret (v := .tuple #[.agg #[.slice x5 (opZ Z F).length c5, .slice z5 (ctL Z F C).length d5], .bool true]) (by simp [results, Try.results35, go_sem, *]) rfl ?_
      refine retCu_yes hv.out.1 (by rw [hv.out.2, hF.out]) ?_ ?_
      · exact ((ho5h.out.aside _ _ (.inl (by show w.heap.size + 1 < w4.heap.size; omega))).aside _ _ (.inl (by show w.heap.size + 1 < w4.heap.size; omega))).more hs2 (by simp only [World.size_setCell]; exact Nat.le_refl _)
      · repeat (refine Below.setCell ?_ (by simp; try omega) _)
        exact B5
end Go.Proofs.Ytnmpigedhpdenaa
