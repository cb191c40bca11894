/-
  The model's draws of chapter 4 that the laws take; the laws' own comparison of lists.
-/
import Derived.Test.YtmefkknkahmihaaDrwA
namespace Go.Proofs.Ytmefkknkahmihaa
open Go.RowKit
set_option maxRecDepth 100000

def AreaPost (b : Nat) (x : Option Addr) (n cap k : Nat) (w : World) (e : Ending) (w' : World) : Prop :=
  ∃ (v : Int) (k' : Nat), e = .returned (.int .i64 v) ∧ -1 ≤ v ∧ v ≤ 40 ∧ k ≤ k' ∧ k' ≤ k + 4 ∧ CurAt w' b x n cap k' ∧ w.grownBy w' (some b)
set_option maxHeartbeats 2000000 in
theorem anArea_any (b : Nat) (x : Option Addr) (n cap k : Nat) (z : Option Addr) (len cz : Nat) (w : World) (hk : k + 300 ≤ 1000000000000) (hl : len ≤ 31) (hC : CurAt w b x n cap k) (hB : ByRd w x n) :
    Calls Try.prog 24 #[.pointer (some ⟨b, 0, none⟩), .agg #[.slice z len cz]] w (AreaPost b x n cap k w) := by
  have hap := Lib.hid hC.apart
  have C0 := Lib.hid (hC.alloc (.cells #[.slice z len cz] 26))
  have B0 := Lib.hid (hB.alloc (.cells #[.slice z len cz] 26))
  have G0 := Lib.hid (grown_alloc (grown_refl w (some b)) (.cells #[.slice z len cz] 26))
  clear hC hB
  go_enter Try.func24, Try.ntmps24
  go_wp2_with fail
  refine (pick_any b x n cap k ((len : Int) + 1) _ (by omega) (by omega) (by omega) C0.out B0.out).mono ?_
  rintro e w1 ⟨p, k1, rfl, p0, p1, ka, kb, hC1, hg1⟩
  have G1 := Lib.hid (grown_trans G0.out hg1)
  have B1 := Lib.hid (B0.out.grown hg1 hap.out)
  replace hC1 := Lib.hid hC1
  clear C0 B0 G0 hg1
  go_wp2_with fail
  refine (pick_any b x n cap k1 20 _ (by omega) (by omega) (by omega) hC1.out B1.out).mono ?_
  rintro e w2 ⟨q, k2, rfl, q0, q1, kc, kd, hC2, hg2⟩
  have G2 := Lib.hid (grown_trans G1.out hg2)
  have t1 : q.tdiv 19 = q / 19 := Int.tdiv_eq_ediv_of_nonneg q0
  have t2 : 0 ≤ q / 19 ∧ q / 19 ≤ 1 := by omega
  obtain ⟨t2, t3⟩ := t2
  replace hC2 := Lib.hid hC2
  clear hg2 hC1 B1 G1
  go_wp2_with fail
  go_ret
  exact ⟨_, k2, rfl, by omega, by omega, by omega, by omega, hC2.out, G2.out⟩

/-- What the draw of a geography and an area hands back. -/
def DdpPost (w : World) (e : Ending) (w' : World) : Prop :=
  ∃ (L : List Int) (z : Option Addr) (cz : Nat) (i : Int), e = .returned (.tuple #[.agg #[.slice z L.length cz], .int .i64 i]) ∧ GeL L ∧ L.length ≤ 31 ∧ L.length ≤ cz ∧ (z = none → cz = 0) ∧ -1 ≤ i ∧ i ≤ 40 ∧ (∀ c off, z = some ⟨c, off, none⟩ → w.heap.size ≤ c) ∧ Rd w' z (iC L) ∧ Below w.heap.size w w'
set_option maxHeartbeats 4000000 in
theorem drawDP_any (x : Option Addr) (n cap : Nat) (w : World) (hx : 0 < n → ∀ c off, x = some ⟨c, off, none⟩ → c < w.heap.size) (hB : ByRd w x n) :
    Calls Try.prog 16 #[.slice x n cap] w (DdpPost w) := by
  have hx2 := Lib.hid hx
  have hB2 := Lib.hid hB
  clear hx hB
  have bw : Below w.heap.size w ((w.alloc (.cells #[.slice none 0 0] 26)).alloc (Obj.cells #[Value.slice x n cap, Value.int IntKind.i64 0, Value.int IntKind.u64 0] 46)) := ((Below.refl _ _).alloc (Nat.le_refl _) _).alloc (by simp) _
  have C0 := Lib.hid (show CurAt ((w.alloc (.cells #[.slice none 0 0] 26)).alloc (Obj.cells #[Value.slice x n cap, Value.int IntKind.i64 0, Value.int IntKind.u64 0] 46)) (w.heap.size + 1) x n cap 0 from ⟨0, by go_simp, by go_simp, by go_simp, by go_simp, by go_simp, by simp, fun h0 c off e => by have := hx2.out h0 c off e; omega⟩)
  have R0 := Lib.hid (wb_grown (Wb.new w 26 #[.slice none 0 0]) (World.grownBy_alloc _ (Obj.cells #[Value.slice x n cap, Value.int IntKind.i64 0, Value.int IntKind.u64 0] 46) none) (by intro j hj; cases hj))
  have hap := Lib.hid C0.out.apart
  have D0 := Lib.hid (hB2.out.below bw)
  go_enter Try.func16, Try.ntmps16
  go_wp2_with fail
  refine (anyGeo_any (w.heap.size + 1) x n cap 0 _ (by omega) C0.out D0.out).mono ?_
  rintro e w1 ⟨L, v, k1, rfl, hI, -, hL, ka, kb, hown, hC1, hg1⟩
  obtain ⟨z, cz, rfl, hcz, hzn⟩ := own_form hown
  have hzc : Hid (∀ c off, z = some ⟨c, off, none⟩ → w.heap.size + 2 ≤ c) := fun c off e => by
    have h2 := (hown.lt c (by rw [e]; rfl)).1
    simp at h2
    omega
  have hs1 := hg1.size
  simp only [World.size_alloc] at hs1
  have S2 := Lib.hid ((Rd.of_own hown).alloc (.cells #[.slice z L.length cz] 26))
  have R2 := Lib.hid (wb_grown (wb_grown R0.out hg1 (fun j hj => by injection hj with hj; omega)) (World.grownBy_alloc w1 (.cells #[.slice z L.length cz] 26) none) (by intro j hj; cases hj))
  have V2 := Lib.hid (Wb.new w1 26 #[.slice z L.length cz])
  have C2 := Lib.hid (show CurAt (w1.alloc (.cells #[.slice z L.length cz] 26)).drew (w.heap.size + 1) x n cap k1 from hC1.alloc (.cells #[.slice z L.length cz] 26))
  have D2 := Lib.hid (ByRd.drewW ((D0.out.grown hg1 hap.out).alloc (.cells #[.slice z L.length cz] 26)))
  have G2 := Lib.hid (grown_alloc hg1 (.cells #[.slice z L.length cz] 26))
  have c0 := V2.out.read 0
  have cr0 := R2.out.read 0
  have fr0 := R2.out.free 0
  replace hI := Lib.hid hI
  replace hzn := Lib.hid hzn
  clear hown R0 hC1 hg1
  go_wp2_with fail
  go_region_law (first
    | (go_simp; go_at_call 24; refine (anArea_any (w.heap.size + 1) x n cap k1 z L.length cz _ (by omega) (by omega) C2.out D2.out).mono ?_; rintro e w4 ⟨i, k4, rfl, i0, i1, ke, kf, hC4, hg4⟩; (have hg4 := drew_back hg4); (have V4 := Lib.hid (wb_grown V2.out hg4 (fun j hj => by injection hj with hj; omega))); (have R4 := Lib.hid (wb_grown R2.out hg4 (fun j hj => by injection hj with hj; omega))); (have c40 := V4.out.read 0); (have r40 := R4.out.read 0); (have f40 := R4.out.free 0); (have hs4 := V4.out.inside); (have S4 := Lib.hid (S2.out.keep hg4 (fun c off e q => by injection q with q; have := hzc.out c off e; omega))); (have G4 := Lib.hid (grown_trans G2.out hg4)); clear hC4 hg4)
    )
  all_goals
    have hb := Lib.hid (below_of_grown bw G4.out (by omega))
    go_wp2_with fail
    refine bodyPost_ret (v := .tuple #[.agg #[.slice z L.length cz], .int .i64 i]) (by simp [results, Try.results16, go_sem, *]) rfl ?_
    exact ⟨L, z, cz, i, rfl, hI.out, hL, hcz, hzn.out, i0, i1, (fun c off e => by have := hzc.out c off e; omega), S4.out.keep (grown_setP _ ⟨w.heap.size, 0, none⟩ _) (fun c off e q => by injection q with q; have := hzc.out c off e; have q' : c = w.heap.size := q; omega), hb.out.setCell (p := ⟨w.heap.size, 0, none⟩) (Nat.le_refl _) _⟩

def DmoPost (w : World) (e : Ending) (w' : World) : Prop :=
  ∃ (L : List Int) (z : Option Addr) (cz : Nat) (i j : Int), e = .returned (.tuple #[.agg #[.slice z L.length cz], .int .i64 i, .int .i64 j]) ∧ GeL L ∧ L.length ≤ 31 ∧ L.length ≤ cz ∧ (z = none → cz = 0) ∧ -1 ≤ i ∧ i ≤ 40 ∧ -1 ≤ j ∧ j ≤ 40 ∧ Rd w' z (iC L) ∧ Below w.heap.size w w'
set_option maxHeartbeats 4000000 in
theorem drawMO_any (x : Option Addr) (n cap : Nat) (w : World) (hx : 0 < n → ∀ c off, x = some ⟨c, off, none⟩ → c < w.heap.size) (hB : ByRd w x n) :
    Calls Try.prog 11 #[.slice x n cap] w (DmoPost w) := by
  have hx2 := Lib.hid hx
  have hB2 := Lib.hid hB
  clear hx hB
  have bw : Below w.heap.size w ((w.alloc (.cells #[.slice none 0 0] 26)).alloc (Obj.cells #[Value.slice x n cap, Value.int IntKind.i64 0, Value.int IntKind.u64 0] 46)) := ((Below.refl _ _).alloc (Nat.le_refl _) _).alloc (by simp) _
  have C0 := Lib.hid (show CurAt ((w.alloc (.cells #[.slice none 0 0] 26)).alloc (Obj.cells #[Value.slice x n cap, Value.int IntKind.i64 0, Value.int IntKind.u64 0] 46)) (w.heap.size + 1) x n cap 0 from ⟨0, by go_simp, by go_simp, by go_simp, by go_simp, by go_simp, by simp, fun h0 c off e => by have := hx2.out h0 c off e; omega⟩)
  have R0 := Lib.hid (wb_grown (Wb.new w 26 #[.slice none 0 0]) (World.grownBy_alloc _ (Obj.cells #[Value.slice x n cap, Value.int IntKind.i64 0, Value.int IntKind.u64 0] 46) none) (by intro j hj; cases hj))
  have hap := Lib.hid C0.out.apart
  have D0 := Lib.hid (hB2.out.below bw)
  go_enter Try.func11, Try.ntmps11
  go_wp2_with fail
  refine (anyGeo_any (w.heap.size + 1) x n cap 0 _ (by omega) C0.out D0.out).mono ?_
  rintro e w1 ⟨L, v, k1, rfl, hI, -, hL, ka, kb, hown, hC1, hg1⟩
  obtain ⟨z, cz, rfl, hcz, hzn⟩ := own_form hown
  have hzc : Hid (∀ c off, z = some ⟨c, off, none⟩ → w.heap.size + 2 ≤ c) := fun c off e => by
    have h2 := (hown.lt c (by rw [e]; rfl)).1
    simp at h2
    omega
  have hs1 := hg1.size
  simp only [World.size_alloc] at hs1
  have S2 := Lib.hid ((Rd.of_own hown).alloc (.cells #[.slice z L.length cz] 26))
  have R2 := Lib.hid (wb_grown (wb_grown R0.out hg1 (fun j hj => by injection hj with hj; omega)) (World.grownBy_alloc w1 (.cells #[.slice z L.length cz] 26) none) (by intro j hj; cases hj))
  have V2 := Lib.hid (Wb.new w1 26 #[.slice z L.length cz])
  have C2 := Lib.hid (show CurAt (w1.alloc (.cells #[.slice z L.length cz] 26)).drew (w.heap.size + 1) x n cap k1 from hC1.alloc (.cells #[.slice z L.length cz] 26))
  have D2 := Lib.hid (ByRd.drewW ((D0.out.grown hg1 hap.out).alloc (.cells #[.slice z L.length cz] 26)))
  have G2 := Lib.hid (grown_alloc hg1 (.cells #[.slice z L.length cz] 26))
  have c0 := V2.out.read 0
  have cr0 := R2.out.read 0
  have fr0 := R2.out.free 0
  replace hI := Lib.hid hI
  replace hzn := Lib.hid hzn
  clear hown R0 hC1 hg1
  go_wp2_with fail
  go_region_law (first
    | (go_simp; go_at_call 24; refine (anArea_any (w.heap.size + 1) x n cap k1 z L.length cz _ (by omega) (by omega) C2.out D2.out).mono ?_; rintro e w4 ⟨i, k4, rfl, i0, i1, ke, kf, hC4, hg4⟩; (have hg4 := drew_back hg4); (have V4 := Lib.hid (wb_grown V2.out hg4 (fun j hj => by injection hj with hj; omega))); (have R4 := Lib.hid (wb_grown R2.out hg4 (fun j hj => by injection hj with hj; omega))); (have c40 := V4.out.read 0); (have r40 := R4.out.read 0); (have f40 := R4.out.free 0); (have hs4 := V4.out.inside); (have S4 := Lib.hid (S2.out.keep hg4 (fun c off e q => by injection q with q; have := hzc.out c off e; omega))); (have G4 := Lib.hid (grown_trans G2.out hg4)); (have C4 := Lib.hid hC4); (have D4 := Lib.hid (ByRd.grown (w := w1.alloc (.cells #[.slice z L.length cz] 26)) D2.out hg4 hap.out)); clear hC4 hg4)
    | (go_simp; go_at_call 24; refine (anArea_any (w.heap.size + 1) x n cap k4 z L.length cz _ (by omega) (by omega) C4.out D4.out).mono ?_; rintro e w5 ⟨j, k5, rfl, j0, j1, kg, kh, hC5, hg5⟩; (have V5 := Lib.hid (wb_grown V4.out hg5 (fun j hj => by injection hj with hj; omega))); (have R5 := Lib.hid (wb_grown R4.out hg5 (fun j hj => by injection hj with hj; omega))); (have c50 := V5.out.read 0); (have r50 := R5.out.read 0); (have f50 := R5.out.free 0); (have hs5 := V5.out.inside); (have S5 := Lib.hid (S4.out.keep hg5 (fun c off e q => by injection q with q; have := hzc.out c off e; omega))); (have G5 := Lib.hid (grown_trans G4.out hg5)); clear hC5 hg5)
    )
  all_goals
    have hb := Lib.hid (below_of_grown bw G5.out (by omega))
    go_wp2_with fail
    refine bodyPost_ret (v := .tuple #[.agg #[.slice z L.length cz], .int .i64 i, .int .i64 j]) (by simp [results, Try.results11, go_sem, *]) rfl ?_
    exact ⟨L, z, cz, i, j, rfl, hI.out, hL, hcz, hzn.out, i0, i1, j0, j1, S5.out.keep (grown_setP _ ⟨w.heap.size, 0, none⟩ _) (fun c off e q => by injection q with q; have := hzc.out c off e; have q' : c = w.heap.size := q; omega), hb.out.setCell (p := ⟨w.heap.size, 0, none⟩) (Nat.le_refl _) _⟩

set_option maxHeartbeats 4000000 in
theorem drawPT_any (x : Option Addr) (n cap : Nat) (w : World) (hx : 0 < n → ∀ c off, x = some ⟨c, off, none⟩ → c < w.heap.size) (hB : ByRd w x n) :
    Calls Try.prog 5 #[.slice x n cap] w (DdpPost w) := by
  have hx2 := Lib.hid hx
  have hB2 := Lib.hid hB
  clear hx hB
  have bw : Below w.heap.size w (w.alloc (.cells #[.slice none 0 0] 26)) := (Below.refl _ _).alloc (Nat.le_refl _) _
  have R0 := Lib.hid (Wb.new w 26 #[.slice none 0 0])
  go_enter Try.func5, Try.ntmps5
  go_wp2_with fail
  refine (drawDP_any x n cap _ (fun h0 c off e => by have := hx2.out h0 c off e; simp; omega) (hB2.out.below bw)).mono ?_
  rintro e w1 ⟨L, z, cz, i, rfl, hI, hL, hcz, hzn, i0, i1, hzc, hR, hb1⟩
  have hz := hb1.size
  simp only [World.size_alloc] at hz hzc
  have R1 := R0.out.kept hb1
  have r0 := R1.read 0
  have f0 := R1.free 0
  have hb2 : Below w.heap.size w w1 := (by repeat (first | exact Below.refl _ _ | assumption | refine Below.drew ?_ | refine below_drewN ?_ _ | refine Below.alloc' ?_ _ | (refine Below.setCell ?_ (by first | omega | (simp; done) | (simp; omega) | exact Below.size (by assumption) | exact Nat.le_trans (Below.size (by assumption)) (by simp)) _) | (refine Below.via' ?_ (by assumption)) | (refine Below.alloc ?_ (by first | omega | (simp; done) | (simp; omega) | exact Below.size (by assumption) | exact Nat.le_trans (Below.size (by assumption)) (by simp)) _) | (refine Below.via ?_ (by assumption) (by first | omega | (simp; done) | (simp; omega) | exact Below.size (by assumption) | exact Nat.le_trans (Below.size (by assumption)) (by simp)))))
  replace hb2 := Lib.hid hb2
  replace hI := Lib.hid hI
  replace hzn := Lib.hid hzn
  replace hzc := Lib.hid hzc
  replace hR := Lib.hid hR
  clear R1 hb1 bw R0
  go_wp2_with fail
  refine bodyPost_ret (v := .tuple #[.agg #[.slice z L.length cz], .int .i64 i]) (by simp [results, Try.results5, go_sem, *]) rfl ?_
  exact ⟨L, z, cz, i, rfl, hI.out, hL, hcz, hzn.out, i0, i1, (fun c off e => by have := hzc.out c off e; omega), hR.out.keep (grown_setP _ ⟨w.heap.size, 0, none⟩ _) (fun c off e q => by injection q with q; have := hzc.out c off e; have q' : c = w.heap.size := q; omega), hb2.out.setCell (p := ⟨w.heap.size, 0, none⟩) (Nat.le_refl _) _⟩

set_option maxHeartbeats 1000000 in
theorem sameInts_any (x y : Option Addr) (c1 c2 : Nat) (L : List Int) (w : World) (hm : L.length ≤ 1048576) (hx : Rd w x (iC L)) (hy : Rd w y (iC L)) :
    Calls Try.prog 8 #[.slice x L.length c1, .slice y L.length c2] w fun e w' => e = .returned (.bool true) ∧ Below w.heap.size w w' := by
  go_enter Try.func8, Try.ntmps8
  go_wp2
  go_loopw [13] (fun c wr => ∃ i : Nat, i ≤ L.length ∧ c = .int .i64 i ∧ Below w.heap.size w wr) (fun c _ => L.length - (intOf c).toNat)
  case atStart => exact ⟨0, by omega, rfl, Below.refl _ _⟩
  case round =>
    obtain ⟨i, hi, rfl, hb⟩ := hrel
    by_cases hlt : i < L.length
    · obtain ⟨bl, off, v, rfl, hbl, hLv, hc0⟩ := (hx.below hb).int hlt
      obtain ⟨bl2, off2, v2, rfl, hbl2, hLv2, hc2⟩ := (hy.below hb).int hlt
      have e : v2 = v := Option.some.inj (hLv2.symm.trans hLv)
      subst e
      clear hLv hLv2
      have hlt' : (i : Int) < (L.length : Int) := by omega
      have hi0 : (0 : Int) ≤ (i : Int) := by omega
      clear hx hy
      go_wp2
      go_quiet (fail)
      go_wp2
      go_roundw
      case rel => exact ⟨i + 1, by omega, by go_num, (by repeat (first | exact Below.refl _ _ | assumption | refine Below.drew ?_ | refine below_drewN ?_ _ | refine Below.alloc' ?_ _ | (refine Below.setCell ?_ (by first | omega | (simp; done) | (simp; omega) | exact Below.size (by assumption) | exact Nat.le_trans (Below.size (by assumption)) (by simp)) _) | (refine Below.via' ?_ (by assumption)) | (refine Below.alloc ?_ (by first | omega | (simp; done) | (simp; omega) | exact Below.size (by assumption) | exact Nat.le_trans (Below.size (by assumption)) (by simp)) _) | (refine Below.via ?_ (by assumption) (by first | omega | (simp; done) | (simp; omega) | exact Below.size (by assumption) | exact Nat.le_trans (Below.size (by assumption)) (by simp)))))⟩
      case measure => simp [intOf]; omega
    · have hij : i = L.length := by omega
      subst hij
      clear hx hy
      go_wp2
      go_ret
      exact ⟨rfl, hb⟩
theorem big_any (x y : Option Addr) (n1 n2 c1 c2 : Nat) (w : World) (h1 : n1 ≤ 9223372036854775807) (h2 : n2 ≤ 9223372036854775807) :
    Calls Try.prog 4 #[.slice x n1 c1, .slice y n2 c2] w fun e w' => e = .returned (.bool (decide (1048576 < n1 + n2))) ∧ w = w' := by
  by_cases ha : 1048576 < n1
  · have hv : Hid (decide (1048576 < n1 + n2) = true) := by unfold Hid; exact decide_eq_true (by omega)
    have ha' : (1048576 : Int) < (n1 : Int) := by omega
    go_enter Try.func4, Try.ntmps4
    go_wp2
    go_ret
    exact ⟨by first | (rw [hv.out]; rfl) | rfl | simp, rfl⟩
  · have ha' : ¬ (1048576 : Int) < (n1 : Int) := by omega
    have hs : IntKind.i64.wrap (1048576 - (n1 : Int)) = 1048576 - (n1 : Int) := IntWalk.i64_in _ (by omega)
    by_cases hc : 1048576 < n1 + n2
    · have hv : Hid (decide (1048576 < n1 + n2) = true) := by unfold Hid; exact decide_eq_true hc
      have hc' : 1048576 - (n1 : Int) < (n2 : Int) := by omega
      go_enter Try.func4, Try.ntmps4
      go_wp2
      go_ret
      exact ⟨by first | (rw [hv.out]; rfl) | rfl | simp, rfl⟩
    · have hv : Hid (decide (1048576 < n1 + n2) = false) := by unfold Hid; exact decide_eq_false hc
      have hc' : ¬ 1048576 - (n1 : Int) < (n2 : Int) := by omega
      go_enter Try.func4, Try.ntmps4
      go_wp2
      go_ret
      exact ⟨by first | (rw [hv.out]; rfl) | rfl | simp, rfl⟩
end Go.Proofs.Ytmefkknkahmihaa
