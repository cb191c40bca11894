/-
  The model's draws of chapter 2 that FnSchemas takes.
-/
import Derived.Test.YtcmfoclalcmamabGreatDoorDrwG
namespace Go.Proofs.YtcmfoclalcmamabGreatDoor
open Go.RowKit
set_option maxRecDepth 100000

def DcPost (w : World) (e : Ending) (w' : World) : Prop :=
  ∃ (S : List (ByteArray × Int)) (z : Option Addr) (cz : Nat) (i : Int), e = .returned (.tuple #[.slice z S.length cz, .int .i64 i]) ∧ DrS S ∧ S.length ≤ cz ∧ -1 ≤ i ∧ i ≤ 4782969 ∧ Rd w' z (vC S) ∧ Below w.heap.size w w'
set_option maxHeartbeats 4000000 in
theorem drawCA_any (x : Option Addr) (n cap : Nat) (w : World) (hx : 0 < n → ∀ c off, x = some ⟨c, off, none⟩ → c < w.heap.size) (hB : ByRd w x n) :
    Calls Tryz.prog 6 #[.slice x n cap] w (DcPost w) := by
  have hx2 := Lib.hid hx
  have hB2 := Lib.hid hB
  clear hx hB
  have bw : Below w.heap.size w (w.alloc (Obj.cells #[Value.slice x n cap, Value.int IntKind.i64 0, Value.int IntKind.u64 0] 83)) := (Below.refl _ _).alloc (Nat.le_refl _) _
  have C0 := Lib.hid (show CurAt (w.alloc (Obj.cells #[Value.slice x n cap, Value.int IntKind.i64 0, Value.int IntKind.u64 0] 83)) w.heap.size x n cap 0 from ⟨0, by go_simp, by go_simp, by go_simp, by go_simp, by go_simp, by simp, fun h0 c off e => by have := hx2.out h0 c off e; omega⟩)
  have hap := Lib.hid C0.out.apart
  have D0 := Lib.hid (hB2.out.below bw)
  go_enter Tryz.func6, Tryz.ntmps6
  go_wp2_with fail
  refine (anySchema_any w.heap.size x n cap 0 _ (by omega) C0.out D0.out).mono ?_
  rintro e w1 ⟨S, v, k1, rfl, hD, hl1, hl7, ka, kb, hown, hC1, hg1⟩
  obtain ⟨z, cz, rfl, hcz, -⟩ := own_form hown
  have hcn := hD.cn_le (Nat.le_refl S.length)
  rw [List.take_length] at hcn
  obtain ⟨hc1, hc2⟩ := hcn
  have hzw : ∀ c off, z = some ⟨c, off, none⟩ → some c ≠ some w.heap.size := fun c off e q => by
    injection q with q
    have h2 := (hown.lt c (by rw [e]; rfl)).1
    simp at h2
    omega
  replace hzw := Lib.hid hzw
  have S1 := Lib.hid (Rd.of_own hown)
  replace hC1 := Lib.hid hC1
  replace hg1 := Lib.hid hg1
  replace hD := Lib.hid hD
  clear hown
  go_wp2_with fail
  refine (one_any w.heap.size x n cap k1 8 _ (by omega) (by omega) (by omega) hC1.out (D0.out.grown hg1.out hap.out)).mono ?_
  rintro e w2 ⟨t, k2, rfl, kc, kd, hC3, hg2⟩
  have G2 := Lib.hid (grown_trans hg1.out hg2)
  have S2 := Lib.hid (S1.out.keep hg2 hzw.out)
  replace hC3 := Lib.hid hC3
  clear hg2 hg1 hC1 S1
  cases t
  · go_wp2_with fail
    refine (sCountD_any z cz S _ hD.out S2.out).mono ?_
    rintro e w3 ⟨rfl, hb3⟩
    have G3 := Lib.hid (grown_trans G2.out (grown_of_below hb3 _))
    have S3 := Lib.hid (S2.out.below hb3)
    have C3 := Lib.hid (hC3.out.below hb3)
    clear hb3
    go_wp2_with fail
    refine (pick_any w.heap.size x n cap k2 (cnZ S) _ (by omega) (by omega) (by omega) C3.out (D0.out.grown G3.out hap.out)).mono ?_
    rintro e w4 ⟨i, k4, rfl, i0, i1, ke, kf, hC4, hg4⟩
    have S4 := Lib.hid (S3.out.keep hg4 hzw.out)
    have hb := Lib.hid (below_of_grown bw (grown_trans G3.out hg4) (Nat.le_refl _))
    clear hC4 hg4
    go_wp2_with fail
    go_ret2
    exact ⟨S, z, cz, i, rfl, hD.out, hcz, by omega, by omega, S4.out, hb.out⟩
  · go_wp2_with fail
    refine (sCountD_any z cz S _ hD.out S2.out).mono ?_
    rintro e w3 ⟨rfl, hb3⟩
    have G3 := Lib.hid (grown_trans G2.out (grown_of_below hb3 _))
    have S3 := Lib.hid (S2.out.below hb3)
    have C3 := Lib.hid (hC3.out.below hb3)
    clear hb3
    go_wp2_with fail
    refine (sCountD_any z cz S _ hD.out S3.out).mono ?_
    rintro e w4 ⟨rfl, hb4⟩
    have G4 := Lib.hid (grown_trans G3.out (grown_of_below hb4 _))
    have S4 := Lib.hid (S3.out.below hb4)
    have C4 := Lib.hid (C3.out.below hb4)
    clear hb4
    go_wp2_with fail
    refine (among_any w.heap.size x n cap k2 w4.heap.size _ [-1, cnZ S, cnZ S - 1] _ (by omega) (by simp) (by simp) (by have := C4.out.inside; omega) (IRd.lit w4 [-1, cnZ S, cnZ S - 1] 3) (C4.out.alloc _) ((D0.out.grown G4.out hap.out).alloc _)).mono ?_
    rintro e w5 ⟨i, k5, rfl, hmem, ke, kf, hC5, hg5⟩
    have hi : -1 ≤ i ∧ i ≤ 4782969 := by simp at hmem; omega
    have S5 := Lib.hid ((S4.out.alloc _).keep hg5 hzw.out)
    have hb := Lib.hid (below_of_grown bw (grown_trans (grown_alloc G4.out _) hg5) (Nat.le_refl _))
    clear hC5 hg5 hmem
    go_wp2_with fail
    go_ret2
    exact ⟨S, z, cz, i, rfl, hD.out, hcz, hi.1, hi.2, S5.out, hb.out⟩

theorem rd_two {w W : World} {x : Option Addr} {xs : List Value} {a1 a2 : Value} (h : Rd W x xs) (hx : ∀ c off, x = some ⟨c, off, none⟩ → w.heap.size + 2 ≤ c) : Rd ((W.setCell ⟨w.heap.size, 0, none⟩ a1).setCell ⟨w.heap.size, 1, none⟩ a2) x xs :=
  (h.keep (grown_setP _ _ _) (fun c off e q => by injection q with q; have := hx c off e; have q' : c = w.heap.size := q; omega)).keep (grown_setP _ _ _) (fun c off e q => by injection q with q; have := hx c off e; have q' : c = w.heap.size := q; omega)

def DgPost (w : World) (e : Ending) (w' : World) : Prop :=
  ∃ (S : List (ByteArray × Int)) (z : Option Addr) (cz : Nat) (v : Int) (L : List Int) (y : Option Addr) (cy : Nat) (M : List Int) (t : Option Addr) (ct : Nat), e = .returned (.tuple #[.slice z S.length cz, .agg #[.int .i64 v, .slice y L.length cy], .slice t M.length ct]) ∧ DrS S ∧ S.length ≤ cz ∧ (z = none → cz = 0) ∧ -1 ≤ v ∧ v ≤ 9 ∧ NnI L ∧ L.length ≤ 10 ∧ SmI M ∧ M.length ≤ 8 ∧ M.length ≤ ct ∧ (t = none → ct = 0) ∧
    Rd w' z (vC S) ∧ Rd w' y (iC L) ∧ Rd w' t (iC M) ∧ Below w.heap.size w w'
set_option maxHeartbeats 4000000 in
theorem drawGV_any (x : Option Addr) (n cap : Nat) (w : World) (hx : 0 < n → ∀ c off, x = some ⟨c, off, none⟩ → c < w.heap.size) (hB : ByRd w x n) :
    Calls Tryz.prog 9 #[.slice x n cap] w (DgPost w) := by
  have hx2 := Lib.hid hx
  have hB2 := Lib.hid hB
  clear hx hB
  have bw : Below w.heap.size w ((w.alloc (.cells #[.int .i64 0, .slice none 0 0] 30)).alloc (Obj.cells #[Value.slice x n cap, Value.int IntKind.i64 0, Value.int IntKind.u64 0] 83)) := ((Below.refl _ _).alloc (Nat.le_refl _) _).alloc (by simp) _
  have C0 := Lib.hid (show CurAt ((w.alloc (.cells #[.int .i64 0, .slice none 0 0] 30)).alloc (Obj.cells #[Value.slice x n cap, Value.int IntKind.i64 0, Value.int IntKind.u64 0] 83)) (w.heap.size + 1) x n cap 0 from ⟨0, by go_simp, by go_simp, by go_simp, by go_simp, by go_simp, by simp, fun h0 c off e => by have := hx2.out h0 c off e; omega⟩)
  have R0 := Lib.hid (wb_grown (Wb.new w 30 #[.int .i64 0, .slice none 0 0]) (World.grownBy_alloc _ (Obj.cells #[Value.slice x n cap, Value.int IntKind.i64 0, Value.int IntKind.u64 0] 83) none) (by intro j hj; cases hj))
  have hap := Lib.hid C0.out.apart
  have D0 := Lib.hid (hB2.out.below bw)
  go_enter Tryz.func9, Tryz.ntmps9
  go_wp2_with fail
  refine (anySchema_any (w.heap.size + 1) x n cap 0 _ (by omega) C0.out D0.out).mono ?_
  rintro e w1 ⟨S, v, k1, rfl, hD, hl1, hl7, ka, kb, hown, hC1, hg1⟩
  obtain ⟨z, cz, rfl, hcz, hzn⟩ := own_form hown
  have hzc : Hid (∀ c off, z = some ⟨c, off, none⟩ → w.heap.size + 2 ≤ c) := fun c off e => by
    have h2 := (hown.lt c (by rw [e]; rfl)).1
    simp at h2
    omega
  have hzw : ∀ c off, z = some ⟨c, off, none⟩ → some c ≠ some (w.heap.size + 1) := fun c off e q => by
    injection q with q
    have h2 := hzc.out c off e
    omega
  replace hzw := Lib.hid hzw
  replace hzn := Lib.hid hzn
  have S1 := Lib.hid (Rd.of_own hown)
  have R1 := Lib.hid (wb_grown R0.out hg1 (fun j hj => by injection hj with hj; omega))
  have hs1 := hg1.size
  simp only [World.size_alloc] at hs1
  replace hC1 := Lib.hid hC1
  replace hg1 := Lib.hid hg1
  replace hD := Lib.hid hD
  clear hown R0
  go_wp2_with fail
  refine (grouping_any (w.heap.size + 1) x n cap k1 z cz S _ (by omega) hC1.out (D0.out.grown hg1.out hap.out) hD.out S1.out hzw.out).mono ?_
  rintro e w2 ⟨v, L, u, k2, rfl, v1, v2, hI, hL10, kc, kd, hown, hC2, hg2⟩
  obtain ⟨y, cy, rfl, hcy, -⟩ := own_form hown
  have hyc : Hid (∀ c off, y = some ⟨c, off, none⟩ → w.heap.size + 2 ≤ c) := fun c off e => by
    have h2 := (hown.lt c (by rw [e]; rfl)).1
    omega
  have hyw : ∀ c off, y = some ⟨c, off, none⟩ → some c ≠ some (w.heap.size + 1) := fun c off e q => by
    injection q with q
    have h2 := hyc.out c off e
    omega
  replace hyw := Lib.hid hyw
  have G2 := Lib.hid (grown_trans hg1.out hg2)
  have S2 := Lib.hid (S1.out.keep hg2 hzw.out)
  have R2 := Lib.hid (wb_grown R1.out hg2 (fun j hj => by injection hj with hj; omega))
  have Y2 := Lib.hid (Rd.of_own hown)
  have hs2 := hg2.size
  replace hC2 := Lib.hid hC2
  replace hI := Lib.hid hI
  clear hown hg2 hg1 S1 R1 hC1
  go_wp2_with fail
  refine (anyValues_any (w.heap.size + 1) x n cap k2 z cz S _ (by omega) hC2.out (D0.out.grown G2.out hap.out) hD.out S2.out hzw.out).mono ?_
  rintro e w3 ⟨M, q, k3, rfl, hM, hM8, ke, kf, hown, hC3, hg3⟩
  obtain ⟨t, ct, rfl, hct, htn⟩ := own_form hown
  have S3 := Lib.hid (S2.out.keep hg3 hzw.out)
  have Y3 := Lib.hid (Y2.out.keep hg3 hyw.out)
  have R3 := wb_grown R2.out hg3 (fun j hj => by injection hj with hj; omega)
  have M3 := Lib.hid (Rd.of_own hown)
  have hb := Lib.hid (below_of_grown bw (grown_trans G2.out hg3) (by omega))
  have htc : Hid (∀ c off, t = some ⟨c, off, none⟩ → w.heap.size + 2 ≤ c) := fun c off e => by
    have h2 := (hown.lt c (by rw [e]; rfl)).1
    omega
  have r0 := R3.read 0
  have r1 := R3.read 1
  have fr0 := R3.free 0
  have fr1 := R3.free 1
  replace hM := Lib.hid hM
  replace htn := Lib.hid htn
  clear hown hg3 hC3 R3 R2 S2 Y2 hC2
  go_wp2_with fail
  refine bodyPost_ret (v := .tuple #[.slice z S.length cz, .agg #[.int .i64 v, .slice y L.length cy], .slice t M.length ct]) (by simp [results, Tryz.results9, go_sem, *]) rfl ?_
  exact ⟨S, z, cz, v, L, y, cy, M, t, ct, rfl, hD.out, hcz, hzn.out, v1, v2, hI.out, hL10, hM.out, hM8, hct, htn.out, rd_two S3.out hzc.out, rd_two Y3.out hyc.out, rd_two M3.out htc.out, (hb.out.setCell (p := ⟨w.heap.size, 0, none⟩) (Nat.le_refl _) _).setCell (p := ⟨w.heap.size, 1, none⟩) (Nat.le_refl _) _⟩
end Go.Proofs.YtcmfoclalcmamabGreatDoor
