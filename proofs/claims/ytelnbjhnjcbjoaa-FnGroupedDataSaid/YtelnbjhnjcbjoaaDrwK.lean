/-
  The model's draws of chapter 3: a schema and a record; ReplaceValues' arguments.
-/
import Derived.Test.YtelnbjhnjcbjoaaDrwM
namespace Go.Proofs.Ytelnbjhnjcbjoaa
open Go.RowKit
set_option maxRecDepth 100000

theorem rd_at {W : World} {x : Option Addr} {xs : List Value} {g o lo : Nat} {a : Value} (h : Rd W x xs) (hx : ∀ c off, x = some ⟨c, off, none⟩ → lo ≤ c) (hg : g < lo) : Rd (W.setCell ⟨g, o, none⟩ a) x xs :=
  h.keep (grown_setP _ _ _) (fun c off e q => by injection q with q; have := hx c off e; have q' : c = g := q; omega)
def DirPost (w : World) (e : Ending) (w' : World) : Prop :=
  ∃ (S : List (ByteArray × Int)) (z : Option Addr) (cz : Nat) (a h : Int) (L : List Int) (y : Option Addr) (cy : Nat), e = .returned (.tuple #[.slice z S.length cz, .agg #[.int .i64 a, .int .i64 h, .slice y L.length cy]]) ∧ DrS S ∧ S.length ≤ cz ∧ (z = none → cz = 0) ∧ (-1 ≤ a ∧ a ≤ 100) ∧ (-1 ≤ h ∧ h ≤ 1000) ∧ SmI L ∧ L.length ≤ 8 ∧
    Rd w' z (vC S) ∧ Rd w' y (iC L) ∧ Below w.heap.size w w' ∧ (∀ c off, z = some ⟨c, off, none⟩ → w.heap.size + 1 ≤ c) ∧ (∀ c off, y = some ⟨c, off, none⟩ → w.heap.size + 1 ≤ c)
theorem dir_fin {w W : World} {S : List (ByteArray × Int)} {z y : Option Addr} {cz cy : Nat} {a h : Int} {L : List Int} {u0 u1 u2 : Value} (hD : DrS S) (hcz : S.length ≤ cz) (hzn : z = none → cz = 0) (ha : -1 ≤ a ∧ a ≤ 100) (hh : -1 ≤ h ∧ h ≤ 1000) (hI : SmI L) (hL : L.length ≤ 8)
    (hS : Rd W z (vC S)) (hzc : ∀ c off, z = some ⟨c, off, none⟩ → w.heap.size + 1 ≤ c) (hY : Rd W y (iC L)) (hyc : ∀ c off, y = some ⟨c, off, none⟩ → w.heap.size + 1 ≤ c) (hb : Below w.heap.size w W) :
    DirPost w (.returned (.tuple #[.slice z S.length cz, .agg #[.int .i64 a, .int .i64 h, .slice y L.length cy]])) (((W.setCell ⟨w.heap.size, 0, none⟩ u0).setCell ⟨w.heap.size, 1, none⟩ u1).setCell ⟨w.heap.size, 2, none⟩ u2).drew :=
  ⟨S, z, cz, a, h, L, y, cy, rfl, hD, hcz, hzn, ha, hh, hI, hL, Rd.drewW (rd_at (rd_at (rd_at hS hzc (Nat.lt_succ_self _)) hzc (Nat.lt_succ_self _)) hzc (Nat.lt_succ_self _)), Rd.drewW (rd_at (rd_at (rd_at hY hyc (Nat.lt_succ_self _)) hyc (Nat.lt_succ_self _)) hyc (Nat.lt_succ_self _)),
    (((hb.setCell (p := ⟨w.heap.size, 0, none⟩) (Nat.le_refl _) _).setCell (p := ⟨w.heap.size, 1, none⟩) (Nat.le_refl _) _).setCell (p := ⟨w.heap.size, 2, none⟩) (Nat.le_refl _) _).drew, hzc, hyc⟩
set_option maxHeartbeats 4000000 in
theorem drawIR_any (x : Option Addr) (n cap : Nat) (w : World) (hx : 0 < n → ∀ c off, x = some ⟨c, off, none⟩ → c < w.heap.size) (hB : ByRd w x n) :
    Calls Try.prog 73 #[.slice x n cap] w (DirPost w) := by
  have hx2 := Lib.hid hx
  have hB2 := Lib.hid hB
  clear hx hB
  have bw : Below w.heap.size w ((w.alloc (.cells #[.int .i64 0, .int .i64 0, .slice none 0 0] 36)).alloc (Obj.cells #[Value.slice x n cap, Value.int IntKind.i64 0, Value.int IntKind.u64 0] 85)) := ((Below.refl _ _).alloc (Nat.le_refl _) _).alloc (by simp) _
  have C0 := Lib.hid (show CurAt ((w.alloc (.cells #[.int .i64 0, .int .i64 0, .slice none 0 0] 36)).alloc (Obj.cells #[Value.slice x n cap, Value.int IntKind.i64 0, Value.int IntKind.u64 0] 85)) (w.heap.size + 1) x n cap 0 from ⟨0, by go_simp, by go_simp, by go_simp, by go_simp, by go_simp, by simp, fun h0 c off e => by have := hx2.out h0 c off e; omega⟩)
  have R0 := Lib.hid (wb_grown (Wb.new w 36 #[.int .i64 0, .int .i64 0, .slice none 0 0]) (World.grownBy_alloc _ (Obj.cells #[Value.slice x n cap, Value.int IntKind.i64 0, Value.int IntKind.u64 0] 85) none) (by intro j hj; cases hj))
  have hap := Lib.hid C0.out.apart
  have D0 := Lib.hid (hB2.out.below bw)
  go_enter Try.func73, Try.ntmps73
  go_wp2_with fail
  refine (anySchema_any (w.heap.size + 1) x n cap 0 _ (by omega) C0.out D0.out).mono ?_
  rintro e w1 ⟨S, v, k1, rfl, hD, hl1, hl7, ka, kb, hown, hC1, hg1⟩
  obtain ⟨z, cz, rfl, hcz, hzn⟩ := own_form hown
  have hzc : Hid (∀ c off, z = some ⟨c, off, none⟩ → w.heap.size + 2 ≤ c ∧ c < w1.heap.size) := fun c off e => by
    have h2 := hown.lt c (by rw [e]; rfl)
    simp at h2
    omega
  have hzw : ∀ c off, z = some ⟨c, off, none⟩ → some c ≠ some (w.heap.size + 1) := fun c off e q => by
    injection q with q
    have h2 := hzc.out c off e
    omega
  replace hzw := Lib.hid hzw
  replace hzn := Lib.hid hzn
  have S1 := Lib.hid (Rd.of_own hown)
  have R1 := Lib.hid (wb_grown R0.out hg1 (fun j hj => by injection hj with hj; omega))
  have hs1 := hg1.size
  simp only [World.size_alloc] at hs1
  replace hC1 := Lib.hid hC1
  replace hg1 := Lib.hid hg1
  replace hD := Lib.hid hD
  clear hown R0
  go_wp2_with fail
  refine (record_any (w.heap.size + 1) x n cap k1 z cz w1.heap.size _ S [0, 1, 29] _ (by omega) (by simp) (by simp) (by omega) (IRd.lit w1 [0, 1, 29] 3) (hC1.out.alloc _) ((D0.out.grown hg1.out hap.out).alloc _) hD.out (S1.out.below ((Below.refl _ _).alloc (Nat.le_refl _) _)) hzw.out).mono ?_
  rintro e w2 ⟨a, h, L, y, cy, k2, rfl, hmem, h0, h1, hI, hL7, kc, kd, hown, hC2, hg2⟩
  have ha : -1 ≤ a ∧ a ≤ 100 := by simp at hmem; omega
  have hh : -1 ≤ h ∧ h ≤ 1000 := by omega
  have hL8 : L.length ≤ 8 := by omega
  have hg2' := grown_trans (grown_alloc (grown_refl w1 (some (w.heap.size + 1))) (.cells #[.int .i64 0, .int .i64 1, .int .i64 29] 3)) hg2
  have hyc : Hid (∀ c off, y = some ⟨c, off, none⟩ → w1.heap.size + 1 ≤ c ∧ c < w2.heap.size) := fun c off e => by
    have h2 := hown.inr c off e
    simp at h2
    omega
  have hyw : ∀ c off, y = some ⟨c, off, none⟩ → some c ≠ some (w.heap.size + 1) := fun c off e q => by
    injection q with q
    have h2 := hyc.out c off e
    omega
  replace hyw := Lib.hid hyw
  have G2 := Lib.hid (grown_trans hg1.out hg2')
  have S2 := Lib.hid (S1.out.keep hg2' hzw.out)
  have R2 := Lib.hid (wb_grown R1.out hg2' (fun j hj => by injection hj with hj; omega))
  have Y2 := Lib.hid hown.rd
  have hs2 := hg2'.size
  have X2 := Lib.hid (Wb.new w2 36 #[.int .i64 a, .int .i64 h, .slice y L.length cy])
  replace hC2 := Lib.hid hC2
  replace hI := Lib.hid hI
  clear hown hg2 hg2' hg1 S1 R1 hC1 hmem
  go_wp2_with fail
  refine (pick_any (w.heap.size + 1) x n cap k2 8 _ (by omega) (by omega) (by omega) (hC2.out.alloc _) ((D0.out.grown G2.out hap.out).alloc _)).mono ?_
  rintro e w3 ⟨m, k3, rfl, m0, m1, ke, kf, hC3, hg3⟩
  have hg3' := grown_trans (grown_alloc (grown_refl w2 (some (w.heap.size + 1))) (.cells #[.int .i64 a, .int .i64 h, .slice y L.length cy] 36)) hg3
  have G3 := Lib.hid (grown_trans G2.out hg3')
  have S3 := Lib.hid (S2.out.keep hg3' hzw.out)
  have Y3 := Lib.hid (Y2.out.keep hg3' hyw.out)
  have R3 := Lib.hid (wb_grown R2.out hg3' (fun j hj => by injection hj with hj; omega))
  have X3 := Lib.hid (wb_grown X2.out hg3 (fun j hj => by injection hj with hj; omega))
  have hs3 : w2.heap.size + 1 ≤ w3.heap.size := by have := hg3.size; simpa using this
  replace hC3 := Lib.hid hC3
  clear hg3 hg3' G2 S2 Y2 R2 X2 hC2
  by_cases hm0 : m = 0
  · subst hm0
    go_wp2_with fail
    refine (among_any (w.heap.size + 1) x n cap k3 w3.heap.size _ [-1, 30, 29] _ (by omega) (by simp) (by simp) (by omega) (IRd.lit w3 [-1, 30, 29] 3) (hC3.out.alloc _) ((D0.out.grown G3.out hap.out).alloc _)).mono ?_
    rintro e w4 ⟨v4, k4, rfl, hmem, kg, kh, hC4, hg4⟩
    have hv : -1 ≤ v4 ∧ v4 ≤ 100 := by simp at hmem; omega
    have hg4' := grown_trans (grown_alloc (grown_refl w3 (some (w.heap.size + 1))) _) hg4
    have G4 := Lib.hid (grown_trans G3.out hg4')
    have S4 := Lib.hid (S3.out.keep hg4' hzw.out)
    have Y4 := Lib.hid (Y3.out.keep hg4' hyw.out)
    have R4 := Lib.hid (wb_grown R3.out hg4' (fun j hj => by injection hj with hj; omega))
    have X4 := Lib.hid (wb_grown X3.out hg4' (fun j hj => by injection hj with hj; omega))
    clear hg4 hg4' hmem hC4 S3 Y3 R3 X3 G3 hC3
    have xa := X4.out.read 0
    have xb := X4.out.read 1
    have xc := X4.out.read 2
    have y0 := X4.out.free 0
    have y1 := X4.out.free 1
    have y2 := X4.out.free 2
    have r0 := R4.out.read 0
    have r1 := R4.out.read 1
    have r2 := R4.out.read 2
    have f0 := R4.out.free 0
    have f1 := R4.out.free 1
    have f2 := R4.out.free 2
    have hne : w.heap.size ≠ w2.heap.size := by omega
    have hne2 : w2.heap.size ≠ w.heap.size := by omega
    have hb := Lib.hid ((below_of_grown bw G4.out (by omega)).setCell (p := ⟨w2.heap.size, 0, none⟩) (show w.heap.size ≤ w2.heap.size by omega) (.int .i64 v4))
    have S5 := Lib.hid (S4.out.keep (grown_setP w4 ⟨w2.heap.size, 0, none⟩ (.int .i64 v4)) (fun c off e q => by injection q with q; have := hzc.out c off e; have q' : c = w2.heap.size := q; omega))
    have Y5 := Lib.hid (Y4.out.keep (grown_setP w4 ⟨w2.heap.size, 0, none⟩ (.int .i64 v4)) (fun c off e q => by injection q with q; have := hyc.out c off e; have q' : c = w2.heap.size := q; omega))
    go_wp2_with fail
    go_region
    all_goals
      go_wp2_with fail
      refine bodyPost_ret (v := .tuple #[.slice z S.length cz, .agg #[.int .i64 v4, .int .i64 h, .slice y L.length cy]]) (by simp [results, Try.results73, go_sem, *]) rfl ?_
      exact dir_fin hD.out hcz hzn.out hv hh hI.out hL8 S5.out (fun c off e => by have := hzc.out c off e; omega) Y5.out (fun c off e => by have := hyc.out c off e; omega) hb.out
  by_cases hm1 : m = 1
  · subst hm1
    go_wp2_with fail
    refine (among_any (w.heap.size + 1) x n cap k3 w3.heap.size _ [-1, 999, 1000] _ (by omega) (by simp) (by simp) (by omega) (IRd.lit w3 [-1, 999, 1000] 3) (hC3.out.alloc _) ((D0.out.grown G3.out hap.out).alloc _)).mono ?_
    rintro e w4 ⟨v4, k4, rfl, hmem, kg, kh, hC4, hg4⟩
    have hv : -1 ≤ v4 ∧ v4 ≤ 1000 := by simp at hmem; omega
    have hg4' := grown_trans (grown_alloc (grown_refl w3 (some (w.heap.size + 1))) _) hg4
    have G4 := Lib.hid (grown_trans G3.out hg4')
    have S4 := Lib.hid (S3.out.keep hg4' hzw.out)
    have Y4 := Lib.hid (Y3.out.keep hg4' hyw.out)
    have R4 := Lib.hid (wb_grown R3.out hg4' (fun j hj => by injection hj with hj; omega))
    have X4 := Lib.hid (wb_grown X3.out hg4' (fun j hj => by injection hj with hj; omega))
    clear hg4 hg4' hmem hC4 S3 Y3 R3 X3 G3 hC3
    have xa := X4.out.read 0
    have xb := X4.out.read 1
    have xc := X4.out.read 2
    have y0 := X4.out.free 0
    have y1 := X4.out.free 1
    have y2 := X4.out.free 2
    have r0 := R4.out.read 0
    have r1 := R4.out.read 1
    have r2 := R4.out.read 2
    have f0 := R4.out.free 0
    have f1 := R4.out.free 1
    have f2 := R4.out.free 2
    have hne : w.heap.size ≠ w2.heap.size := by omega
    have hne2 : w2.heap.size ≠ w.heap.size := by omega
    have hb := Lib.hid ((below_of_grown bw G4.out (by omega)).setCell (p := ⟨w2.heap.size, 1, none⟩) (show w.heap.size ≤ w2.heap.size by omega) (.int .i64 v4))
    have S5 := Lib.hid (S4.out.keep (grown_setP w4 ⟨w2.heap.size, 1, none⟩ (.int .i64 v4)) (fun c off e q => by injection q with q; have := hzc.out c off e; have q' : c = w2.heap.size := q; omega))
    have Y5 := Lib.hid (Y4.out.keep (grown_setP w4 ⟨w2.heap.size, 1, none⟩ (.int .i64 v4)) (fun c off e q => by injection q with q; have := hyc.out c off e; have q' : c = w2.heap.size := q; omega))
    go_wp2_with fail
    go_region
    all_goals
      go_wp2_with fail
      refine bodyPost_ret (v := .tuple #[.slice z S.length cz, .agg #[.int .i64 a, .int .i64 v4, .slice y L.length cy]]) (by simp [results, Try.results73, go_sem, *]) rfl ?_
      exact dir_fin hD.out hcz hzn.out ha hv hI.out hL8 S5.out (fun c off e => by have := hzc.out c off e; omega) Y5.out (fun c off e => by have := hyc.out c off e; omega) hb.out
  by_cases hm2 : m = 2
  · subst hm2
    go_wp2_with fail
    refine (anyValues_any (w.heap.size + 1) x n cap k3 z cz S w3 (by omega) hC3.out (D0.out.grown G3.out hap.out) hD.out S3.out hzw.out).mono ?_
    rintro e w4 ⟨M, u4, k4, rfl, hM, hM8, kg, kh, hown, hC4, hg4⟩
    obtain ⟨t, ct, rfl, hct, htn⟩ := own_form hown
    have htc : Hid (∀ c off, t = some ⟨c, off, none⟩ → w3.heap.size ≤ c) := fun c off e => (hown.lt c (by rw [e]; rfl)).1
    have G4 := Lib.hid (grown_trans G3.out hg4)
    have S4 := Lib.hid (S3.out.keep hg4 hzw.out)
    have Y4 := Lib.hid (Rd.of_own hown)
    have R4 := Lib.hid (wb_grown R3.out hg4 (fun j hj => by injection hj with hj; omega))
    have X4 := Lib.hid (wb_grown X3.out hg4 (fun j hj => by injection hj with hj; omega))
    replace hM := Lib.hid hM
    replace htn := Lib.hid htn
    clear hg4 hown hC4 S3 Y3 R3 X3 G3 hC3
    have xa := X4.out.read 0
    have xb := X4.out.read 1
    have xc := X4.out.read 2
    have y0 := X4.out.free 0
    have y1 := X4.out.free 1
    have y2 := X4.out.free 2
    have r0 := R4.out.read 0
    have r1 := R4.out.read 1
    have r2 := R4.out.read 2
    have f0 := R4.out.free 0
    have f1 := R4.out.free 1
    have f2 := R4.out.free 2
    have hne : w.heap.size ≠ w2.heap.size := by omega
    have hne2 : w2.heap.size ≠ w.heap.size := by omega
    have hb := Lib.hid ((below_of_grown bw G4.out (by omega)).setCell (p := ⟨w2.heap.size, 2, none⟩) (show w.heap.size ≤ w2.heap.size by omega) (.slice t M.length ct))
    have S5 := Lib.hid (S4.out.keep (grown_setP w4 ⟨w2.heap.size, 2, none⟩ (.slice t M.length ct)) (fun c off e q => by injection q with q; have := hzc.out c off e; have q' : c = w2.heap.size := q; omega))
    have Y5 := Lib.hid (Y4.out.keep (grown_setP w4 ⟨w2.heap.size, 2, none⟩ (.slice t M.length ct)) (fun c off e q => by injection q with q; have := htc.out c off e; have q' : c = w2.heap.size := q; omega))
    go_wp2_with fail
    go_region
    all_goals
      go_wp2_with fail
      refine bodyPost_ret (v := .tuple #[.slice z S.length cz, .agg #[.int .i64 a, .int .i64 h, .slice t M.length ct]]) (by simp [results, Try.results73, go_sem, *]) rfl ?_
      exact dir_fin hD.out hcz hzn.out ha hh hM.out hM8 S5.out (fun c off e => by have := hzc.out c off e; omega) Y5.out (fun c off e => by have := htc.out c off e; omega) hb.out
  · have q0 : (m == 0) = false := by rw [beq_eq_false_iff_ne]; exact hm0
    have q1 : (m == 1) = false := by rw [beq_eq_false_iff_ne]; exact hm1
    have q2 : (m == 2) = false := by rw [beq_eq_false_iff_ne]; exact hm2
    have xa := X3.out.read 0
    have xb := X3.out.read 1
    have xc := X3.out.read 2
    have y0 := X3.out.free 0
    have y1 := X3.out.free 1
    have y2 := X3.out.free 2
    have r0 := R3.out.read 0
    have r1 := R3.out.read 1
    have r2 := R3.out.read 2
    have f0 := R3.out.free 0
    have f1 := R3.out.free 1
    have f2 := R3.out.free 2
    have hne : w.heap.size ≠ w2.heap.size := by omega
    have hne2 : w2.heap.size ≠ w.heap.size := by omega
    have hb := Lib.hid (below_of_grown bw G3.out (by omega))
    go_wp2_with fail
    go_region
    all_goals
      go_wp2_with fail
      refine bodyPost_ret (v := .tuple #[.slice z S.length cz, .agg #[.int .i64 a, .int .i64 h, .slice y L.length cy]]) (by simp [results, Try.results73, go_sem, *]) rfl ?_
      exact dir_fin hD.out hcz hzn.out ha hh hI.out hL8 S3.out (fun c off e => by have := hzc.out c off e; omega) Y3.out (fun c off e => by have := hyc.out c off e; omega) hb.out

def DrvPost (w : World) (e : Ending) (w' : World) : Prop :=
  ∃ (S : List (ByteArray × Int)) (z : Option Addr) (cz : Nat) (a h : Int) (L : List Int) (y : Option Addr) (cy : Nat) (M : List Int) (t : Option Addr) (ct : Nat), e = .returned (.tuple #[.slice z S.length cz, .agg #[.int .i64 a, .int .i64 h, .slice y L.length cy], .slice t M.length ct]) ∧ DrS S ∧ S.length ≤ cz ∧ (z = none → cz = 0) ∧ (-1 ≤ a ∧ a ≤ 100) ∧ (-1 ≤ h ∧ h ≤ 1000) ∧ SmI L ∧ L.length ≤ 8 ∧ SmI M ∧ M.length ≤ 8 ∧ M.length ≤ ct ∧ (t = none → ct = 0) ∧
    Rd w' z (vC S) ∧ Rd w' y (iC L) ∧ Rd w' t (iC M) ∧ Below w.heap.size w w'
set_option maxHeartbeats 4000000 in
theorem drawRV_any (x : Option Addr) (n cap : Nat) (w : World) (hx : 0 < n → ∀ c off, x = some ⟨c, off, none⟩ → c < w.heap.size) (hB : ByRd w x n) :
    Calls Try.prog 18 #[.slice x n cap] w (DrvPost w) := by
  have hx2 := Lib.hid hx
  have hB2 := Lib.hid hB
  clear hx hB
  have bw : Below w.heap.size w ((w.alloc (.cells #[.int .i64 0, .int .i64 0, .slice none 0 0] 36)).alloc (Obj.cells #[Value.slice x n cap, Value.int IntKind.i64 0, Value.int IntKind.u64 0] 85)) := ((Below.refl _ _).alloc (Nat.le_refl _) _).alloc (by simp) _
  have C0 := Lib.hid (show CurAt ((w.alloc (.cells #[.int .i64 0, .int .i64 0, .slice none 0 0] 36)).alloc (Obj.cells #[Value.slice x n cap, Value.int IntKind.i64 0, Value.int IntKind.u64 0] 85)) (w.heap.size + 1) x n cap 0 from ⟨0, by go_simp, by go_simp, by go_simp, by go_simp, by go_simp, by simp, fun h0 c off e => by have := hx2.out h0 c off e; omega⟩)
  have R0 := Lib.hid (wb_grown (Wb.new w 36 #[.int .i64 0, .int .i64 0, .slice none 0 0]) (World.grownBy_alloc _ (Obj.cells #[Value.slice x n cap, Value.int IntKind.i64 0, Value.int IntKind.u64 0] 85) none) (by intro j hj; cases hj))
  have hap := Lib.hid C0.out.apart
  have D0 := Lib.hid (hB2.out.below bw)
  go_enter Try.func18, Try.ntmps18
  go_wp2_with fail
  refine (drawIR_any x n cap _ (fun h0 c off e => by have := hx2.out h0 c off e; simp; omega) D0.out).mono ?_
  rintro e w1 ⟨S, z, cz, a, h, L, y, cy, rfl, hD, hcz, hzn, ha, hh, hI, hL8, hS1, hY1, hb1, hzc, hyc⟩
  have hb1' := hb1
  have hs1 : w.heap.size + 2 ≤ w1.heap.size := by have := hb1.size; simpa using this
  have C1 := Lib.hid ((C0.out.below hb1).alloc (.cells #[.int .i64 a, .int .i64 h, .slice y L.length cy] 36))
  have D1 := Lib.hid ((D0.out.below hb1).alloc (.cells #[.int .i64 a, .int .i64 h, .slice y L.length cy] 36))
  have hal : Below w1.heap.size w1 (w1.alloc (.cells #[.int .i64 a, .int .i64 h, .slice y L.length cy] 36)) := (Below.refl _ _).alloc (Nat.le_refl _) _
  have S1 := Lib.hid (hS1.below hal)
  have Y1 := Lib.hid (hY1.below hal)
  have R1 := Lib.hid (wb_grown (wb_grown R0.out (grown_of_below hb1 w1.heap.size) (fun j hj => by injection hj with hj; omega)) (World.grownBy_alloc w1 (.cells #[.int .i64 a, .int .i64 h, .slice y L.length cy] 36) none) (by intro j hj; cases hj))
  have X1 := Lib.hid (Wb.new w1 36 #[.int .i64 a, .int .i64 h, .slice y L.length cy])
  have hB1 := Lib.hid (Below.alloc' (Below.via' bw hb1) (.cells #[.int .i64 a, .int .i64 h, .slice y L.length cy] 36))
  have hzc := Lib.hid (fun c off e => by have := hzc c off e; simp at this; exact (show w.heap.size + 2 < c + 1 by omega) : ∀ c off, z = some ⟨c, off, none⟩ → w.heap.size + 2 < c + 1)
  have hyc := Lib.hid (fun c off e => by have := hyc c off e; simp at this; exact (show w.heap.size + 2 < c + 1 by omega) : ∀ c off, y = some ⟨c, off, none⟩ → w.heap.size + 2 < c + 1)
  have hzw := Lib.hid (fun c off e q => by injection q with q; have := hzc.out c off e; omega : ∀ c off, z = some ⟨c, off, none⟩ → some c ≠ some (w.heap.size + 1))
  have hyw := Lib.hid (fun c off e q => by injection q with q; have := hyc.out c off e; omega : ∀ c off, y = some ⟨c, off, none⟩ → some c ≠ some (w.heap.size + 1))
  replace hD := Lib.hid hD
  replace hI := Lib.hid hI
  replace hzn := Lib.hid hzn
  have xa := X1.out.read 0
  have xb := X1.out.read 1
  have xc := X1.out.read 2
  have r0 := R1.out.read 0
  have r1 := R1.out.read 1
  have r2 := R1.out.read 2
  have f0 := R1.out.free 0
  have f1 := R1.out.free 1
  have f2 := R1.out.free 2
  clear hb1 hb1' hal hS1 hY1 bw R0 hx2 hB2 C0 D0
  go_wp2_with fail
  have Cd : Hid (CurAt (w1.alloc (.cells #[.int .i64 a, .int .i64 h, .slice y L.length cy] 36)).drew (w.heap.size + 1) x n cap 0) := C1.out
  have Bd : Hid (ByRd (w1.alloc (.cells #[.int .i64 a, .int .i64 h, .slice y L.length cy] 36)).drew x n) := ByRd.drewW D1.out
  have Sd : Hid (Rd (w1.alloc (.cells #[.int .i64 a, .int .i64 h, .slice y L.length cy] 36)).drew z (vC S)) := Rd.drewW S1.out
  go_region_law (first
    | (go_simp; go_at_call 74; refine (anyValues_any (w.heap.size + 1) x n cap 0 z cz S _ (by omega) (by first | exact Cd.out | exact ((Cd.out.set (by omega) _ _).set (by omega) _ _).set (by omega) _ _) (by first | exact Bd.out | fail) hD.out (by first | exact Sd.out | fail) hzw.out).mono ?_; rintro e w4 ⟨M, u4, k4, rfl, hM, hM8, kg, kh, hown, hC4, hg4⟩; obtain ⟨t, ct, rfl, hct, htn⟩ := own_form hown; (have hg4 := drew_back hg4); (have R4 := (wb_grown R1.out hg4 (fun j hj => by injection hj with hj; omega))); (have X4 := (wb_grown X1.out hg4 (fun j hj => by injection hj with hj; omega))); (have ra0 := R4.read 0); (have ra1 := R4.read 1); (have ra2 := R4.read 2); (have fa0 := R4.free 0); (have fa1 := R4.free 1); (have fa2 := R4.free 2); (have za0 := X4.read 0); (have za1 := X4.read 1); (have za2 := X4.read 2); (have hg4 := Lib.hid hg4); (have hown := Lib.hid hown); (have hC4 := Lib.hid hC4); (have hM := Lib.hid hM); (have htn := Lib.hid htn)))
  all_goals
    have S4 := S1.out.keep hg4.out hzw.out
    have Y4 := Y1.out.keep hg4.out hyw.out
    have T4 := Rd.of_own hown.out
    have hl4 : w1.heap.size + 1 ≤ w4.heap.size := by have := hg4.out.size; simpa using this
    have htc : ∀ c off, t = some ⟨c, off, none⟩ → w.heap.size + 1 ≤ c := fun c off e => by
      have := (hown.out.lt c (by rw [e]; rfl)).1
      simp at this
      omega
    have hb4 := below_of_grown hB1.out hg4.out (by omega)
    replace S4 := Lib.hid S4
    replace Y4 := Lib.hid Y4
    replace T4 := Lib.hid T4
    replace hb4 := Lib.hid hb4
    replace htc := Lib.hid htc
    go_wp2_with fail
    refine bodyPost_ret (v := .tuple #[.slice z S.length cz, .agg #[.int .i64 a, .int .i64 h, .slice y L.length cy], .slice t M.length ct]) (by simp [results, Try.results18, go_sem, *]) rfl ?_
    refine ⟨S, z, cz, a, h, L, y, cy, M, t, ct, rfl, hD.out, hcz, hzn.out, ha, hh, hI.out, hL8, hM.out, hM8, hct, htn.out, ?_, ?_, ?_, ?_⟩
    · exact rd_at (rd_at (rd_at S4.out (fun c off e => by have := hzc.out c off e; omega) (Nat.lt_succ_self _)) (fun c off e => by have := hzc.out c off e; omega) (Nat.lt_succ_self _)) (fun c off e => by have := hzc.out c off e; omega) (Nat.lt_succ_self _)
    · exact rd_at (rd_at (rd_at Y4.out (fun c off e => by have := hyc.out c off e; omega) (Nat.lt_succ_self _)) (fun c off e => by have := hyc.out c off e; omega) (Nat.lt_succ_self _)) (fun c off e => by have := hyc.out c off e; omega) (Nat.lt_succ_self _)
    · exact rd_at (rd_at (rd_at T4.out htc.out (Nat.lt_succ_self _)) htc.out (Nat.lt_succ_self _)) htc.out (Nat.lt_succ_self _)
    · exact (((hb4.out.setCell (p := ⟨w.heap.size, 0, none⟩) (Nat.le_refl _) _).setCell (p := ⟨w.heap.size, 1, none⟩) (Nat.le_refl _) _).setCell (p := ⟨w.heap.size, 2, none⟩) (Nat.le_refl _) _)
end Go.Proofs.Ytelnbjhnjcbjoaa
