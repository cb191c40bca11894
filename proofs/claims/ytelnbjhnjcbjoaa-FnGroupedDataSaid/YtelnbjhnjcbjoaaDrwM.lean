/-
  The model's draws of chapter 3 that the laws take.
-/
import Derived.Test.YtelnbjhnjcbjoaaDrwP
namespace Go.Proofs.Ytelnbjhnjcbjoaa
open Go.RowKit
set_option maxRecDepth 100000

theorem din_of {w : World} {lo : Nat} {v : Value} {t : Option Addr} {T : List PR} (hT : DrR T) (hl : T.length ≤ 41) (hI : InsW w lo v T) (hR : Rd w t (pC T)) : DIn w t T :=
  ⟨by omega, fun q hq => ⟨by have := (hT q hq).1; unfold IsI64; omega, by have := (hT q hq).2.1; unfold IsI64; omega, ⟨by have := (hT q hq).2.2.2.1; omega, fun n hn => by have := (hT q hq).2.2.1 n hn; unfold IsI64; omega, (hI.2 q hq).1⟩⟩, hR⟩
/-- What the draw of RemoveRecord's arguments hands back. -/
def DrmPost (w : World) (e : Ending) (w' : World) : Prop :=
  ∃ (S : List (ByteArray × Int)) (z : Option Addr) (cz : Nat) (T : List PR) (t : Option Addr) (ct : Nat) (i : Int), e = .returned (.tuple #[.slice z S.length cz, .slice t T.length ct, .int .i64 i]) ∧ DrS S ∧ S.length ≤ cz ∧ (z = none → cz = 0) ∧ DrR T ∧ T.length ≤ 41 ∧ -1 ≤ i ∧ i ≤ 41 ∧
    Rd w' z (vC S) ∧ DIn w' t T ∧ Below w.heap.size w w'
set_option maxHeartbeats 4000000 in
theorem drawRR_any (x : Option Addr) (n cap : Nat) (w : World) (hx : 0 < n → ∀ c off, x = some ⟨c, off, none⟩ → c < w.heap.size) (hB : ByRd w x n) :
    Calls Try.prog 15 #[.slice x n cap] w (DrmPost w) := by
  have hx2 := Lib.hid hx
  have hB2 := Lib.hid hB
  clear hx hB
  have bw : Below w.heap.size w (w.alloc (Obj.cells #[Value.slice x n cap, Value.int IntKind.i64 0, Value.int IntKind.u64 0] 85)) := (Below.refl _ _).alloc (Nat.le_refl _) _
  have C0 := Lib.hid (show CurAt (w.alloc (Obj.cells #[Value.slice x n cap, Value.int IntKind.i64 0, Value.int IntKind.u64 0] 85)) w.heap.size x n cap 0 from ⟨0, by go_simp, by go_simp, by go_simp, by go_simp, by go_simp, by simp, fun h0 c off e => by have := hx2.out h0 c off e; omega⟩)
  have hap := Lib.hid C0.out.apart
  have D0 := Lib.hid (hB2.out.below bw)
  go_enter Try.func15, Try.ntmps15
  go_wp2_with fail
  refine (anySchema_any w.heap.size x n cap 0 _ (by omega) C0.out D0.out).mono ?_
  rintro e w1 ⟨S, v, k1, rfl, hD, hl1, hl7, ka, kb, hown, hC1, hg1⟩
  obtain ⟨z, cz, rfl, hcz, hzn⟩ := own_form hown
  have hzw : ∀ c off, z = some ⟨c, off, none⟩ → some c ≠ some w.heap.size := fun c off e q => by
    injection q with q
    have h2 := (hown.lt c (by rw [e]; rfl)).1
    simp at h2
    omega
  replace hzw := Lib.hid hzw
  have S1 := Lib.hid (Rd.of_own hown)
  have hs1 := hg1.size
  simp only [World.size_alloc] at hs1
  replace hC1 := Lib.hid hC1
  replace hg1 := Lib.hid hg1
  replace hD := Lib.hid hD
  replace hzn := Lib.hid hzn
  clear hown
  go_wp2_with fail
  refine (anyData_any w.heap.size x n cap k1 z cz S _ (by omega) hC1.out (D0.out.grown hg1.out hap.out) hD.out S1.out hzw.out).mono ?_
  rintro e w2 ⟨T, v2, k2, rfl, hT, hTl, kc, kd, hown, hI, hC2, hg2⟩
  obtain ⟨t, ct, rfl, hct, -⟩ := own_form hown
  have G2 := Lib.hid (grown_trans hg1.out hg2)
  have S2 := Lib.hid (S1.out.keep hg2 hzw.out)
  have hs2 := hg2.size
  replace hown := Lib.hid hown
  replace hI := Lib.hid hI
  replace hC2 := Lib.hid hC2
  replace hT := Lib.hid hT
  clear hg1 hg2 hC1 S1
  go_wp2_with fail
  refine (pick_any w.heap.size x n cap k2 (T.length + 2) w2 (by omega) (by omega) (by omega) hC2.out (D0.out.grown G2.out hap.out)).mono ?_
  rintro e w3 ⟨i, k3, rfl, i0, i1, ke, kf, hC3, hg3⟩
  have S3 := Lib.hid (S2.out.keep hg3 hzw.out)
  have O3 := Lib.hid (own_cur2 hown.out (by omega) hg3)
  have I3 := Lib.hid (hI.out.cur hg3 (by omega))
  have hin := Lib.hid (din_of hT.out hTl I3.out (Rd.of_own O3.out))
  have hb := Lib.hid (below_of_grown bw (grown_trans G2.out hg3) (Nat.le_refl _))
  clear hC3 hg3 hown hI hC2 G2 S2
  go_wp2_with fail
  refine bodyPost_ret (v := .tuple #[.slice z S.length cz, .slice t T.length ct, .int .i64 (i - 1)]) (by simp [results, Try.results15, go_sem]) rfl ⟨S, z, cz, T, t, ct, i - 1, rfl, hD.out, hcz, hzn.out, hT.out, hTl, by omega, by omega, S3.out, hin.out, hb.out⟩

theorem rd_twoG {w W : World} {x : Option Addr} {xs : List Value} {a1 a2 : Value} (h : Rd W x xs) (hx : ∀ c off, x = some ⟨c, off, none⟩ → w.heap.size + 2 ≤ c) : Rd ((W.setCell ⟨w.heap.size, 0, none⟩ a1).setCell ⟨w.heap.size, 1, none⟩ a2) x xs :=
  (h.keep (grown_setP _ _ _) (fun c off e q => by injection q with q; have := hx c off e; have q' : c = w.heap.size := q; omega)).keep (grown_setP _ _ _) (fun c off e q => by injection q with q; have := hx c off e; have q' : c = w.heap.size := q; omega)

def DgdPost (w : World) (e : Ending) (w' : World) : Prop :=
  ∃ (S : List (ByteArray × Int)) (z : Option Addr) (cz : Nat) (v : Int) (L : List Int) (y : Option Addr) (cy : Nat) (T : List PR) (t : Option Addr) (ct : Nat), e = .returned (.tuple #[.slice z S.length cz, .agg #[.int .i64 v, .slice y L.length cy], .slice t T.length ct]) ∧ DrS S ∧ S.length ≤ cz ∧ (z = none → cz = 0) ∧ -1 ≤ v ∧ v ≤ 9 ∧ NnI L ∧ L.length ≤ 10 ∧ DrR T ∧ T.length ≤ 41 ∧ T.length ≤ ct ∧ (t = none → ct = 0) ∧
    Rd w' z (vC S) ∧ Rd w' y (iC L) ∧ DIn w' t T ∧ Below w.heap.size w w'
set_option maxHeartbeats 4000000 in
theorem drawGD_any (x : Option Addr) (n cap : Nat) (w : World) (hx : 0 < n → ∀ c off, x = some ⟨c, off, none⟩ → c < w.heap.size) (hB : ByRd w x n) :
    Calls Try.prog 12 #[.slice x n cap] w (DgdPost w) := by
  have hx2 := Lib.hid hx
  have hB2 := Lib.hid hB
  clear hx hB
  have bw : Below w.heap.size w ((w.alloc (.cells #[.int .i64 0, .slice none 0 0] 26)).alloc (Obj.cells #[Value.slice x n cap, Value.int IntKind.i64 0, Value.int IntKind.u64 0] 85)) := ((Below.refl _ _).alloc (Nat.le_refl _) _).alloc (by simp) _
  have C0 := Lib.hid (show CurAt ((w.alloc (.cells #[.int .i64 0, .slice none 0 0] 26)).alloc (Obj.cells #[Value.slice x n cap, Value.int IntKind.i64 0, Value.int IntKind.u64 0] 85)) (w.heap.size + 1) x n cap 0 from ⟨0, by go_simp, by go_simp, by go_simp, by go_simp, by go_simp, by simp, fun h0 c off e => by have := hx2.out h0 c off e; omega⟩)
  have R0 := Lib.hid (wb_grown (Wb.new w 26 #[.int .i64 0, .slice none 0 0]) (World.grownBy_alloc _ (Obj.cells #[Value.slice x n cap, Value.int IntKind.i64 0, Value.int IntKind.u64 0] 85) none) (by intro j hj; cases hj))
  have hap := Lib.hid C0.out.apart
  have D0 := Lib.hid (hB2.out.below bw)
  go_enter Try.func12, Try.ntmps12
  go_wp2_with fail
  refine (anySchema_any (w.heap.size + 1) x n cap 0 _ (by omega) C0.out D0.out).mono ?_
  rintro e w1 ⟨S, v, k1, rfl, hD, hl1, hl7, ka, kb, hown, hC1, hg1⟩
  obtain ⟨z, cz, rfl, hcz, hzn⟩ := own_form hown
  have hzc : Hid (∀ c off, z = some ⟨c, off, none⟩ → w.heap.size + 2 ≤ c) := fun c off e => by
    have h2 := (hown.lt c (by rw [e]; rfl)).1
    simp at h2
    omega
  have hzw : ∀ c off, z = some ⟨c, off, none⟩ → some c ≠ some (w.heap.size + 1) := fun c off e q => by
    injection q with q
    have h2 := hzc.out c off e
    omega
  replace hzw := Lib.hid hzw
  replace hzn := Lib.hid hzn
  have S1 := Lib.hid (Rd.of_own hown)
  have R1 := Lib.hid (wb_grown R0.out hg1 (fun j hj => by injection hj with hj; omega))
  have hs1 := hg1.size
  simp only [World.size_alloc] at hs1
  replace hC1 := Lib.hid hC1
  replace hg1 := Lib.hid hg1
  replace hD := Lib.hid hD
  clear hown R0
  go_wp2_with fail
  refine (grouping_any (w.heap.size + 1) x n cap k1 z cz S _ (by omega) hC1.out (D0.out.grown hg1.out hap.out) hD.out S1.out hzw.out).mono ?_
  rintro e w2 ⟨v, L, u, k2, rfl, v1, v2, hI, hL10, kc, kd, hown, hC2, hg2⟩
  obtain ⟨y, cy, rfl, hcy, -⟩ := own_form hown
  have hyc : Hid (∀ c off, y = some ⟨c, off, none⟩ → w.heap.size + 2 ≤ c) := fun c off e => by
    have h2 := (hown.lt c (by rw [e]; rfl)).1
    omega
  have hyw : ∀ c off, y = some ⟨c, off, none⟩ → some c ≠ some (w.heap.size + 1) := fun c off e q => by
    injection q with q
    have h2 := hyc.out c off e
    omega
  replace hyw := Lib.hid hyw
  have G2 := Lib.hid (grown_trans hg1.out hg2)
  have S2 := Lib.hid (S1.out.keep hg2 hzw.out)
  have R2 := Lib.hid (wb_grown R1.out hg2 (fun j hj => by injection hj with hj; omega))
  have Y2 := Lib.hid (Rd.of_own hown)
  have hs2 := hg2.size
  replace hC2 := Lib.hid hC2
  replace hI := Lib.hid hI
  clear hown hg2 hg1 S1 R1 hC1
  go_wp2_with fail
  refine (anyData_any (w.heap.size + 1) x n cap k2 z cz S _ (by omega) hC2.out (D0.out.grown G2.out hap.out) hD.out S2.out hzw.out).mono ?_
  rintro e w3 ⟨T, q, k3, rfl, hT, hTl, ke, kf, hown, hIn, hC3, hg3⟩
  obtain ⟨t, ct, rfl, hct, htn⟩ := own_form hown
  have S3 := Lib.hid (S2.out.keep hg3 hzw.out)
  have Y3 := Lib.hid (Y2.out.keep hg3 hyw.out)
  have R3 := wb_grown R2.out hg3 (fun j hj => by injection hj with hj; omega)
  have M3 := Lib.hid (Rd.of_own hown)
  have I3 := Lib.hid hIn
  have hb := Lib.hid (below_of_grown bw (grown_trans G2.out hg3) (by omega))
  have htc : Hid (∀ c off, t = some ⟨c, off, none⟩ → w.heap.size + 2 ≤ c) := fun c off e => by
    have h2 := (hown.lt c (by rw [e]; rfl)).1
    omega
  have r0 := R3.read 0
  have r1 := R3.read 1
  have fr0 := R3.free 0
  have fr1 := R3.free 1
  replace hT := Lib.hid hT
  replace htn := Lib.hid htn
  clear hown hg3 hC3 R3 R2 S2 Y2 hC2 hIn
  go_wp2_with fail
  refine bodyPost_ret (v := .tuple #[.slice z S.length cz, .agg #[.int .i64 v, .slice y L.length cy], .slice t T.length ct]) (by simp [results, Try.results12, go_sem, *]) rfl ?_
  exact ⟨S, z, cz, v, L, y, cy, T, t, ct, rfl, hD.out, hcz, hzn.out, v1, v2, hI.out, hL10, hT.out, hTl, hct, htn.out, rd_twoG S3.out hzc.out, rd_twoG Y3.out hyc.out,
    din_of hT.out hTl ((I3.out.cur (grown_setP _ ⟨w.heap.size, 0, none⟩ _) (by show w.heap.size < _; omega)).cur (grown_setP _ ⟨w.heap.size, 1, none⟩ _) (by show w.heap.size < _; omega)) (rd_twoG M3.out htc.out),
    (hb.out.setCell (p := ⟨w.heap.size, 0, none⟩) (Nat.le_refl _) _).setCell (p := ⟨w.heap.size, 1, none⟩) (Nat.le_refl _) _⟩
end Go.Proofs.Ytelnbjhnjcbjoaa
