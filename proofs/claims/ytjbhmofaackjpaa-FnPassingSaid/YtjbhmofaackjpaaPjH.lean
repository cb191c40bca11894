import Derived.Test.YtjbhmofaackjpaaPjG
import Derived.Test.YtjbhmofaackjpaaPjF
namespace Go.Proofs.Ytjbhmofaackjpaa
open Go.RowKit
set_option maxRecDepth 100000

theorem put_fact {b n cap k lo2 vc : Nat} {x vx : Option Addr} {w wp w6 : World} {v6 : Value} {T : List PR} {q : PR} {o : Obj} (hbw : b < w.heap.size)
    (O : wp.ownsRow w.heap.size 40 3 (.slice vx T.length vc) T.length (pC T)) (I : InsW wp w.heap.size (.slice vx T.length vc) T) (C : CurAt wp b x n cap k) (G : w.grownBy wp (some b))
    (R : OwR wp lo2 wp.heap.size 3 1 q.v q.L.length (iC q.L)) (hlo : w.heap.size ≤ lo2) (hv : ∀ k, (Value.slice vx T.length vc).ownBlock = some k → k < lo2) (hq : q.L.length ≤ 1048576)
    (hown6 : w6.ownsRow w.heap.size 40 3 v6 (T.length + 1) (pC T ++ pC [q])) (hgr : (wp.alloc o).grownBy w6 (Value.slice vx T.length vc).ownBlock)
    (hwh : v6.ownBlock = (Value.slice vx T.length vc).ownBlock ∨ v6.ownBlock = some (wp.alloc o).heap.size) :
    w6.ownsRow w.heap.size 40 3 v6 (T ++ [q]).length (pC (T ++ [q])) ∧ InsW w6 w.heap.size v6 (T ++ [q]) ∧ CurAt w6 b x n cap k ∧ w.grownBy w6 (some b) ∧ wp.heap.size + 1 ≤ w6.heap.size := by
  have B5 : Below wp.heap.size wp (wp.alloc o) := (Below.refl _ _).alloc (Nat.le_refl _) _
  have hG := G.size
  have hsn := (I.below B5).snoc (q := q) (by have h := R.1.2; exact (Rd.of_own (x := q.x) (cap := q.c) (by exact R.1)).below B5) hq (fun c off e => by
    have h1 := R.2 c (by unfold PR.v; rw [e]; rfl)
    refine ⟨by omega, by simp; omega, ?_⟩
    intro e2
    have := hv c e2
    omega)
  refine ⟨own_eq hown6 (by simp) (pC_app T [q]).symm, hsn.row hgr hwh (fun k hk => by
    have := hown6.lt k hk
    exact this.2) (by simp; omega), (C.alloc _).far hgr (fun j hj => by have := (O.lt j hj).1; omega), grown_far (grown_alloc G _) hgr (fun j hj => (O.lt j hj).1), by have := hgr.size; simpa using this⟩

set_option maxHeartbeats 8000000 in
theorem anyData_any (b : Nat) (x : Option Addr) (n cap k : Nat) (y : Option Addr) (cy : Nat) (S : List (ByteArray × Int)) (w : World) (hk : k + 4000 ≤ 1000000000000)
    (hC : CurAt w b x n cap k) (hB : ByRd w x n) (hD : DrS S) (hS : Rd w y (vC S)) (hyb : ∀ c off, y = some ⟨c, off, none⟩ → some c ≠ some b) :
    Calls Try.prog 28 #[.pointer (some ⟨b, 0, none⟩), .slice y S.length cy] w (DatPost b x n cap k 2000 41 w) := by
  obtain ⟨i0, hi, hz0, hz1, hz2⟩ := info_parts Try.infoRec
  have hbs := hC.inside
  have hap := Lib.hid hC.apart
  have hC2 := Lib.hid hC
  have hB2 := Lib.hid hB
  have hS2 := Lib.hid hS
  have hy2 := Lib.hid hyb
  replace hD := Lib.hid hD
  clear hC hB hS hyb
  go_enter Try.func28, Try.ntmps28
  go_wp2_with fail
  have A0 := Lib.hid (show Below w.heap.size w (w.alloc (.cells #[.int .i64 0, .int .i64 1, .int .i64 2, .int .i64 3] 3)) from (Below.refl _ _).alloc (Nat.le_refl _) _)
  refine (data_any b x n cap k y cy w.heap.size _ S [0, 1, 2, 3] _ (by omega) (by simp) (by simp) (by omega) (by intro a ha; simp at ha; omega) (IRd.lit w [0, 1, 2, 3] 3) (hC2.out.alloc _) (hB2.out.alloc _) hD.out (hS2.out.below A0.out) hy2.out).mono ?_
  rintro e w1 ⟨T, v, k1, rfl, hT, hTl, ka, kb, hown, hI, hC3, hg⟩
  have hz1s : w.heap.size + 1 ≤ w1.heap.size := by have := hg.size; simpa using this
  have G1 := Lib.hid (grown_trans (grown_alloc (grown_refl w (some b)) (.cells #[.int .i64 0, .int .i64 1, .int .i64 2, .int .i64 3] 3)) hg)
  obtain ⟨vx, vc, rfl, -, -⟩ := (OwR.of hown).form
  replace hown := Lib.hid (own_more hown (show w.heap.size ≤ _ by simp))
  replace hI := Lib.hid (show InsW w1 w.heap.size (.slice vx T.length vc) T from ⟨fun k hk => ⟨by have := (hI.1 k hk).1; simp at this; omega, (hI.1 k hk).2⟩, fun q hq => ⟨(hI.2 q hq).1, (hI.2 q hq).2.1, fun c off e => ⟨by have := ((hI.2 q hq).2.2 c off e).1; simp at this; omega, ((hI.2 q hq).2.2 c off e).2.1, ((hI.2 q hq).2.2 c off e).2.2⟩⟩⟩)
  replace hC3 := Lib.hid hC3
  replace hT := Lib.hid hT
  clear hg
  go_wp2_with fail
  refine (pick_any b x n cap k1 24 w1 (by omega) (by omega) (by omega) hC3.out (hB2.out.grown G1.out hap.out)).mono ?_
  rintro e w2 ⟨m, k2, rfl, m0, m1, kc, kd, hC4, hg2⟩
  have G2 := Lib.hid (grown_trans G1.out hg2)
  have O2 := Lib.hid (own_cur2 hown.out (by omega) hg2)
  have I2 := Lib.hid (hI.out.cur hg2 (by omega))
  have hs2 := hg2.size
  replace hC4 := Lib.hid hC4
  clear hown hI hC3 G1 hg2
  by_cases hm0 : m = 0
  · subst hm0
    go_wp2_with fail
    refine (among_any b x n cap k2 w2.heap.size _ [-1, 29, 30] _ (by omega) (by simp) (by simp) (by omega) (IRd.lit w2 [-1, 29, 30] 3) (hC4.out.alloc _) ((hB2.out.grown G2.out hap.out).alloc _)).mono ?_
    rintro e w3 ⟨a, k3, rfl, hmem, ke, kf, hC5, hg3⟩
    have ha : -1 ≤ a ∧ a ≤ 100 := by simp at hmem; omega
    have hg3' := grown_trans (grown_alloc (grown_refl w2 (some b)) _) hg3
    have G3 := Lib.hid (grown_trans G2.out hg3')
    have O3 := Lib.hid (own_cur2 O2.out (by omega) hg3')
    have I3 := Lib.hid (I2.out.cur hg3' (by omega))
    have hs3 := hg3'.size
    replace hC5 := Lib.hid hC5
    clear hmem hg3 hg3' hC4 G2 O2 I2
    go_wp2_with fail
    refine (among_any b x n cap k3 w3.heap.size _ [0, 999, 1000, -1] _ (by omega) (by simp) (by simp) (by omega) (IRd.lit w3 [0, 999, 1000, -1] 3) (hC5.out.alloc _) ((hB2.out.grown G3.out hap.out).alloc _)).mono ?_
    rintro e w4 ⟨h, k4, rfl, hmem, kg, kh, hC6, hg4⟩
    have hh : -1 ≤ h ∧ h ≤ 1000 := by simp at hmem; omega
    have hg4' := grown_trans (grown_alloc (grown_refl w3 (some b)) _) hg4
    have G4 := Lib.hid (grown_trans G3.out hg4')
    have O4 := Lib.hid (own_cur2 O3.out (by omega) hg4')
    have I4 := Lib.hid (I3.out.cur hg4' (by omega))
    have hs4 := hg4'.size
    replace hC6 := Lib.hid hC6
    clear hmem hg4 hg4' hC5 G3 O3 I3
    go_wp2_with fail
    refine (anyValues_any b x n cap k4 y cy S w4 (by omega) hC6.out (hB2.out.grown G4.out hap.out) hD.out (hS2.out.keep G4.out hy2.out) hy2.out).mono ?_
    rintro e w5 ⟨L, u5, k5, rfl, hSm, hl8, ki, kj, ho5, hC7, hg5⟩
    obtain ⟨y5, c5, rfl, hcap, hnil⟩ := own_form ho5
    have G5 := Lib.hid (grown_trans G4.out hg5)
    have O5 := Lib.hid (own_cur2 O4.out (by omega) hg5)
    have I5 := Lib.hid (I4.out.cur hg5 (by omega))
    have hs5 := hg5.size
    have hvl := Lib.hid (fun k hk => (I4.out.1 k hk).2)
    have R5 := Lib.hid (OwR.of ho5)
    have hq := Lib.hid (show DrR (T ++ [(⟨a, h, y5, c5, L⟩ : PR)]) from hT.out.snoc ⟨ha, hh, hSm, hl8, hcap, hnil⟩)
    replace hC7 := Lib.hid hC7
    replace hnil := Lib.hid hnil
    clear hg5 ho5 hC6 G4 O4 I4 hSm
    go_wp2_with (at_builtin; go_loud (refine wpList_append_rd _ rfl (.tmp 14) (.tmp 25) 35 rfl w.heap.size 40 i0 (.agg #[.int .i64 0, .int .i64 0, .slice none 0 0]) 3 40 Try.underlying35 hi hz0 hz1 hz2 rfl (by decide) _ T.length (pC T) rfl (O5.out.alloc _) _ 1 1 rfl (Nat.le_refl _) (by intro h; cases h) (pC [(⟨a, h, y5, c5, L⟩ : PR)]) rfl (Rd.oneR_at _ _ _ _ _ _ _ _ (by simp)) (pC_one _) (by unfold maxLen; omega) (by omega) (by simp; omega) ?_); intro v6 w6 hown6 hgrow6 hwhere6)
    obtain ⟨p1, p2, p3, p4, p5⟩ := put_fact (q := ⟨a, h, y5, c5, L⟩) (by omega) O5.out I5.out hC7.out G5.out R5.out (by omega) hvl.out (by show L.length ≤ 1048576; omega) hown6 hgrow6 hwhere6
    obtain ⟨z6, c6, rfl, -, -⟩ := own_form p1
    replace p1 := Lib.hid p1
    replace p2 := Lib.hid p2
    replace p3 := Lib.hid p3
    replace p4 := Lib.hid p4
    clear hown6 hgrow6 hwhere6 O5 I5 hC7 G5 R5 hvl
    go_wp2_with fail
    go_ret
    exact ⟨_, _, k5, rfl, hq.out, by simp; omega, by omega, by omega, p1.out, p2.out, p3.out, p4.out⟩
  by_cases hm1 : m = 1
  · subst hm1
    go_wp2_with fail
    go_loopw [5] (fun v wr => ∃ (kk : Nat) (U : List PR), U.length ≤ 41 ∧ k ≤ kk ∧ kk ≤ k + 402 + 22 * U.length ∧ wr.ownsRow w.heap.size 40 3 v U.length (pC U) ∧ Hid (DrR U) ∧ Hid (InsW wr w.heap.size v U) ∧ Hid (CurAt wr b x n cap kk) ∧ Hid (w.grownBy wr (some b))) (fun v _ => 41 - lenV v)
    case atStart => exact ⟨k2, T, by omega, by omega, by omega, O2.out, hT.out, I2.out, hC4.out, G2.out⟩
    case round =>
      clear O2 I2 hC4 G2 hT
      obtain ⟨kk, U, hU, hk1, hk2, hown, hBd, hIn, hC, hg⟩ := hrel
      have hws := hg.out.size
      have hlv := own_lenV hown
      obtain ⟨ux, uc, rfl, -, -⟩ := (OwR.of hown).form
      replace hown := Lib.hid hown
      go_wp2_with fail
      refine (pick_any b x n cap kk 2 wr (by omega) (by omega) (by omega) hC.out (hB2.out.grown hg.out hap.out)).mono ?_
      rintro e w3 ⟨p, k3, rfl, p0, p1, ke, kf, hC5, hg3⟩
      have G3 := Lib.hid (grown_trans hg.out hg3)
      have O3 := Lib.hid (own_cur2 hown.out (by omega) hg3)
      have I3 := Lib.hid (hIn.out.cur hg3 (by omega))
      have hs3 := hg3.size
      replace hC5 := Lib.hid hC5
      clear hown hIn hC hg hg3
      by_cases hlt : (U.length : Int) < 40 + p
      · have hU2 : U.length ≤ 40 := by omega
        go_wp2_with fail
        refine (values_any b x n cap k3 y cy S w3 (by omega) hC5.out (hB2.out.grown G3.out hap.out) hD.out (hS2.out.keep G3.out hy2.out) hy2.out).mono ?_
        rintro e w5 ⟨L, u5, k5, rfl, hSm, hl7, ki, kj, ho5, hC7, hg5⟩
        obtain ⟨y5, c5, rfl, hcap, hnil⟩ := own_form ho5
        have G5 := Lib.hid (grown_trans G3.out hg5)
        have O5 := Lib.hid (own_cur2 O3.out (by omega) hg5)
        have I5 := Lib.hid (I3.out.cur hg5 (by omega))
        have hs5 := hg5.size
        have hvl := Lib.hid (fun k hk => (I3.out.1 k hk).2)
        have R5 := Lib.hid (OwR.of ho5)
        have hq := Lib.hid (show DrR (U ++ [(⟨0, 0, y5, c5, L⟩ : PR)]) from hBd.out.snoc ⟨by show -1 ≤ (0 : Int) ∧ (0 : Int) ≤ 100; omega, by show -1 ≤ (0 : Int) ∧ (0 : Int) ≤ 1000; omega, hSm, by show L.length ≤ 8; omega, hcap, hnil⟩)
        replace hC7 := Lib.hid hC7
        replace hnil := Lib.hid hnil
        clear hg5 ho5 hC5 G3 O3 I3 hSm
        go_wp2_with (at_builtin; go_loud (refine wpList_append_rd _ rfl (.tmp 35) (.tmp 40) 35 rfl w.heap.size 40 i0 (.agg #[.int .i64 0, .int .i64 0, .slice none 0 0]) 3 40 Try.underlying35 hi hz0 hz1 hz2 rfl (by decide) _ U.length (pC U) rfl (O5.out.alloc _) _ 1 1 rfl (Nat.le_refl _) (by intro h; cases h) (pC [(⟨0, 0, y5, c5, L⟩ : PR)]) rfl (Rd.oneR_at _ _ _ _ _ _ _ _ (by simp)) (pC_one _) (by unfold maxLen; omega) (by omega) (by simp; omega) ?_); intro v6 w6 hown6 hgrow6 hwhere6)
        obtain ⟨q1, q2, q3, q4, q5⟩ := put_fact (q := ⟨0, 0, y5, c5, L⟩) (by omega) O5.out I5.out hC7.out G5.out R5.out (by omega) hvl.out (by show L.length ≤ 1048576; omega) hown6 hgrow6 hwhere6
        have hl6 := own_lenV q1
        replace q1 := Lib.hid q1
        replace q2 := Lib.hid q2
        replace q3 := Lib.hid q3
        replace q4 := Lib.hid q4
        clear hown6 hgrow6 hwhere6 O5 I5 hC7 G5 R5 hvl
        go_roundw
        case rel => exact ⟨k5, U ++ [(⟨0, 0, y5, c5, L⟩ : PR)], by simp; omega, by omega, by simp; omega, q1.out, hq.out, q2.out, q3.out, q4.out⟩
        case measure =>
          have e1 : lenV (.slice ux U.length uc) = U.length := rfl
          have e2 : (U ++ [(⟨0, 0, y5, c5, L⟩ : PR)]).length = U.length + 1 := by simp
          rw [hl6, e1, e2]
          omega
      · go_wp2_with fail
        go_ret
        exact ⟨U, _, k3, rfl, hBd.out, hU, by omega, by omega, O3.out, I3.out, hC5.out, G3.out⟩
  · have q0 : (m == 0) = false := by rw [beq_eq_false_iff_ne]; exact hm0
    have q1 : (m == 1) = false := by rw [beq_eq_false_iff_ne]; exact hm1
    go_wp2_with fail
    go_ret
    exact ⟨T, _, k2, rfl, hT.out, by omega, by omega, by omega, O2.out, I2.out, hC4.out, G2.out⟩
end Go.Proofs.Ytjbhmofaackjpaa

namespace Go.Proofs.Ytjbhmofaackjpaa
open Go.RowKit
set_option maxRecDepth 100000

theorem din_of {w : World} {lo : Nat} {v : Value} {t : Option Addr} {T : List PR} (hT : DrR T) (hl : T.length ≤ 41) (hI : InsW w lo v T) (hR : Rd w t (pC T)) : DIn w t T :=
  ⟨by omega, fun q hq => ⟨by have := (hT q hq).1; unfold IsI64; omega, by have := (hT q hq).2.1; unfold IsI64; omega, ⟨by have := (hT q hq).2.2.2.1; omega, fun n hn => by have := (hT q hq).2.2.1 n hn; unfold IsI64; omega, (hI.2 q hq).1⟩⟩, hR⟩
/-- What the draw of RemoveRecord's arguments hands back. -/
def DrmPost (w : World) (e : Ending) (w' : World) : Prop :=
  ∃ (S : List (ByteArray × Int)) (z : Option Addr) (cz : Nat) (T : List PR) (t : Option Addr) (ct : Nat) (i : Int), e = .returned (.tuple #[.slice z S.length cz, .slice t T.length ct, .int .i64 i]) ∧ DrS S ∧ S.length ≤ cz ∧ (z = none → cz = 0) ∧ DrR T ∧ T.length ≤ 41 ∧ -1 ≤ i ∧ i ≤ 41 ∧
    Rd w' z (vC S) ∧ DIn w' t T ∧ Below w.heap.size w w'
theorem rd_twoG {w W : World} {x : Option Addr} {xs : List Value} {a1 a2 : Value} (h : Rd W x xs) (hx : ∀ c off, x = some ⟨c, off, none⟩ → w.heap.size + 2 ≤ c) : Rd ((W.setCell ⟨w.heap.size, 0, none⟩ a1).setCell ⟨w.heap.size, 1, none⟩ a2) x xs :=
  (h.keep (grown_setP _ _ _) (fun c off e q => by injection q with q; have := hx c off e; have q' : c = w.heap.size := q; omega)).keep (grown_setP _ _ _) (fun c off e q => by injection q with q; have := hx c off e; have q' : c = w.heap.size := q; omega)

def DgdPost (w : World) (e : Ending) (w' : World) : Prop :=
  ∃ (S : List (ByteArray × Int)) (z : Option Addr) (cz : Nat) (v : Int) (L : List Int) (y : Option Addr) (cy : Nat) (T : List PR) (t : Option Addr) (ct : Nat), e = .returned (.tuple #[.slice z S.length cz, .agg #[.int .i64 v, .slice y L.length cy], .slice t T.length ct]) ∧ DrS S ∧ S.length ≤ cz ∧ (z = none → cz = 0) ∧ -1 ≤ v ∧ v ≤ 9 ∧ NnI L ∧ L.length ≤ 10 ∧ DrR T ∧ T.length ≤ 41 ∧ T.length ≤ ct ∧ (t = none → ct = 0) ∧
    Rd w' z (vC S) ∧ Rd w' y (iC L) ∧ DIn w' t T ∧ Below w.heap.size w w'
end Go.Proofs.Ytjbhmofaackjpaa

namespace Go.Proofs.Ytjbhmofaackjpaa
open Go.RowKit
set_option maxRecDepth 100000

theorem drS_sin {w : World} {z : Option Addr} {cz : Nat} {S : List (ByteArray × Int)} (h : DrS S) (hc : S.length ≤ cz) (hr : Rd w z (vC S)) : SIn w z cz S :=
  ⟨by have := h.1; omega, hc, fun p hp => ⟨by have := (h.2 p hp).1; omega, by have := (h.2 p hp).2; unfold IsI64; omega⟩, hr⟩
theorem ein_of {w : World} {lo : Nat} {v : Value} {t : Option Addr} {T : List PR} (hT : DrE T) (hl : T.length ≤ 46) (hI : InsW w lo v T) (hR : Rd w t (eC T)) : EIn w t T :=
  ⟨by omega, fun q hq => ⟨by have := (hT q hq).1; omega, fun n hn => by have := (hT q hq).2 n hn; unfold IsI64; omega, (hI.2 q hq).1⟩, hR⟩
/-- What the draw of a schema and edits hands back. -/
def DesPost (w : World) (e : Ending) (w' : World) : Prop :=
  ∃ (S : List (ByteArray × Int)) (z : Option Addr) (cz : Nat) (T : List PR) (t : Option Addr) (ct : Nat), e = .returned (.tuple #[.slice z S.length cz, .slice t T.length ct]) ∧ SIn w' z cz S ∧ S.length ≤ 7 ∧ (z = none → cz = 0) ∧ EIn w' t T ∧ T.length ≤ 46 ∧ Below w.heap.size w w'
set_option maxHeartbeats 4000000 in
theorem drawCP_of (x : Option Addr) (n cap : Nat) (w : World) (hae : ∀ b y cy S, AnyEd b x n cap y cy S) (hx : 0 < n → ∀ c off, x = some ⟨c, off, none⟩ → c < w.heap.size) (hB : ByRd w x n) :
    Calls Try.prog 16 #[.slice x n cap] w (DesPost w) := by
  have hx2 := Lib.hid hx
  have hB2 := Lib.hid hB
  have hAE := Lib.hid hae
  clear hx hB hae
  have bw : Below w.heap.size w (w.alloc (Obj.cells #[Value.slice x n cap, Value.int IntKind.i64 0, Value.int IntKind.u64 0] 55)) := (Below.refl _ _).alloc (Nat.le_refl _) _
  have C0 := Lib.hid (show CurAt (w.alloc (Obj.cells #[Value.slice x n cap, Value.int IntKind.i64 0, Value.int IntKind.u64 0] 55)) w.heap.size x n cap 0 from ⟨0, by go_simp, by go_simp, by go_simp, by go_simp, by go_simp, by simp, fun h0 c off e => by have := hx2.out h0 c off e; omega⟩)
  have hap := Lib.hid C0.out.apart
  have D0 := Lib.hid (hB2.out.below bw)
  go_enter Try.func16, Try.ntmps16
  go_wp2_with fail
  refine (anySchema_any w.heap.size x n cap 0 _ (by omega) C0.out D0.out).mono ?_
  rintro e w1 ⟨S, v, k1, rfl, hD, hl1, hl7, ka, kb, hown, hC1, hg1⟩
  obtain ⟨z, cz, rfl, hcz, hzn⟩ := own_form hown
  have hzw : ∀ c off, z = some ⟨c, off, none⟩ → some c ≠ some w.heap.size := fun c off e q => by
    injection q with q
    have h2 := (hown.lt c (by rw [e]; rfl)).1
    simp at h2
    omega
  replace hzw := Lib.hid hzw
  have S1 := Lib.hid (drS_sin hD hcz (Rd.of_own hown))
  have hs1 := hg1.size
  simp only [World.size_alloc] at hs1
  replace hC1 := Lib.hid hC1
  replace hg1 := Lib.hid hg1
  replace hzn := Lib.hid hzn
  clear hown hD
  go_wp2_with fail
  refine (edits_of w.heap.size x n cap k1 z cz S _ (hAE.out _ _ _ _) (by omega) hC1.out (D0.out.grown hg1.out hap.out) S1.out hzw.out).mono ?_
  rintro e w2 ⟨T, v2, k2, rfl, hT, hTl, kc, kd, hown, hI, hC2, hg2⟩
  obtain ⟨t, ct, rfl, hct, -⟩ := own_form hown
  have G2 := Lib.hid (grown_trans hg1.out hg2)
  have S2 := Lib.hid (S1.out.keepC hg2 hzw.out)
  have hin := Lib.hid (ein_of hT hTl hI (Rd.of_own hown))
  have hb := Lib.hid (below_of_grown bw G2.out (Nat.le_refl _))
  clear hC2 hg2 hown hI S1 hC1 hg1 hT
  go_wp2_with fail
  refine bodyPost_ret (v := .tuple #[.slice z S.length cz, .slice t T.length ct]) (by simp [results, Try.results16, go_sem]) rfl ⟨S, z, cz, T, t, ct, rfl, S2.out, hl7, hzn.out, hin.out, hTl, hb.out⟩
theorem drawFP_of (x : Option Addr) (n cap : Nat) (w : World) (hae : ∀ b y cy S, AnyEd b x n cap y cy S) (hx : 0 < n → ∀ c off, x = some ⟨c, off, none⟩ → c < w.heap.size) (hB : ByRd w x n) :
    Calls Try.prog 5 #[.slice x n cap] w (DesPost w) := by
  have hc := Lib.hid (drawCP_of x n cap w hae hx hB)
  clear hae hx hB
  go_enter Try.func5, Try.ntmps5
  go_wp2_with fail
  refine hc.out.mono ?_
  rintro e w1 ⟨S, z, cz, T, t, ct, rfl, h1, h2, h3, h4, h5, h6⟩
  have k1 := Lib.hid h1
  have k3 := Lib.hid h3
  have k4 := Lib.hid h4
  have k6 := Lib.hid h6
  clear h1 h3 h4 h6 hc
  go_wp2
  go_ret2
  exact ⟨S, z, cz, T, t, ct, rfl, k1.out, h2, k3.out, k4.out, h5, k6.out⟩
/-- What the draw of a schema, edits and data hands back. -/
def DedPost (w : World) (e : Ending) (w' : World) : Prop :=
  ∃ (S : List (ByteArray × Int)) (z : Option Addr) (cz : Nat) (T : List PR) (t : Option Addr) (ct : Nat) (D : List PR) (d : Option Addr) (cd : Nat), e = .returned (.tuple #[.slice z S.length cz, .slice t T.length ct, .slice d D.length cd]) ∧ SIn w' z cz S ∧ S.length ≤ 7 ∧ (z = none → cz = 0) ∧ EIn w' t T ∧ T.length ≤ 46 ∧ DIn w' d D ∧ D.length ≤ 41 ∧ Below w.heap.size w w'
set_option maxHeartbeats 4000000 in
theorem drawFC_of (x : Option Addr) (n cap : Nat) (w : World) (hae : ∀ b y cy S, AnyEd b x n cap y cy S) (hx : 0 < n → ∀ c off, x = some ⟨c, off, none⟩ → c < w.heap.size) (hB : ByRd w x n) :
    Calls Try.prog 12 #[.slice x n cap] w (DedPost w) := by
  have hx2 := Lib.hid hx
  have hB2 := Lib.hid hB
  have hAE := Lib.hid hae
  clear hx hB hae
  have bw : Below w.heap.size w (w.alloc (Obj.cells #[Value.slice x n cap, Value.int IntKind.i64 0, Value.int IntKind.u64 0] 55)) := (Below.refl _ _).alloc (Nat.le_refl _) _
  have C0 := Lib.hid (show CurAt (w.alloc (Obj.cells #[Value.slice x n cap, Value.int IntKind.i64 0, Value.int IntKind.u64 0] 55)) w.heap.size x n cap 0 from ⟨0, by go_simp, by go_simp, by go_simp, by go_simp, by go_simp, by simp, fun h0 c off e => by have := hx2.out h0 c off e; omega⟩)
  have hap := Lib.hid C0.out.apart
  have D0 := Lib.hid (hB2.out.below bw)
  go_enter Try.func12, Try.ntmps12
  go_wp2_with fail
  refine (anySchema_any w.heap.size x n cap 0 _ (by omega) C0.out D0.out).mono ?_
  rintro e w1 ⟨S, v, k1, rfl, hD, hl1, hl7, ka, kb, hown, hC1, hg1⟩
  obtain ⟨z, cz, rfl, hcz, hzn⟩ := own_form hown
  have hzw : ∀ c off, z = some ⟨c, off, none⟩ → some c ≠ some w.heap.size := fun c off e q => by
    injection q with q
    have h2 := (hown.lt c (by rw [e]; rfl)).1
    simp at h2
    omega
  replace hzw := Lib.hid hzw
  have S1 := Lib.hid (drS_sin hD hcz (Rd.of_own hown))
  have hs1 := hg1.size
  simp only [World.size_alloc] at hs1
  replace hC1 := Lib.hid hC1
  replace hg1 := Lib.hid hg1
  replace hzn := Lib.hid hzn
  replace hD := Lib.hid hD
  clear hown
  go_wp2_with fail
  refine (edits_of w.heap.size x n cap k1 z cz S _ (hAE.out _ _ _ _) (by omega) hC1.out (D0.out.grown hg1.out hap.out) S1.out hzw.out).mono ?_
  rintro e w2 ⟨T, v2, k2, rfl, hT, hTl, kc, kd, hown, hI, hC2, hg2⟩
  obtain ⟨t, ct, rfl, hct, -⟩ := own_form hown
  have G2 := Lib.hid (grown_trans hg1.out hg2)
  have S2 := Lib.hid (S1.out.keepC hg2 hzw.out)
  have hs2 := hg2.size
  replace hown := Lib.hid hown
  replace hI := Lib.hid hI
  replace hC2 := Lib.hid hC2
  replace hT := Lib.hid hT
  clear hg2 S1 hC1 hg1
  go_wp2_with fail
  refine (anyData_any w.heap.size x n cap k2 z cz S _ (by omega) hC2.out (D0.out.grown G2.out hap.out) hD.out S2.out.2.2.2 hzw.out).mono ?_
  rintro e w3 ⟨D, v3, k3, rfl, hDR, hDl, ke, kf, hownD, hID, hC3, hg3⟩
  obtain ⟨d, cd, rfl, hcd, -⟩ := own_form hownD
  have G3 := Lib.hid (grown_trans G2.out hg3)
  have S3 := Lib.hid (S2.out.keepC hg3 hzw.out)
  have O3 := Lib.hid (own_cur2 hown.out (by omega) hg3)
  have I3 := Lib.hid (hI.out.curE hg3 (by omega))
  have hin := Lib.hid (ein_of hT.out hTl I3.out (Rd.of_own O3.out))
  have hdi := Lib.hid (din_of hDR hDl hID (Rd.of_own hownD))
  have hb := Lib.hid (below_of_grown bw G3.out (Nat.le_refl _))
  clear hC3 hg3 hown hI S2 hC2 hT hownD hID hDR O3 I3
  go_wp2_with fail
  refine bodyPost_ret (v := .tuple #[.slice z S.length cz, .slice t T.length ct, .slice d D.length cd]) (by simp [results, Try.results12, go_sem]) rfl ⟨S, z, cz, T, t, ct, D, d, cd, rfl, S3.out, hl7, hzn.out, hin.out, hTl, hdi.out, hDl, hb.out⟩
end Go.Proofs.Ytjbhmofaackjpaa
