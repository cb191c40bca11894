import Derived.Test.YtjbhmofaackjpaaPjD
import Derived.Test.YtjbhmofaackjpaaPjE
namespace Go.Proofs.Ytjbhmofaackjpaa
open Go.RowKit
set_option maxRecDepth 100000

theorem IRd.grown {w w' : World} {c b : Nat} {L : List Int} (h : IRd w (some ⟨c, 0, none⟩) L) (hg : w.grownBy w' (some b)) (hcb : c ≠ b) : IRd w' (some ⟨c, 0, none⟩) L := by
  obtain ⟨c', off, e, hc, hr⟩ := h
  injection e with e
  injection e with e1 e2
  subst e1 e2
  exact ⟨c, 0, rfl, Nat.lt_of_lt_of_le hc hg.size, fun i v hv => (World.cell?_of_block (hg.block c hc (fun q => hcb (by injection q)))).trans (hr i v hv)⟩
/-- What the draw of a record hands back. -/
def RecPost (b : Nat) (x : Option Addr) (n cap k : Nat) (A : List Int) (w : World) (e : Ending) (w' : World) : Prop :=
  ∃ (a h : Int) (L : List Int) (y : Option Addr) (c k' : Nat), e = .returned (.agg #[.int .i64 a, .int .i64 h, .slice y L.length c]) ∧ a ∈ A ∧ 0 ≤ h ∧ h ≤ 5 ∧ SmI L ∧ L.length ≤ 7 ∧ k ≤ k' ∧ k' ≤ k + 24 ∧
    OwR w' w.heap.size w'.heap.size 3 1 (.slice y L.length c) L.length (iC L) ∧ CurAt w' b x n cap k' ∧ w.grownBy w' (some b)
set_option maxHeartbeats 4000000 in
theorem record_any (b : Nat) (x : Option Addr) (n cap k : Nat) (y : Option Addr) (cy c c2 : Nat) (S : List (ByteArray × Int)) (A : List Int) (w : World) (hk : k + 300 ≤ 1000000000000) (hl : 1 ≤ A.length) (hl2 : A.length ≤ 1000) (hcb : c ≠ b)
    (hA : IRd w (some ⟨c, 0, none⟩) A) (hC : CurAt w b x n cap k) (hB : ByRd w x n) (hD : DrS S) (hS : Rd w y (vC S)) (hyb : ∀ c off, y = some ⟨c, off, none⟩ → some c ≠ some b) :
    Calls Try.prog 64 #[.pointer (some ⟨b, 0, none⟩), .slice y S.length cy, .slice (some ⟨c, 0, none⟩) A.length c2] w (RecPost b x n cap k A w) := by
  have hbs := hC.inside
  have hap := Lib.hid hC.apart
  have hC2 := Lib.hid hC
  have hB2 := Lib.hid hB
  have hS2 := Lib.hid hS
  have hy2 := Lib.hid hyb
  have hA2 := Lib.hid hA
  replace hD := Lib.hid hD
  clear hC hB hS hyb hA
  have N0 := Lib.hid (Wb.new w 40 #[.int .i64 0, .int .i64 0, .slice none 0 0])
  go_enter Try.func64, Try.ntmps64
  go_wp2_with fail
  have G0 := Lib.hid (grown_alloc (grown_refl w (some b)) (.cells #[.int .i64 0, .int .i64 0, .slice none 0 0] 40))
  refine (among_any b x n cap k c c2 A _ (by omega) hl hl2 hcb (hA2.out.grown G0.out hcb) (hC2.out.alloc _) (hB2.out.alloc _)).mono ?_
  rintro e w1 ⟨a, k1, rfl, ha, ka, kb, hC3, hg1⟩
  have G1 := Lib.hid (grown_trans G0.out hg1)
  have N1 := Lib.hid (wb_grown N0.out hg1 (fun j hj => by injection hj with hj; omega))
  replace hC3 := Lib.hid hC3
  replace ha := Lib.hid ha
  clear hg1
  go_wp2_with fail
  refine (pick_any b x n cap k1 6 w1 (by omega) (by omega) (by omega) hC3.out (hB2.out.grown G1.out hap.out)).mono ?_
  rintro e w2 ⟨h, k2, rfl, h0, h1, kc, kd, hC4, hg2⟩
  have G2 := Lib.hid (grown_trans G1.out hg2)
  have N2 := Lib.hid (wb_grown N1.out hg2 (fun j hj => by injection hj with hj; omega))
  replace hC4 := Lib.hid hC4
  clear hg2 hC3
  go_wp2_with fail
  refine (values_any b x n cap k2 y cy S w2 (by omega) hC4.out (hB2.out.grown G2.out hap.out) hD.out (hS2.out.keep G2.out hy2.out) hy2.out).mono ?_
  rintro e w3 ⟨L, v, k3, rfl, hI, hl7, ke, kf, hown, hC5, hg3⟩
  obtain ⟨y5, c5, rfl, -, -⟩ := own_form hown
  have G3 := Lib.hid (grown_trans G2.out hg3)
  have hs2 := G2.out.size
  have hs3 := hg3.size
  have N3 := wb_grown N2.out hg3 (fun j hj => by injection hj with hj; omega)
  have hin := N2.out.inside
  have hin3 := N3.inside
  have d0 := N3.read 0
  have d1 := N3.read 1
  have d2 := N3.read 2
  have e0 := N3.free 0
  have e1 := N3.free 1
  have e2 := N3.free 2
  replace hC5 := Lib.hid hC5
  replace hown := Lib.hid hown
  replace hI := Lib.hid hI
  clear hg3 hC4 N3
  go_wp2
  have ho := hown.out
  refine bodyPost_ret (v := .agg #[.int .i64 a, .int .i64 h, .slice y5 L.length c5]) (by simp [results, Try.results64, go_sem, *]) rfl ⟨a, h, L, y5, c5, k3, rfl, ha.out, h0, by omega, hI.out, hl7, by omega, by omega, ?_, ?_, ?_⟩
  · refine (OwR.of (own_farC (own_farC (own_farC ho ⟨w.heap.size, 0, none⟩ hin _) ⟨w.heap.size, 1, none⟩ hin _) ⟨w.heap.size, 2, none⟩ hin _)).more (by omega) (Nat.le_refl _)
  · exact ((hC5.out.set (by omega) _ _).set (by omega) _ _).set (by omega) _ _
  · exact grown_set (grown_set (grown_set G3.out (Nat.le_refl _) _ _) (Nat.le_refl _) _ _) (Nat.le_refl _) _ _
end Go.Proofs.Ytjbhmofaackjpaa

namespace Go.Proofs.Ytjbhmofaackjpaa
open Go.RowKit
set_option maxRecDepth 100000

theorem RB.keepBy {w w' : World} {g : Nat} {a h : Int} {x : Option Addr} {n c : Nat} {r : Option Nat} (k : RB w g a h x n c) (hg : w.grownBy w' r) (hne : some g ≠ r) : RB w' g a h x n c := by
  have e := hg.block g k.2.2.2 hne
  exact ⟨(World.cell?_of_block (a := ⟨g, 0, none⟩) e).trans k.1, (World.cell?_of_block (a := ⟨g, 1, none⟩) e).trans k.2.1, (World.cell?_of_block (a := ⟨g, 2, none⟩) e).trans k.2.2.1, Nat.lt_of_lt_of_le k.2.2.2 hg.size⟩
theorem InsW.cur {w w1 : World} {lo b : Nat} {v : Value} {T : List PR} (h : InsW w lo v T) (hg : w.grownBy w1 (some b)) (hb : b < lo) : InsW w1 lo v T :=
  ⟨fun k hk => ⟨(h.1 k hk).1, Nat.lt_of_lt_of_le (h.1 k hk).2 hg.size⟩, fun q hq => ⟨(h.2 q hq).1.keep hg (fun c off e e2 => by have := ((h.2 q hq).2.2 c off e).1; injection e2 with e2; omega), (h.2 q hq).2.1, fun c off e => ⟨((h.2 q hq).2.2 c off e).1, Nat.lt_of_lt_of_le ((h.2 q hq).2.2 c off e).2.1 hg.size, ((h.2 q hq).2.2 c off e).2.2⟩⟩⟩
/-- Records that are drawn. -/
def DrR (T : List PR) : Prop := ∀ q ∈ T, (-1 ≤ q.a ∧ q.a ≤ 100) ∧ (-1 ≤ q.h ∧ q.h ≤ 1000) ∧ SmI q.L ∧ q.L.length ≤ 8 ∧ RCap q
theorem DrR.nil : DrR [] := fun q hq => by cases hq
theorem DrR.snoc {T : List PR} {q : PR} (h : DrR T) (hq : (-1 ≤ q.a ∧ q.a ≤ 100) ∧ (-1 ≤ q.h ∧ q.h ≤ 1000) ∧ SmI q.L ∧ q.L.length ≤ 8 ∧ RCap q) : DrR (T ++ [q]) := fun p hp => by
  rcases List.mem_append.1 hp with hp | hp
  · exact h p hp
  · rw [List.mem_singleton] at hp; subst hp; exact hq
theorem InsW.nil (w : World) (lo : Nat) : InsW w lo (.slice none 0 0) [] := ⟨fun k hk => (by cases hk), fun q hq => (by cases hq)⟩
/-- What the draw of data hands back. -/
def DatPost (b : Nat) (x : Option Addr) (n cap k more hi : Nat) (w : World) (e : Ending) (w' : World) : Prop :=
  ∃ (T : List PR) (v : Value) (k' : Nat), e = .returned v ∧ DrR T ∧ T.length ≤ hi ∧ k ≤ k' ∧ k' ≤ k + more ∧ w'.ownsRow w.heap.size 40 3 v T.length (pC T) ∧ InsW w' w.heap.size v T ∧ CurAt w' b x n cap k' ∧ w.grownBy w' (some b)

theorem Rd.oneR_at (w : World) (t : TypeId) (a h : Int) (x : Option Addr) (n c g : Nat) (hg : w.heap.size = g) : Rd (w.alloc (.cells #[.int .i64 a, .int .i64 h, .slice x n c] t)) (some ⟨g, 0, none⟩) [.int .i64 a, .int .i64 h, .slice x n c] := by
  subst hg; exact Rd.oneR w t a h x n c
set_option maxHeartbeats 8000000 in
theorem data_any (b : Nat) (x : Option Addr) (n cap k : Nat) (y : Option Addr) (cy c c2 : Nat) (S : List (ByteArray × Int)) (A : List Int) (w : World) (hk : k + 2000 ≤ 1000000000000) (hl : 1 ≤ A.length) (hl2 : A.length ≤ 1000) (hcb : c ≠ b) (hAb : ∀ a ∈ A, -1 ≤ a ∧ a ≤ 100)
    (hA : IRd w (some ⟨c, 0, none⟩) A) (hC : CurAt w b x n cap k) (hB : ByRd w x n) (hD : DrS S) (hS : Rd w y (vC S)) (hyb : ∀ c off, y = some ⟨c, off, none⟩ → some c ≠ some b) :
    Calls Try.prog 49 #[.pointer (some ⟨b, 0, none⟩), .slice y S.length cy, .slice (some ⟨c, 0, none⟩) A.length c2] w (DatPost b x n cap k 400 22 w) := by
  obtain ⟨i0, hi, hz0, hz1, hz2⟩ := info_parts Try.infoRec
  have hbs := hC.inside
  have hap := Lib.hid hC.apart
  have hC2 := Lib.hid hC
  have hB2 := Lib.hid hB
  have hS2 := Lib.hid hS
  have hy2 := Lib.hid hyb
  have hA2 := Lib.hid hA
  have hAb2 := Lib.hid hAb
  replace hD := Lib.hid hD
  clear hC hB hS hyb hA hAb
  go_enter Try.func49, Try.ntmps49
  go_wp2_with fail
  refine (pick_any b x n cap k 12 w (by omega) (by omega) (by omega) hC2.out hB2.out).mono ?_
  rintro e w1 ⟨m, k1, rfl, m0, m1, ka, kb, hC3, hg1⟩
  obtain ⟨j0, rfl⟩ := Int.eq_ofNat_of_zero_le m0
  have hs1 := hg1.size
  replace hC3 := Lib.hid hC3
  replace hg1 := Lib.hid hg1
  go_wp2_with fail
  go_loopw [7, 8] (fun v c wr => ∃ (j kk : Nat) (T : List PR), j ≤ 11 ∧ T.length + 2 * j ≤ 22 ∧ k ≤ kk ∧ kk + 30 * j ≤ k + 332 ∧ c = .int .i64 j ∧ wr.ownsRow w.heap.size 40 3 v T.length (pC T) ∧ Hid (DrR T) ∧ Hid (InsW wr w.heap.size v T) ∧ Hid (CurAt wr b x n cap kk) ∧ Hid (w.grownBy wr (some b))) (fun _ c _ => (intOf c).toNat)
  case atStart => exact ⟨j0, k1, [], by omega, by simp; omega, by omega, by omega, rfl, World.ownsRow_nil _ _ _ _, DrR.nil, InsW.nil _ _, hC3.out, hg1.out⟩
  case round =>
    clear hC3 hg1 hs1
    obtain ⟨j, kk, T, hj, hTl, hk1, hk2, rfl, hown, hBd, hIn, hC, hg⟩ := hrel
    have hbr := hC.out.inside
    have hws := hg.out.size
    obtain ⟨vx, vc, rfl, -, -⟩ := (OwR.of hown).form
    replace hown := Lib.hid hown
    by_cases hlt : 0 < j
    · obtain ⟨i, rfl⟩ : ∃ i, j = i + 1 := ⟨j - 1, by omega⟩
      have hlt' : (0 : Int) < ((i + 1 : Nat) : Int) := by omega
      have hTn : T.length ≤ 20 := by omega
      go_wp2_with fail
      refine (record_any b x n cap kk y cy c c2 S A wr (by omega) hl hl2 hcb (hA2.out.grown hg.out hcb) hC.out (hB2.out.grown hg.out hap.out) hD.out (hS2.out.keep hg.out hy2.out) hy2.out).mono ?_
      rintro e w2 ⟨a, h, L, y5, c5, k2, rfl, ha, h0, h1, hI, hl7, kc, kd, ho2, hC3, hg3⟩
      obtain ⟨y6, c6, he, hcap, hnil⟩ := ho2.form
      injection he with e1 _ e2
      subst e1 e2
      have hab := hAb2.out a ha
      have G2 := Lib.hid (grown_trans hg.out hg3)
      have O2 := Lib.hid (own_cur2 hown.out (by omega) hg3)
      have I2 := Lib.hid (hIn.out.cur hg3 (by omega))
      have hs2 := hg3.size
      have hq := Lib.hid (show DrR (T ++ [(⟨a, h, y5, c5, L⟩ : PR)]) from hBd.out.snoc ⟨hab, ⟨by show -1 ≤ h; omega, by show h ≤ 1000; omega⟩, hI, by show L.length ≤ 8; omega, hcap, hnil⟩)
      have hvl := Lib.hid (fun k hk => (hIn.out.1 k hk).2)
      have R2 := Lib.hid ho2
      replace hC3 := Lib.hid hC3
      have hbx2 := Lib.hid (RB.new w2 a h y5 L.length c5 40)
      obtain ⟨xa2, xb2, xc2, xd2⟩ := hbx2.out
      replace hnil := Lib.hid hnil
      clear hg3 hIn hown hC hg ho2 hBd hI ha
      go_wp2_with (at_builtin; go_loud (refine wpList_append_rd _ rfl (.tmp 20) (.tmp 22) 35 rfl w.heap.size 40 i0 (.agg #[.int .i64 0, .int .i64 0, .slice none 0 0]) 3 40 Try.underlying35 hi hz0 hz1 hz2 rfl (by decide) _ T.length (pC T) rfl ((O2.out.alloc _).alloc _) _ 1 1 rfl (Nat.le_refl _) (by intro h; cases h) (pC [(⟨a, h, y5, c5, L⟩ : PR)]) rfl (Rd.oneR_at _ _ _ _ _ _ _ _ (by simp)) (pC_one _) (by unfold maxLen; omega) (by omega) (by simp; omega) ?_); intro v3 w3 hown3 hgrow3 hwhere3)
      have hlow := Lib.hid O2.out.lt
      have hgr : ((w2.alloc (.cells #[.int .i64 a, .int .i64 h, .slice y5 L.length c5] 40)).alloc (.cells #[.int .i64 a, .int .i64 h, .slice y5 L.length c5] 40)).grownBy w3 (Value.ownBlock (.slice vx T.length vc)) := hgrow3
      have hs3 : w2.heap.size + 2 ≤ w3.heap.size := by have := hgr.size; simp at this; omega
      have G3 := Lib.hid (grown_far (grown_alloc (grown_alloc G2.out _) _) hgr (fun j hj => (hlow.out j hj).1))
      have C3 := Lib.hid (((hC3.out.alloc _).alloc _).far hgr (fun j hj => by have := (hlow.out j hj).1; omega))
      have B2 : Below w2.heap.size w2 ((w2.alloc (.cells #[.int .i64 a, .int .i64 h, .slice y5 L.length c5] 40)).alloc (.cells #[.int .i64 a, .int .i64 h, .slice y5 L.length c5] 40)) := ((Below.refl _ _).alloc (Nat.le_refl _) _).alloc (by simp) _
      have hbx3 := Lib.hid ((hbx2.out.below ((Below.refl _ _).alloc (Nat.le_refl _) (.cells #[.int .i64 a, .int .i64 h, .slice y5 L.length c5] 40))).keepBy hgr (fun e => by have := (hlow.out _ e.symm).2; omega))
      obtain ⟨xa3, xb3, xc3, xd3⟩ := hbx3.out
      have hsn := (I2.out.below B2).snoc (q := ⟨a, h, y5, c5, L⟩) (R2.out.rd.below B2) (by show L.length ≤ 1048576; omega) (fun b off e => by
          have h1 := R2.out.inr b off e
          refine ⟨by omega, by simp; omega, ?_⟩
          intro e2
          have := hvl.out b e2
          omega)
      have hown4 := Lib.hid (own_eq hown3 (show T.length + 1 = (T ++ [(⟨a, h, y5, c5, L⟩ : PR)]).length by simp) (pC_app T [(⟨a, h, y5, c5, L⟩ : PR)]).symm)
      obtain ⟨g3, vc3, rfl⟩ := own_some hown3 (by omega)
      have I3 := Lib.hid (hsn.row hgr hwhere3 (fun k hk => by injection hk with hk; subst hk; exact (own_lt hown3).2) (by simp; omega))
      clear hgrow3 hwhere3 hown3 hgr B2 hsn xa2 xb2 xc2 xd2 hbx2 hC3 O2 I2 hvl R2 hlow
      go_wp2_with fail
      refine (one_any b x n cap k2 4 w3 (by omega) (by omega) (by omega) C3.out (hB2.out.grown G3.out hap.out)).mono ?_
      rintro e w4 ⟨t4, k4, rfl, ke, kf, hC4, hg4⟩
      have G4 := Lib.hid (grown_trans G3.out hg4)
      have O4 := Lib.hid (own_cur2 hown4.out (by omega) hg4)
      have I4 := Lib.hid (I3.out.cur hg4 (by omega))
      have hs4 := hg4.size
      have hbx4 := Lib.hid (hbx3.out.keepBy hg4 (fun e => by injection e with e; omega))
      obtain ⟨xa4, xb4, xc4, xd4⟩ := hbx4.out
      replace hC4 := Lib.hid hC4
      clear hg4 C3 G3 hown4 I3 xa3 xb3 xc3 xd3 hbx3
      cases t4
      · go_wp2_with fail
        go_roundw
        case rel => exact ⟨i, k4, T ++ [(⟨a, h, y5, c5, L⟩ : PR)], by omega, by simp; omega, by omega, by omega, by go_num, O4.out, hq.out, I4.out, hC4.out, G4.out⟩
        case measure => simp [intOf]
      · obtain ⟨hr4, hl4, hi4⟩ := I4.out.2 (⟨a, h, y5, c5, L⟩ : PR) (by simp)
        replace hr4 := Lib.hid hr4
        replace hi4 := Lib.hid hi4
        go_wp2_with fail
        refine (rOwn_any a h y5 c5 L _ hl4 hcap hnil.out hr4.out).mono ?_
        rintro e w5 ⟨x5, c6, rfl, ho5, hb5⟩
        obtain ⟨y6, c7, he, hcap6, hnil6⟩ := ho5.form
        injection he with e1 _ e2
        subst e1 e2
        have hq5 := Lib.hid (show DrR ((T ++ [(⟨a, h, y5, c5, L⟩ : PR)]) ++ [(⟨a, h, x5, c6, L⟩ : PR)]) from hq.out.snoc ⟨(hq.out (⟨a, h, y5, c5, L⟩ : PR) (by simp)).1, (hq.out (⟨a, h, y5, c5, L⟩ : PR) (by simp)).2.1, (hq.out (⟨a, h, y5, c5, L⟩ : PR) (by simp)).2.2.1, by show L.length ≤ 8; omega, hcap6, hnil6⟩)
        have hs5 := hb5.size
        have O5 := Lib.hid (own_below O4.out hb5)
        have I5 := Lib.hid (I4.out.below hb5)
        have C5 := Lib.hid (hC4.out.below hb5)
        have G5 := Lib.hid (grown_trans G4.out (grown_of_below hb5 b))
        have hvl := Lib.hid (fun k hk => (I4.out.1 k hk).2)
        have R5 := Lib.hid ho5
        have hTl1 : (T ++ [(⟨a, h, y5, c5, L⟩ : PR)]).length = T.length + 1 := by simp
        replace hnil6 := Lib.hid hnil6
        clear hb5 ho5 O4 I4 hC4 G4 hbx4 xa4 xb4 xc4 xd4 hr4 hi4
        obtain ⟨T2, hT2⟩ : ∃ T2, T2 = T ++ [(⟨a, h, y5, c5, L⟩ : PR)] := ⟨_, rfl⟩
        rw [← hT2] at O5 I5 hq5 hTl1
        replace hT2 := Lib.hid hT2
        go_wp2_with (at_builtin; go_loud (refine wpList_append_rd _ rfl (.tmp 26) (.tmp 29) 35 rfl w.heap.size 40 i0 (.agg #[.int .i64 0, .int .i64 0, .slice none 0 0]) 3 40 Try.underlying35 hi hz0 hz1 hz2 rfl (by decide) _ T2.length (pC T2) rfl (O5.out.alloc _) _ 1 1 rfl (Nat.le_refl _) (by intro h; cases h) (pC [(⟨a, h, x5, c6, L⟩ : PR)]) rfl (Rd.oneR_at _ _ _ _ _ _ _ _ (by simp)) (pC_one _) (by unfold maxLen; omega) (by omega) (by simp; omega) ?_); intro v6 w6 hown6 hgrow6 hwhere6)
        have hlow := Lib.hid O5.out.lt
        have hgr : (w5.alloc (.cells #[.int .i64 a, .int .i64 h, .slice x5 L.length c6] 40)).grownBy w6 (Value.ownBlock (.slice (some ⟨g3, 0, none⟩) (T.length + 1) vc3)) := hgrow6
        have hs6 : w5.heap.size + 1 ≤ w6.heap.size := by have := hgr.size; simp at this; omega
        have G6 := Lib.hid (grown_far (grown_alloc G5.out _) hgr (fun j hj => (hlow.out j hj).1))
        have C6 := Lib.hid ((C5.out.alloc _).far hgr (fun j hj => by have := (hlow.out j hj).1; omega))
        have B5 : Below w5.heap.size w5 (w5.alloc (.cells #[.int .i64 a, .int .i64 h, .slice x5 L.length c6] 40)) := (Below.refl _ _).alloc (Nat.le_refl _) _
        have hsn := (I5.out.below B5).snoc (q := ⟨a, h, x5, c6, L⟩) (R5.out.rd.below B5) (by show L.length ≤ 1048576; omega) (fun b off e => by
            have h1 := R5.out.inr b off e
            refine ⟨by omega, by simp; omega, ?_⟩
            intro e2
            have := hvl.out b e2
            omega)
        have hown7 := Lib.hid (own_eq hown6 (show T2.length + 1 = (T2 ++ [(⟨a, h, x5, c6, L⟩ : PR)]).length by simp) (pC_app T2 [(⟨a, h, x5, c6, L⟩ : PR)]).symm)
        obtain ⟨g6, vc6, rfl⟩ := own_some hown6 (by omega)
        have I6 := Lib.hid (hsn.row hgr hwhere6 (fun k hk => by injection hk with hk; subst hk; exact (own_lt hown6).2) (by simp; omega))
        clear hgrow6 hwhere6 hown6 hgr B5 hsn C5 O5 I5 hvl R5 hlow
        go_roundw
        case rel => exact ⟨i, k4, T2 ++ [(⟨a, h, x5, c6, L⟩ : PR)], by omega, by simp; omega, by omega, by omega, by go_num, hown7.out, hq5.out, I6.out, C6.out, G6.out⟩
        case measure => simp [intOf]
    · have hj0 : j = 0 := by omega
      subst hj0
      go_wp2_with fail
      go_ret
      exact ⟨T, _, kk, rfl, hBd.out, by omega, by omega, by omega, hown.out, hIn.out, hC.out, hg.out⟩
end Go.Proofs.Ytjbhmofaackjpaa
