/-
  The model's draws of chapter 2: any schema.
-/
import Derived.Test.YtcmfoclalcmamabGreatDoorDrwS
import Derived.Test.YtcmfoclalcmamabGreatDoorTxt
namespace Go.Proofs.YtcmfoclalcmamabGreatDoor
open Go.RowKit
set_option maxRecDepth 100000

theorem Rd.litS (w : World) (L : List ByteArray) (ty : TypeId) : Rd (w.alloc (.cells (L.map Value.string).toArray ty)) (some ⟨w.heap.size, 0, none⟩) (tC L) := by
  refine Or.inr ⟨w.heap.size, 0, rfl, by simp, fun j u hj => ?_⟩
  rw [World.cell?_alloc_at _ _ _ _ rfl, Nat.zero_add, List.getElem?_toArray]
  exact hj
def OfPost (b : Nat) (x : Option Addr) (n cap k : Nat) (L : List ByteArray) (w : World) (e : Ending) (w' : World) : Prop :=
  ∃ (s : ByteArray) (k' : Nat), e = .returned (.string s) ∧ s ∈ L ∧ k ≤ k' ∧ k' ≤ k + 2 ∧ CurAt w' b x n cap k' ∧ w.grownBy w' (some b)
set_option maxHeartbeats 1000000 in
theorem of_any (b : Nat) (x : Option Addr) (n cap k c : Nat) (c2 : Nat) (L : List ByteArray) (w : World) (hk : k + 2 ≤ 1000000000000) (hl : 1 ≤ L.length) (hl2 : L.length ≤ 1000) (hcb : c ≠ b)
    (hL : Rd w (some ⟨c, 0, none⟩) (tC L)) (hC : CurAt w b x n cap k) (hB : ByRd w x n) :
    Calls Tryz.prog 114 #[.pointer (some ⟨b, 0, none⟩), .slice (some ⟨c, 0, none⟩) L.length c2] w (OfPost b x n cap k L w) := by
  have hC2 := Lib.hid hC
  have hB2 := Lib.hid hB
  have hL2 := Lib.hid hL
  clear hC hB hL
  go_enter Tryz.func114, Tryz.ntmps114
  go_wp2_with fail
  refine (pick_any b x n cap k L.length w hk (by omega) (by omega) hC2.out hB2.out).mono ?_
  rintro e w1 ⟨v, k', rfl, v0, v1, k0, k1, hC3, hg⟩
  have hC3 := Lib.hid hC3
  obtain ⟨i, rfl⟩ := Int.eq_ofNat_of_zero_le v0
  have hi : i < L.length := by omega
  obtain ⟨c', off, s, e1, hc, hLi, hr⟩ := hL2.out.text hi
  injection e1 with e1
  injection e1 with e1 e2
  subst e1 e2
  rw [Nat.zero_add] at hr
  have hcell : w1.cell? ⟨c, i, none⟩ = some (.string s) := (World.cell?_of_block (hg.block c hc (fun q => hcb (by injection q)))).trans hr
  have hmem := Lib.hid (List.mem_of_getElem? hLi)
  clear hLi hr
  go_wp2
  go_ret
  exact ⟨s, k', rfl, hmem.out, k0, k1, hC3.out, hg⟩
theorem vC_nam0 {S : List (ByteArray × Int)} {nm nm' : ByteArray} {lv : Int} (h : S[0]? = some (nm, lv)) : vC (S.set 0 (nm', lv)) = (vC S).set 0 (.string nm') := by
  cases S with
  | nil => cases h
  | cons p r =>
    simp at h
    subst h
    rfl
theorem vC_lev0 {S : List (ByteArray × Int)} {nm : ByteArray} {lv lv' : Int} (h : S[0]? = some (nm, lv)) : vC (S.set 0 (nm, lv')) = (vC S).set 1 (.int .i64 lv') := by
  cases S with
  | nil => cases h
  | cons p r =>
    simp at h
    subst h
    rfl
theorem Rd.oneV_at (w : World) (t : TypeId) (s : ByteArray) (n : Int) (g : Nat) (h : w.heap.size = g) : Rd (w.alloc (.cells #[.string s, .int .i64 n] t)) (some ⟨g, 0, none⟩) (vC [(s, n)]) := by subst h; exact Rd.oneV w t s n
theorem grown_setAt {w w' : World} {b g : Nat} (h : w.grownBy w' (some b)) (hg : w.heap.size ≤ g) (o : Nat) (v : Value) : w.grownBy (w'.setCell ⟨g, o, none⟩ v) (some b) := grown_set h hg o v
set_option maxHeartbeats 8000000 in
theorem anySchema_any (b : Nat) (x : Option Addr) (n cap k : Nat) (w : World) (hk : k + 200 ≤ 1000000000000) (hC : CurAt w b x n cap k) (hB : ByRd w x n) :
    Calls Tryz.prog 48 #[.pointer (some ⟨b, 0, none⟩)] w (SchPost b x n cap k 100 0 7 w) := by
  obtain ⟨i0, hi, hz0, hz1, hz2⟩ := info_parts Tryz.infoVar
  have hbs := hC.inside
  have hap := Lib.hid hC.apart
  have hC2 := Lib.hid hC
  have hB2 := Lib.hid hB
  clear hC hB
  go_enter Tryz.func48, Tryz.ntmps48
  go_wp2_with fail
  refine (schema_any b x n cap k _ (by omega) hC2.out hB2.out).mono ?_
  rintro e w1 ⟨S, v, k1, rfl, hD, hl1, hl3, ka, kb, hown, hC1, hg1⟩
  obtain ⟨g, cg, rfl⟩ := own_some2 hown (by omega)
  have hgl := own_lt hown
  have hs1 := hg1.size
  have hgb : g ≠ b := by omega
  replace hown := Lib.hid hown
  replace hC1 := Lib.hid hC1
  replace hg1 := Lib.hid hg1
  replace hD := Lib.hid hD
  go_wp2_with fail
  refine (pick_any b x n cap k1 24 _ (by omega) (by omega) (by omega) hC1.out (hB2.out.grown hg1.out hap.out)).mono ?_
  rintro e w2 ⟨m, k2, rfl, m0, m1, kc, kd, hC3, hg2⟩
  have G2 := Lib.hid (grown_trans hg1.out hg2)
  have O2 := Lib.hid (own_cur2 hown.out (by omega) hg2)
  have hs2 := hg2.size
  replace hC3 := Lib.hid hC3
  clear hown hC1 hg1 hg2
  have hS0 : S[0]? = some (S[0].1, S[0].2) := List.getElem?_eq_getElem (by omega)
  have hp0 := hD.out.2 _ (List.mem_of_getElem? hS0)
  have hlp : (0 : Int) < (S.length : Int) := by omega
  by_cases e0 : m = 0
  · subst e0
    go_wp2_with fail
    refine (among_any b x n cap k2 w2.heap.size _ [1, 8, 9] _ (by omega) (by simp) (by simp) (by have := hC3.out.inside; omega) (IRd.lit w2 [1, 8, 9] 3) (hC3.out.alloc _) ((hB2.out.grown G2.out hap.out).alloc _)).mono ?_
    rintro e w3 ⟨lv, k3, rfl, hmem, ke, kf, hC4, hg3⟩
    have hlv : 1 ≤ lv ∧ lv ≤ 9 := by simp at hmem; omega
    have hg3' := grown_trans (grown_alloc (grown_refl w2 (some b)) _) hg3
    have G3 := Lib.hid (grown_trans G2.out hg3')
    have O3 := Lib.hid (own_cur2 O2.out (by omega) hg3')
    obtain ⟨u, hu, c0⟩ := own_cell O3.out (j := 1) (by omega)
    have c1 := O3.out.frozenAt 1
    replace hC4 := Lib.hid hC4
    replace hu := Lib.hid hu
    replace hS0 := Lib.hid hS0
    clear hmem hg3
    go_wp2_with fail
    go_ret
    have hr := (O3.out.stored 1 (.int .i64 lv)).1
    rw [← vC_lev0 hS0.out] at hr
    refine ⟨S.set 0 (S[0].1, lv), _, k3, ?_, hD.out.set 0 ⟨hp0.1, hlv.1, hlv.2⟩, by omega, by simp; omega, by omega, by omega, own_eq hr (by simp) rfl, hC4.out.set hgb 1 _, grown_setAt G3.out (by omega) 1 _⟩
    simp
  by_cases e1 : m = 1
  · subst e1
    go_wp2_with fail
    refine (of_any b x n cap k2 w2.heap.size _ [⟨#[]⟩, ⟨#[65, 103, 101]⟩, ⟨#[97, 98, 99, 100, 101, 102, 103, 104, 105]⟩, ⟨#[97, 103, 101]⟩, ⟨#[97, 98, 32, 99, 100]⟩] _ (by omega) (by simp) (by simp) (by have := hC3.out.inside; omega) (Rd.litS w2 _ 9) (hC3.out.alloc _) ((hB2.out.grown G2.out hap.out).alloc _)).mono ?_
    rintro e w3 ⟨nm, k3, rfl, hmem, ke, kf, hC4, hg3⟩
    have hnm : nm.size ≤ 9 := by
      simp only [List.mem_cons, List.not_mem_nil, or_false] at hmem
      rcases hmem with rfl | rfl | rfl | rfl | rfl <;> decide
    have hg3' := grown_trans (grown_alloc (grown_refl w2 (some b)) _) hg3
    have G3 := Lib.hid (grown_trans G2.out hg3')
    have O3 := Lib.hid (own_cur2 O2.out (by omega) hg3')
    obtain ⟨u, hu, c0⟩ := own_cell O3.out (j := 0) (by omega)
    have c1 := O3.out.frozenAt 0
    replace hC4 := Lib.hid hC4
    replace hu := Lib.hid hu
    replace hS0 := Lib.hid hS0
    clear hmem hg3
    go_wp2_with fail
    go_ret
    have hr := (O3.out.stored 0 (.string nm)).1
    rw [← vC_nam0 hS0.out] at hr
    refine ⟨S.set 0 (nm, S[0].2), _, k3, ?_, hD.out.set 0 ⟨hnm, hp0.2.1, hp0.2.2⟩, by omega, by simp; omega, by omega, by omega, own_eq hr (by simp) rfl, hC4.out.set hgb 0 _, grown_setAt G3.out (by omega) 0 _⟩
    simp
  by_cases e2 : m = 2
  · subst e2
    go_wp2_with fail
    go_ret
    exact ⟨[], _, k2, rfl, DrS.nil, by simp, by simp, by omega, by omega, World.ownsRow_nil _ _ _ _, hC3.out, G2.out⟩
  by_cases e3 : m = 3
  · subst e3
    have hz := hs1
    go_wp2_with fail
    go_loopw [3] (fun v wr => ∃ (kk : Nat) (L : List (ByteArray × Int)), L.length ≤ 7 ∧ 1 ≤ L.length ∧ k ≤ kk ∧ kk ≤ k + 30 + 2 * L.length ∧ wr.ownsRow w.heap.size 99 2 v L.length (vC L) ∧ Hid (DrS L) ∧ Hid (CurAt wr b x n cap kk) ∧ Hid (w.grownBy wr (some b))) (fun v _ => 8 - lenV v)
    case atStart => exact ⟨k2, S, by omega, hl1, by omega, by omega, O2.out, hD.out, hC3.out, G2.out⟩
    case round =>
      clear O2 hC3 G2 hD hS0 hp0 hlp hgl hgb
      obtain ⟨kk, L, hL7, hL1, hk1, hk2, hown, hDL, hC, hG⟩ := hrel
      have hbr := hC.out.inside
      have hws := hG.out.size
      obtain ⟨g2, c2, rfl⟩ := own_some2 hown (by omega)
      replace hown := Lib.hid hown
      go_wp2_with fail
      refine (pick_any b x n cap kk 2 _ (by omega) (by omega) (by omega) hC.out (hB2.out.grown hG.out hap.out)).mono ?_
      rintro e w4 ⟨q, k4, rfl, q0, q1, ke, kf, hC4, hg4⟩
      have G4 := Lib.hid (grown_trans hG.out hg4)
      have O4 := Lib.hid (own_cur2 hown.out (by omega) hg4)
      have hs4 := hg4.size
      replace hC4 := Lib.hid hC4
      clear hown hC hG hg4
      by_cases hl : (L.length : Int) < 6 + q
      · have hcv := conv_byte (97 + (L.length : Int)) (by omega) (by omega)
        have hb1 := byteT_len (97 + (L.length : Int))
        have h120 : (⟨#[120]⟩ : ByteArray).size = 1 := rfl
        have hsz : ¬ 9223372036854775807 < (⟨#[120]⟩ : ByteArray).size + (byteT (97 + (L.length : Int))).size := by rw [hb1, h120]; omega
        have hns : Hid ((⟨#[120]⟩ ++ byteT (97 + (L.length : Int))).size ≤ 9) := by unfold Hid; rw [ByteArray.size_append, hb1, h120]; omega
        have q6 : IntKind.u8.wrap (97 + (L.length : Int)) = 97 + (L.length : Int) := by simp [IntKind.wrap, IntKind.bits, IntKind.signed]; omega
        clear hb1 h120
        go_wp2_with (at_builtin; go_loud (refine wpList_append_rd _ rfl (.tmp 34) (.tmp 43) 23 rfl w.heap.size 99 i0 (.agg #[.string ⟨#[]⟩, .int .i64 0]) 2 24 Tryz.underlying23 hi hz0 hz1 hz2 rfl (by decide) _ L.length (vC L) rfl ((O4.out.alloc _).alloc _) _ 1 1 rfl (Nat.le_refl _) (by intro h; cases h) (vC [(⟨#[120]⟩ ++ byteT (97 + (L.length : Int)), 2)]) rfl (Rd.oneV_at _ _ _ _ _ (by simp)) (vC_one _) (by unfold maxLen; omega) (by omega) (by simp; omega) ?_); intro v5 w5 hown5 hgrow5 hwhere5)
        have hlow := Lib.hid O4.out.lt
        have G5 := Lib.hid (grown_far (grown_alloc (grown_alloc G4.out _) _) hgrow5 (fun j hj => (hlow.out j hj).1))
        have C5 := Lib.hid (((hC4.out.alloc _).alloc _).far hgrow5 (fun j hj => by have := (hlow.out j hj).1; omega))
        have hown6 := own_eq (n' := (L ++ [((⟨#[120]⟩ : ByteArray) ++ byteT (97 + (L.length : Int)), (2 : Int))]).length) hown5 (by simp) (vC_app _ _).symm
        have hlv := own_lenV hown6
        clear hgrow5 hwhere5 hown5
        go_roundw
        case rel => exact ⟨k4, _, by simp; omega, by simp, by omega, by simp; omega, hown6, hDL.out.snoc (by omega) ⟨hns.out, (by show (1 : Int) ≤ 2; decide), (by show (2 : Int) ≤ 9; decide)⟩, C5.out, G5.out⟩
        case measure =>
          rw [hlv]
          simp [lenV]
          omega
      · go_wp2_with fail
        go_ret
        exact ⟨L, _, k4, rfl, hDL.out, by omega, by omega, by omega, by omega, O4.out, hC4.out, G4.out⟩
  · go_wp2_with fail
    go_ret
    exact ⟨S, _, k2, rfl, hD.out, by omega, by omega, by omega, by omega, O2.out, hC3.out, G2.out⟩
end Go.Proofs.YtcmfoclalcmamabGreatDoor
