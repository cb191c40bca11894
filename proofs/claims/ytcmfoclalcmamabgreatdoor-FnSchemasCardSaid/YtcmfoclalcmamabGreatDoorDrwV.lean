/-
  The model's draws of chapter 2: values.
-/
import Derived.Test.YtcmfoclalcmamabGreatDoorDrwT
namespace Go.Proofs.YtcmfoclalcmamabGreatDoor
open Go.RowKit
set_option maxRecDepth 100000

/-- Numbers that are drawn. -/
def SmI (L : List Int) : Prop := ∀ n ∈ L, -1 ≤ n ∧ n ≤ 9
theorem SmI.nil : SmI [] := fun n hn => by cases hn
theorem SmI.snoc {L : List Int} {n : Int} (h : SmI L) (h1 : -1 ≤ n) (h2 : n ≤ 9) : SmI (L ++ [n]) := by
  intro m hm
  rcases List.mem_append.1 hm with hm | hm
  · exact h m hm
  · simp at hm
    subst hm
    exact ⟨h1, h2⟩
theorem SmI.set {L : List Int} {n : Int} (h : SmI L) (k : Nat) (h1 : -1 ≤ n) (h2 : n ≤ 9) : SmI (L.set k n) := by
  intro m hm
  rcases List.mem_or_eq_of_mem_set hm with hm | rfl
  · exact h m hm
  · exact ⟨h1, h2⟩
theorem Rd.oneI_at (w : World) (t : TypeId) (n : Int) (g : Nat) (h : w.heap.size = g) : Rd (w.alloc (.cells #[.int .i64 n] t)) (some ⟨g, 0, none⟩) (iC [n]) := by
  subst h
  refine Or.inr ⟨w.heap.size, 0, rfl, by simp, fun j u hj => ?_⟩
  have : j = 0 := by
    have := (List.getElem?_eq_some_iff.1 hj).1
    simp [iC] at this
    exact this
  subst this
  simp [iC] at hj
  subst hj
  rw [World.cell?_alloc_at _ _ _ _ rfl]
  rfl
theorem iC_app (A B : List Int) : iC (A ++ B) = iC A ++ iC B := by unfold iC; rw [List.map_append]
def ValPost (b : Nat) (x : Option Addr) (n cap k more hi : Nat) (w : World) (e : Ending) (w' : World) : Prop :=
  ∃ (L : List Int) (v : Value) (k' : Nat), e = .returned v ∧ SmI L ∧ L.length ≤ hi ∧ k ≤ k' ∧ k' ≤ k + more ∧ w'.ownsRow w.heap.size 3 1 v L.length (iC L) ∧ CurAt w' b x n cap k' ∧ w.grownBy w' (some b)
set_option maxHeartbeats 4000000 in
theorem values_any (b : Nat) (x : Option Addr) (n cap k : Nat) (y : Option Addr) (cy : Nat) (S : List (ByteArray × Int)) (w : World) (hk : k + 200 ≤ 1000000000000) (hC : CurAt w b x n cap k) (hB : ByRd w x n) (hD : DrS S) (hS : Rd w y (vC S)) (hyb : ∀ c off, y = some ⟨c, off, none⟩ → some c ≠ some b) :
    Calls Tryz.prog 122 #[.pointer (some ⟨b, 0, none⟩), .slice y S.length cy] w (ValPost b x n cap k 20 7 w) := by
  obtain ⟨i0, hi, hz0, hz1, hz2⟩ := info_parts Tryz.infoInt
  have hbs := hC.inside
  have hap := Lib.hid hC.apart
  have hC2 := Lib.hid hC
  have hB2 := Lib.hid hB
  have hS2 := Lib.hid hS
  have hy2 := Lib.hid hyb
  have hl7 := hD.1
  replace hD := Lib.hid hD
  clear hC hB hS hyb
  go_enter Tryz.func122, Tryz.ntmps122
  go_wp2_with fail
  go_loopw [5, 10] (fun v c wr => ∃ (i kk : Nat) (L : List Int), i ≤ S.length ∧ L.length = i ∧ k ≤ kk ∧ kk ≤ k + 2 * i ∧ c = .int .i64 i ∧ wr.ownsRow w.heap.size 3 1 v L.length (iC L) ∧ Hid (SmI L) ∧ Hid (CurAt wr b x n cap kk) ∧ Hid (w.grownBy wr (some b))) (fun _ c _ => S.length - (intOf c).toNat)
  case atStart => exact ⟨0, k, [], by omega, rfl, Nat.le_refl _, by omega, rfl, World.ownsRow_nil _ _ _ _, SmI.nil, hC2.out, grown_refl _ _⟩
  case round =>
    obtain ⟨i, kk, L, hi3, hLi, hk1, hk2, rfl, hown, hI, hC, hg⟩ := hrel
    have hbr := hC.out.inside
    have hws := hg.out.size
    have hLn : L.length ≤ 7 := by omega
    replace hown := Lib.hid hown
    replace hLi := Lib.hid hLi
    by_cases hlt : i < S.length
    · obtain ⟨bl, off, nm, lv, hy, hbl, hSi, hc0, hc1⟩ := (hS2.out.keep hg.out hy2.out).var hlt
      subst hy
      obtain ⟨l1, l2⟩ := hD.out.at hSi
      clear hSi
      have hlt' : (i : Int) < (S.length : Int) := by omega
      go_wp2_with fail
      refine (pick_any b x n cap kk lv _ (by omega) (by omega) (by omega) (hC.out.alloc _) ((hB2.out.grown hg.out hap.out).alloc _)).mono ?_
      rintro e w2 ⟨m, k2, rfl, m0, m1, ka, kb, hC3, hg3⟩
      have hg3' := grown_trans (grown_alloc (grown_refl wr (some b)) _) hg3
      have G2 := Lib.hid (grown_trans hg.out hg3')
      have O2 := Lib.hid (own_cur2 hown.out (by omega) hg3')
      have hs2 := G2.out.size
      replace hC3 := Lib.hid hC3
      clear hown hC hg hg3 hg3' hc0 hc1
      go_wp2_with (at_builtin; go_loud (refine wpList_append_rd _ rfl (.tmp 14) (.tmp 19) 26 rfl w.heap.size 3 i0 (.int .i64 0) 1 8 Tryz.underlying26 hi hz0 hz1 hz2 rfl (by decide) _ L.length (iC L) rfl (O2.out.alloc _) _ 1 1 rfl (Nat.le_refl _) (by intro h; cases h) (iC [m]) rfl (Rd.oneI_at _ _ _ _ (by simp)) (iC_one _) (by unfold maxLen; omega) (by omega) (by simp; omega) ?_); intro v5 w5 hown5 hgrow5 hwhere5)
      have hlow := Lib.hid O2.out.lt
      have G5 := Lib.hid (grown_far (grown_alloc G2.out _) hgrow5 (fun j hj => (hlow.out j hj).1))
      have C5 := Lib.hid ((hC3.out.alloc _).far hgrow5 (fun j hj => by have := (hlow.out j hj).1; omega))
      have hown6 := own_eq (n' := (L ++ [m]).length) hown5 (by simp) (iC_app _ _).symm
      clear hgrow5 hwhere5 hown5
      have hLi' := hLi.out
      go_roundw
      case rel => exact ⟨i + 1, k2, L ++ [m], by omega, by simp; omega, by omega, by omega, by go_num, hown6, hI.out.snoc (by omega) (by omega), C5.out, G5.out⟩
      case measure => simp [intOf]; omega
    · go_wp2_with fail
      go_ret
      exact ⟨L, _, kk, rfl, hI.out, by omega, by omega, by omega, hown.out, hC.out, hg.out⟩

set_option maxHeartbeats 8000000 in
theorem anyValues_any (b : Nat) (x : Option Addr) (n cap k : Nat) (y : Option Addr) (cy : Nat) (S : List (ByteArray × Int)) (w : World) (hk : k + 300 ≤ 1000000000000) (hC : CurAt w b x n cap k) (hB : ByRd w x n) (hD : DrS S) (hS : Rd w y (vC S)) (hyb : ∀ c off, y = some ⟨c, off, none⟩ → some c ≠ some b) :
    Calls Tryz.prog 60 #[.pointer (some ⟨b, 0, none⟩), .slice y S.length cy] w (ValPost b x n cap k 100 8 w) := by
  obtain ⟨i0, hi, hz0, hz1, hz2⟩ := info_parts Tryz.infoInt
  have hbs := hC.inside
  have hap := Lib.hid hC.apart
  have hC2 := Lib.hid hC
  have hB2 := Lib.hid hB
  clear hC hB
  go_enter Tryz.func60, Tryz.ntmps60
  go_wp2_with fail
  refine (values_any b x n cap k y cy S _ (by omega) hC2.out hB2.out hD hS hyb).mono ?_
  rintro e w1 ⟨L, v, k1, rfl, hI, hl7, ka, kb, hown, hC1, hg1⟩
  obtain ⟨z, cz, rfl, hcz, hzn⟩ := own_form hown
  have hs1 := hg1.size
  replace hown := Lib.hid hown
  replace hC1 := Lib.hid hC1
  replace hg1 := Lib.hid hg1
  replace hI := Lib.hid hI
  clear hD hS hyb
  by_cases h0 : 0 < L.length
  · obtain ⟨g, cg, hv⟩ := own_some2 hown.out h0
    injection hv with hv1 hv2 hv3
    subst hv1 hv3
    have hgl := own_lt hown.out
    have h0' : (0 : Int) < (L.length : Int) := by omega
    go_wp2_with fail
    refine (one_any b x n cap k1 16 _ (by omega) (by omega) (by omega) hC1.out (hB2.out.grown hg1.out hap.out)).mono ?_
    rintro e w2 ⟨t, k2, rfl, kc, kd, hC3, hg2⟩
    have G2 := Lib.hid (grown_trans hg1.out hg2)
    have O2 := Lib.hid (own_cur2 hown.out (by omega) hg2)
    have hs2 := hg2.size
    replace hC3 := Lib.hid hC3
    clear hown hC1 hg1 hg2
    cases t
    · go_wp2_with fail
      refine (one_any b x n cap k2 24 _ (by omega) (by omega) (by omega) hC3.out (hB2.out.grown G2.out hap.out)).mono ?_
      rintro e w6 ⟨t6, k6, rfl, kg, kh, hC6, hg6⟩
      have G6 := Lib.hid (grown_trans G2.out hg6)
      have O6 := Lib.hid (own_cur2 O2.out (by omega) hg6)
      have hs6 := G6.out.size
      replace hC6 := Lib.hid hC6
      clear hg6
      cases t6
      · go_wp2_with fail
        go_ret
        exact ⟨L, _, k6, rfl, hI.out, by omega, by omega, by omega, O6.out, hC6.out, G6.out⟩
      · go_wp2_with (at_builtin; go_loud (refine wpList_append_rd _ rfl (.tmp 29) (.tmp 30) 26 rfl w.heap.size 3 i0 (.int .i64 0) 1 8 Tryz.underlying26 hi hz0 hz1 hz2 rfl (by decide) _ L.length (iC L) rfl (O6.out.alloc _) _ 1 1 rfl (Nat.le_refl _) (by intro h; cases h) (iC [0]) rfl (Rd.oneI_at _ _ _ _ (by simp)) (iC_one _) (by unfold maxLen; omega) (by omega) (by simp; omega) ?_); intro v5 w5 hown5 hgrow5 hwhere5)
        have hlow := Lib.hid O6.out.lt
        have G5 := Lib.hid (grown_far (grown_alloc G6.out _) hgrow5 (fun j hj => (hlow.out j hj).1))
        have C5 := Lib.hid ((hC6.out.alloc _).far hgrow5 (fun j hj => by have := (hlow.out j hj).1; omega))
        have hown6 := own_eq (n' := (L ++ [(0 : Int)]).length) hown5 (by simp) (iC_app _ _).symm
        obtain ⟨z5, c5, rfl, -, -⟩ := own_form hown6
        clear hgrow5 hwhere5 hown5
        go_ret
        exact ⟨L ++ [0], _, k6, rfl, hI.out.snoc (by omega) (by omega), by simp; omega, by omega, by omega, hown6, C5.out, G5.out⟩
    · go_wp2_with fail
      refine (pick_any b x n cap k2 L.length _ (by omega) (by omega) (by omega) hC3.out (hB2.out.grown G2.out hap.out)).mono ?_
      rintro e w3 ⟨m, k3, rfl, m0, m1, ke, kf, hC4, hg3⟩
      have G3 := Lib.hid (grown_trans G2.out hg3)
      have O3 := Lib.hid (own_cur2 O2.out (by omega) hg3)
      have hs3 := hg3.size
      obtain ⟨i, rfl⟩ := Int.eq_ofNat_of_zero_le m0
      replace hC4 := Lib.hid hC4
      clear hC3 G2 O2 hg3
      go_wp2_with fail
      refine (among_any b x n cap k3 w3.heap.size _ [-1, 2, 8] _ (by omega) (by simp) (by simp) (by have := hC4.out.inside; omega) (IRd.lit w3 [-1, 2, 8] 3) (hC4.out.alloc _) ((hB2.out.grown G3.out hap.out).alloc _)).mono ?_
      rintro e w4 ⟨q, k4, rfl, hmem, kg, kh, hC5, hg4⟩
      have hq : -1 ≤ q ∧ q ≤ 9 := by simp at hmem; omega
      have hg4' := grown_trans (grown_alloc (grown_refl w3 (some b)) _) hg4
      have G4 := Lib.hid (grown_trans G3.out hg4')
      have O4 := Lib.hid (own_cur2 O3.out (by omega) hg4')
      obtain ⟨u, hu, c0⟩ := own_cell O4.out (j := i) (by omega)
      have c1 := O4.out.frozenAt i
      replace hC5 := Lib.hid hC5
      replace hu := Lib.hid hu
      clear hmem hg4 hg4' hC4 G3 O3
      go_wp2_with fail
      go_ret
      have hr := (O4.out.stored i (.int .i64 q)).1
      have e1 : (iC L).set i (.int .i64 q) = iC (L.set i q) := by unfold iC; rw [List.map_set]
      rw [e1] at hr
      refine ⟨L.set i q, _, k4, ?_, hI.out.set i hq.1 hq.2, by simp; omega, by omega, by omega, own_eq hr (by simp) rfl, hC5.out.set (by omega) i _, grown_setAt G4.out (by omega) i _⟩
      simp
  · go_wp2_with fail
    all_goals
      refine (one_any b x n cap k1 24 _ (by omega) (by omega) (by omega) hC1.out (hB2.out.grown hg1.out hap.out)).mono ?_
      rintro e w6 ⟨t6, k6, rfl, kg, kh, hC6, hg6⟩
      have G6 := Lib.hid (grown_trans hg1.out hg6)
      have O6 := Lib.hid (own_cur2 hown.out (by omega) hg6)
      have hs6 := G6.out.size
      replace hC6 := Lib.hid hC6
      clear hg6
      cases t6
      · go_wp2_with fail
        go_ret
        exact ⟨L, _, k6, rfl, hI.out, by omega, by omega, by omega, O6.out, hC6.out, G6.out⟩
      · go_wp2_with (at_builtin; go_loud (refine wpList_append_rd _ rfl (.tmp 29) (.tmp 30) 26 rfl w.heap.size 3 i0 (.int .i64 0) 1 8 Tryz.underlying26 hi hz0 hz1 hz2 rfl (by decide) _ L.length (iC L) rfl (O6.out.alloc _) _ 1 1 rfl (Nat.le_refl _) (by intro h; cases h) (iC [0]) rfl (Rd.oneI_at _ _ _ _ (by simp)) (iC_one _) (by unfold maxLen; omega) (by omega) (by simp; omega) ?_); intro v5 w5 hown5 hgrow5 hwhere5)
        have hlow := Lib.hid O6.out.lt
        have G5 := Lib.hid (grown_far (grown_alloc G6.out _) hgrow5 (fun j hj => (hlow.out j hj).1))
        have C5 := Lib.hid ((hC6.out.alloc _).far hgrow5 (fun j hj => by have := (hlow.out j hj).1; omega))
        have hown6 := own_eq (n' := (L ++ [(0 : Int)]).length) hown5 (by simp) (iC_app _ _).symm
        obtain ⟨z5, c5, rfl, -, -⟩ := own_form hown6
        clear hgrow5 hwhere5 hown5
        go_ret
        exact ⟨L ++ [0], _, k6, rfl, hI.out.snoc (by omega) (by omega), by simp; omega, by omega, by omega, hown6, C5.out, G5.out⟩
end Go.Proofs.YtcmfoclalcmamabGreatDoor
