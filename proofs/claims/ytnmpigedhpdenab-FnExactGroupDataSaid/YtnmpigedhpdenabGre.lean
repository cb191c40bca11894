/-
  The walks of chapter 3: grouped data; the model's.
-/
import Derived.Test.YtnmpigedhpdenabGrd
namespace Go.Proofs.Ytnmpigedhpdenab
open Go.RowKit
set_option maxRecDepth 100000

theorem InsW.app {w W w3 : World} {lo : Nat} {v v1 : Value} {T : List PR} {q : PR} (h : InsW w lo v T) (hb : Below w.heap.size w W) (hg : W.grownBy w3 v.ownBlock) (hv : v1.ownBlock = v.ownBlock ∨ v1.ownBlock = some W.heap.size) (hn : ∀ k, v1.ownBlock = some k → k < w3.heap.size) (hl : lo ≤ W.heap.size)
    (hr : Rd W q.x (iC q.L)) (h2 : q.L.length ≤ 1048576) (h3 : ∀ b off, q.x = some ⟨b, off, none⟩ → lo ≤ b ∧ b < W.heap.size ∧ v.ownBlock ≠ some b) : InsW w3 lo v1 (T ++ [q]) :=
  ((h.below hb).snoc hr h2 h3).row hg hv hn hl

theorem rd_one_at {w : World} {t : TypeId} {a h : Int} {x : Option Addr} {n c g : Nat} (e : w.heap.size = g) : Rd (w.alloc (.cells #[.int .i64 a, .int .i64 h, .slice x n c] t)) (some ⟨g, 0, none⟩) [.int .i64 a, .int .i64 h, .slice x n c] := by
  subst e
  exact Rd.oneR w t a h x n c

set_option maxHeartbeats 8000000 in
theorem sGD_x (x y z : Option Addr) (c1 c2 c3 : Nat) (S : List (ByteArray × Int)) (v : Int) (G : List Int) (Q : List PR) (w : World) (h : SIn w x c1 S) (hG : IIn w y G) (hQ : DIn w z Q) (hc : ∀ q ∈ Q, RCap q) :
    Calls Try.prog 51 #[.slice x S.length c1, .agg #[.int .i64 v, .slice y G.length c2], .slice z Q.length c3] w (DsS (gdB S v G (pM Q)) (gdL S v G (pM Q)) w) := by
  have hm := h.1
  have hh := Lib.hid h
  have hGh := Lib.hid hG
  have hQh := Lib.hid hQ
  have hch := Lib.hid hc
  clear h hG hQ hc
  by_cases hd : idB S (pM Q) = false
  · have hv := Lib.hid (gd_no1 (v := v) (G := G) hd)
    replace hd := Lib.hid hd
    go_enter Try.func51, Try.ntmps51
    go_wp2_with fail
    refine (dInput_any _ _ _ _ S Q _ (hh.out.below (by exact (by repeat (first | exact Below.refl _ _ | assumption | refine Below.drew ?_ | refine below_drewN ?_ _ | refine Below.alloc' ?_ _ | (refine Below.setCell ?_ (by first | omega | (simp; done) | (simp; omega) | exact Below.size (by assumption) | exact Nat.le_trans (Below.size (by assumption)) (by simp)) _) | (refine Below.via' ?_ (by assumption)) | (refine Below.alloc ?_ (by first | omega | (simp; done) | (simp; omega) | exact Below.size (by assumption) | exact Nat.le_trans (Below.size (by assumption)) (by simp)) _) | (refine Below.via ?_ (by assumption) (by first | omega | (simp; done) | (simp; omega) | exact Below.size (by assumption) | exact Nat.le_trans (Below.size (by assumption)) (by simp))))))) (hQh.out.below (by exact (by repeat (first | exact Below.refl _ _ | assumption | refine Below.drew ?_ | refine below_drewN ?_ _ | refine Below.alloc' ?_ _ | (refine Below.setCell ?_ (by first | omega | (simp; done) | (simp; omega) | exact Below.size (by assumption) | exact Nat.le_trans (Below.size (by assumption)) (by simp)) _) | (refine Below.via' ?_ (by assumption)) | (refine Below.alloc ?_ (by first | omega | (simp; done) | (simp; omega) | exact Below.size (by assumption) | exact Nat.le_trans (Below.size (by assumption)) (by simp)) _) | (refine Below.via ?_ (by assumption) (by first | omega | (simp; done) | (simp; omega) | exact Below.size (by assumption) | exact Nat.le_trans (Below.size (by assumption)) (by simp)))))))).mono ?_
    rintro e w1 ⟨he, hb1⟩
    rw [hd.out] at he
    subst he
    go_wp2
    go_ret2
    exact DsS.no hv.out (by repeat (first | exact Below.refl _ _ | assumption | refine Below.drew ?_ | refine below_drewN ?_ _ | refine Below.alloc' ?_ _ | (refine Below.setCell ?_ (by first | omega | (simp; done) | (simp; omega) | exact Below.size (by assumption) | exact Nat.le_trans (Below.size (by assumption)) (by simp)) _) | (refine Below.via' ?_ (by assumption)) | (refine Below.alloc ?_ (by first | omega | (simp; done) | (simp; omega) | exact Below.size (by assumption) | exact Nat.le_trans (Below.size (by assumption)) (by simp)) _) | (refine Below.via ?_ (by assumption) (by first | omega | (simp; done) | (simp; omega) | exact Below.size (by assumption) | exact Nat.le_trans (Below.size (by assumption)) (by simp)))))
  have hd : idB S (pM Q) = true := by simpa using hd
  have hs : schB S = true := by unfold idB at hd; rw [Bool.and_eq_true] at hd; exact hd.1
  have hl := idB_lenE hd
  by_cases hg : gvB S v G = false
  · have hv := Lib.hid (gd_no2 (R := pM Q) hg)
    have hgz := Lib.hid (gvZ_no hg)
    replace hg := Lib.hid hg
    replace hd := Lib.hid hd
    go_enter Try.func51, Try.ntmps51
    go_wp2_with fail
    refine (dInput_any _ _ _ _ S Q _ (hh.out.below (by exact (by repeat (first | exact Below.refl _ _ | assumption | refine Below.drew ?_ | refine below_drewN ?_ _ | refine Below.alloc' ?_ _ | (refine Below.setCell ?_ (by first | omega | (simp; done) | (simp; omega) | exact Below.size (by assumption) | exact Nat.le_trans (Below.size (by assumption)) (by simp)) _) | (refine Below.via' ?_ (by assumption)) | (refine Below.alloc ?_ (by first | omega | (simp; done) | (simp; omega) | exact Below.size (by assumption) | exact Nat.le_trans (Below.size (by assumption)) (by simp)) _) | (refine Below.via ?_ (by assumption) (by first | omega | (simp; done) | (simp; omega) | exact Below.size (by assumption) | exact Nat.le_trans (Below.size (by assumption)) (by simp))))))) (hQh.out.below (by exact (by repeat (first | exact Below.refl _ _ | assumption | refine Below.drew ?_ | refine below_drewN ?_ _ | refine Below.alloc' ?_ _ | (refine Below.setCell ?_ (by first | omega | (simp; done) | (simp; omega) | exact Below.size (by assumption) | exact Nat.le_trans (Below.size (by assumption)) (by simp)) _) | (refine Below.via' ?_ (by assumption)) | (refine Below.alloc ?_ (by first | omega | (simp; done) | (simp; omega) | exact Below.size (by assumption) | exact Nat.le_trans (Below.size (by assumption)) (by simp)) _) | (refine Below.via ?_ (by assumption) (by first | omega | (simp; done) | (simp; omega) | exact Below.size (by assumption) | exact Nat.le_trans (Below.size (by assumption)) (by simp)))))))).mono ?_
    rintro e w1 ⟨he, hb1⟩
    rw [hd.out] at he
    subst he
    obtain ⟨ka1, kb1, kc1⟩ := (GB.new w v y G.length c2 58).below hb1
    go_wp2_with fail
    refine (sGroups_any _ _ _ _ S v G _ hs hm (hh.out.rd.below (by exact (by repeat (first | exact Below.refl _ _ | assumption | refine Below.drew ?_ | refine below_drewN ?_ _ | refine Below.alloc' ?_ _ | (refine Below.setCell ?_ (by first | omega | (simp; done) | (simp; omega) | exact Below.size (by assumption) | exact Nat.le_trans (Below.size (by assumption)) (by simp)) _) | (refine Below.via' ?_ (by assumption)) | (refine Below.alloc ?_ (by first | omega | (simp; done) | (simp; omega) | exact Below.size (by assumption) | exact Nat.le_trans (Below.size (by assumption)) (by simp)) _) | (refine Below.via ?_ (by assumption) (by first | omega | (simp; done) | (simp; omega) | exact Below.size (by assumption) | exact Nat.le_trans (Below.size (by assumption)) (by simp))))))) (hGh.out.below (by exact (by repeat (first | exact Below.refl _ _ | assumption | refine Below.drew ?_ | refine below_drewN ?_ _ | refine Below.alloc' ?_ _ | (refine Below.setCell ?_ (by first | omega | (simp; done) | (simp; omega) | exact Below.size (by assumption) | exact Nat.le_trans (Below.size (by assumption)) (by simp)) _) | (refine Below.via' ?_ (by assumption)) | (refine Below.alloc ?_ (by first | omega | (simp; done) | (simp; omega) | exact Below.size (by assumption) | exact Nat.le_trans (Below.size (by assumption)) (by simp)) _) | (refine Below.via ?_ (by assumption) (by first | omega | (simp; done) | (simp; omega) | exact Below.size (by assumption) | exact Nat.le_trans (Below.size (by assumption)) (by simp)))))))).mono ?_
    rintro e w2 ⟨he, hb2⟩
    rw [hgz.out] at he
    subst he
    go_wp2
    go_ret2
    exact DsS.no hv.out (by repeat (first | exact Below.refl _ _ | assumption | refine Below.drew ?_ | refine below_drewN ?_ _ | refine Below.alloc' ?_ _ | (refine Below.setCell ?_ (by first | omega | (simp; done) | (simp; omega) | exact Below.size (by assumption) | exact Nat.le_trans (Below.size (by assumption)) (by simp)) _) | (refine Below.via' ?_ (by assumption)) | (refine Below.alloc ?_ (by first | omega | (simp; done) | (simp; omega) | exact Below.size (by assumption) | exact Nat.le_trans (Below.size (by assumption)) (by simp)) _) | (refine Below.via ?_ (by assumption) (by first | omega | (simp; done) | (simp; omega) | exact Below.size (by assumption) | exact Nat.le_trans (Below.size (by assumption)) (by simp)))))
  have hg : gvB S v G = true := by simpa using hg
  have hv := Lib.hid (gd_yes hd hg)
  have hgz : (gvZ S v G == 0) = false := by
    obtain ⟨k, nm, lv, _, _, _, hgb⟩ := gvB_get hg
    rw [beq_eq_false_iff_ne, gvZ_yes hg]
    have := (gsB_get hgb).2.1
    omega
  obtain ⟨k, nm, lv, rfl, hSk, hlv, hgb⟩ := gvB_get hg
  have hfit := Lib.hid (fun (q : RV) (hq : q ∈ pM Q) => gm_facts (S := S) (k := k) (nm := nm) (lv := lv) (G := G) (V := q.2.2) hSk hlv (rokB_get (dokB_mem (S := S) (by unfold idB at hd; rw [Bool.and_eq_true] at hd; exact hd.2) hq)).2.2.2.2)
  replace hd := Lib.hid hd
  replace hg := Lib.hid hg
  replace hSk := Lib.hid hSk
  clear hlv hgb
  obtain ⟨i0, hi, hz0, hz1, hz2⟩ := info_parts Try.infoRec
  go_enter Try.func51, Try.ntmps51
  go_wp2_with fail
  refine (dInput_any _ _ _ _ S Q _ (hh.out.below (by exact (by repeat (first | exact Below.refl _ _ | assumption | refine Below.drew ?_ | refine below_drewN ?_ _ | refine Below.alloc' ?_ _ | (refine Below.setCell ?_ (by first | omega | (simp; done) | (simp; omega) | exact Below.size (by assumption) | exact Nat.le_trans (Below.size (by assumption)) (by simp)) _) | (refine Below.via' ?_ (by assumption)) | (refine Below.alloc ?_ (by first | omega | (simp; done) | (simp; omega) | exact Below.size (by assumption) | exact Nat.le_trans (Below.size (by assumption)) (by simp)) _) | (refine Below.via ?_ (by assumption) (by first | omega | (simp; done) | (simp; omega) | exact Below.size (by assumption) | exact Nat.le_trans (Below.size (by assumption)) (by simp))))))) (hQh.out.below (by exact (by repeat (first | exact Below.refl _ _ | assumption | refine Below.drew ?_ | refine below_drewN ?_ _ | refine Below.alloc' ?_ _ | (refine Below.setCell ?_ (by first | omega | (simp; done) | (simp; omega) | exact Below.size (by assumption) | exact Nat.le_trans (Below.size (by assumption)) (by simp)) _) | (refine Below.via' ?_ (by assumption)) | (refine Below.alloc ?_ (by first | omega | (simp; done) | (simp; omega) | exact Below.size (by assumption) | exact Nat.le_trans (Below.size (by assumption)) (by simp)) _) | (refine Below.via ?_ (by assumption) (by first | omega | (simp; done) | (simp; omega) | exact Below.size (by assumption) | exact Nat.le_trans (Below.size (by assumption)) (by simp)))))))).mono ?_
  rintro e w1 ⟨he, hb1⟩
  rw [hd.out] at he
  subst he
  have hk1 := Lib.hid ((GB.new w k y G.length c2 58).below hb1)
  obtain ⟨ka1, kb1, kc1⟩ := hk1.out
  go_wp2_with fail
  refine (sGroups_any _ _ _ _ S k G _ hs hm (hh.out.rd.below (by exact (by repeat (first | exact Below.refl _ _ | assumption | refine Below.drew ?_ | refine below_drewN ?_ _ | refine Below.alloc' ?_ _ | (refine Below.setCell ?_ (by first | omega | (simp; done) | (simp; omega) | exact Below.size (by assumption) | exact Nat.le_trans (Below.size (by assumption)) (by simp)) _) | (refine Below.via' ?_ (by assumption)) | (refine Below.alloc ?_ (by first | omega | (simp; done) | (simp; omega) | exact Below.size (by assumption) | exact Nat.le_trans (Below.size (by assumption)) (by simp)) _) | (refine Below.via ?_ (by assumption) (by first | omega | (simp; done) | (simp; omega) | exact Below.size (by assumption) | exact Nat.le_trans (Below.size (by assumption)) (by simp))))))) (hGh.out.below (by exact (by repeat (first | exact Below.refl _ _ | assumption | refine Below.drew ?_ | refine below_drewN ?_ _ | refine Below.alloc' ?_ _ | (refine Below.setCell ?_ (by first | omega | (simp; done) | (simp; omega) | exact Below.size (by assumption) | exact Nat.le_trans (Below.size (by assumption)) (by simp)) _) | (refine Below.via' ?_ (by assumption)) | (refine Below.alloc ?_ (by first | omega | (simp; done) | (simp; omega) | exact Below.size (by assumption) | exact Nat.le_trans (Below.size (by assumption)) (by simp)) _) | (refine Below.via ?_ (by assumption) (by first | omega | (simp; done) | (simp; omega) | exact Below.size (by assumption) | exact Nat.le_trans (Below.size (by assumption)) (by simp)))))))).mono ?_
  rintro e w2 ⟨rfl, hb2⟩
  have hk2 := Lib.hid (hk1.out.below hb2)
  have hB2 : Below w.heap.size w w2 := (by repeat (first | exact Below.refl _ _ | assumption | refine Below.drew ?_ | refine below_drewN ?_ _ | refine Below.alloc' ?_ _ | (refine Below.setCell ?_ (by first | omega | (simp; done) | (simp; omega) | exact Below.size (by assumption) | exact Nat.le_trans (Below.size (by assumption)) (by simp)) _) | (refine Below.via' ?_ (by assumption)) | (refine Below.alloc ?_ (by first | omega | (simp; done) | (simp; omega) | exact Below.size (by assumption) | exact Nat.le_trans (Below.size (by assumption)) (by simp)) _) | (refine Below.via ?_ (by assumption) (by first | omega | (simp; done) | (simp; omega) | exact Below.size (by assumption) | exact Nat.le_trans (Below.size (by assumption)) (by simp)))))
  clear ka1 kb1 kc1 hb1 hb2 hk1
  go_wp2
  clear hgz
  go_loopw [8, 24] (fun u c wr => ∃ (i : Nat) (T : List PR), i ≤ Q.length ∧ c = .int .i64 i ∧ T.length = i ∧ wr.ownsRow w.heap.size 140 3 u T.length (pC T) ∧ Hid (pM T = ((pM Q).take i).map (gmR k G)) ∧ Hid (InsW wr w.heap.size u T) ∧ Hid (GB wr w.heap.size k y G.length c2) ∧ Hid (∀ b, u.ownBlock = some b → b ≠ w.heap.size) ∧ Below w.heap.size w wr) (fun _ c _ => Q.length - (intOf c).toNat)
  case atStart => exact ⟨0, [], by omega, rfl, rfl, World.ownsRow_nil _ _ _ _, (by unfold Hid pM; simp), ⟨fun k hk => by (cases hk), fun q hq => by (cases hq)⟩, hk2, (fun b hb => by (cases hb)), hB2⟩
  case round =>
    clear hk2 hB2
    obtain ⟨i, T, hi', rfl, hTl, hown, hTs, hins, hk, hub, hb⟩ := hrel
    subst hTl
    obtain ⟨wo, rfl⟩ : ∃ u : World, u = wr := ⟨_, rfl⟩
    have hbs := hb.size
    by_cases hlt : T.length < Q.length
    · obtain ⟨bl, off, q, rfl, hbl, hQi, hc0, hc1, hc2⟩ := (hQh.out.2.2.below hb).rec hlt
      have hqm := List.mem_of_getElem? hQi
      have hql := (hQh.out.2.1 q hqm).2.2.1
      have hqc := hch.out q hqm
      have hqr := Lib.hid ((hQh.out.2.1 q hqm).2.2.2.2)
      obtain ⟨a, b, hVk, hGa, hkV, haG, hgm⟩ := hfit.out q.m (by unfold pM; exact List.mem_map_of_mem hqm)
      simp only [PR.m] at hVk hkV hgm
      have hst := Lib.hid (show pM T ++ [(q.a, q.h, gmL k G q.L)] = ((pM Q).take (T.length + 1)).map (gmR k G) from by rw [take_snoc (pM_at hQi), List.map_append, hTs.out]; rfl)
      replace hQi := Lib.hid hQi
      have hlt' : (T.length : Int) < (Q.length : Int) := by omega
      have hi0' : (0 : Int) ≤ (T.length : Int) := by omega
      have hbox := Lib.hid (RB.new wo q.a q.h q.x q.L.length q.c 140)
      have hownh := Lib.hid hown
      clear hown
      have hform := Lib.hid (OwR.of hownh.out).form
      obtain ⟨vx, vc, rfl, -, -⟩ := hform.out
      go_wp2_with fail
      refine (rOwn_any _ _ _ _ q.L _ hql hqc.1 hqc.2 (hqr.out.below (by exact (by repeat (first | exact Below.refl _ _ | assumption | refine Below.drew ?_ | refine below_drewN ?_ _ | refine Below.alloc' ?_ _ | (refine Below.setCell ?_ (by first | omega | (simp; done) | (simp; omega) | exact Below.size (by assumption) | exact Nat.le_trans (Below.size (by assumption)) (by simp)) _) | (refine Below.via' ?_ (by assumption)) | (refine Below.alloc ?_ (by first | omega | (simp; done) | (simp; omega) | exact Below.size (by assumption) | exact Nat.le_trans (Below.size (by assumption)) (by simp)) _) | (refine Below.via ?_ (by assumption) (by first | omega | (simp; done) | (simp; omega) | exact Below.size (by assumption) | exact Nat.le_trans (Below.size (by assumption)) (by simp)))))))).mono ?_
      rintro e2 w2 ⟨x2, cx, rfl, ho2, hb2⟩
      have hbx2 : Below wo.heap.size wo w2 := (by repeat (first | exact Below.refl _ _ | assumption | refine Below.drew ?_ | refine below_drewN ?_ _ | refine Below.alloc' ?_ _ | (refine Below.setCell ?_ (by first | omega | (simp; done) | (simp; omega) | exact Below.size (by assumption) | exact Nat.le_trans (Below.size (by assumption)) (by simp)) _) | (refine Below.via' ?_ (by assumption)) | (refine Below.alloc ?_ (by first | omega | (simp; done) | (simp; omega) | exact Below.size (by assumption) | exact Nat.le_trans (Below.size (by assumption)) (by simp)) _) | (refine Below.via ?_ (by assumption) (by first | omega | (simp; done) | (simp; omega) | exact Below.size (by assumption) | exact Nat.le_trans (Below.size (by assumption)) (by simp)))))
      obtain ⟨g2, cg, he⟩ := own_some ho2.1 (by omega)
      injection he with hx2 _ hcx
      subst hx2
      have hin2 := ho2.1
      obtain ⟨u0, hu0, k0⟩ := own_cell hin2 (j := k) (by omega)
      obtain rfl : u0 = .int .i64 (a : Int) := Option.some.inj (hu0.symm.trans (iC_at hVk))
      have f0 := hin2.frozenAt k
      have hg2l := (own_lt hin2).2
      have hg2b : wo.heap.size + 1 ≤ g2 := by have := (own_lt hin2).1; simpa using this
      obtain ⟨bl2, off2, b2, hy, hbl2, hGa2, hcG⟩ := (hGh.out.2.2.below (show Below w.heap.size w w2 from (by repeat (first | exact Below.refl _ _ | assumption | refine Below.drew ?_ | refine below_drewN ?_ _ | refine Below.alloc' ?_ _ | (refine Below.setCell ?_ (by first | omega | (simp; done) | (simp; omega) | exact Below.size (by assumption) | exact Nat.le_trans (Below.size (by assumption)) (by simp)) _) | (refine Below.via' ?_ (by assumption)) | (refine Below.alloc ?_ (by first | omega | (simp; done) | (simp; omega) | exact Below.size (by assumption) | exact Nat.le_trans (Below.size (by assumption)) (by simp)) _) | (refine Below.via ?_ (by assumption) (by first | omega | (simp; done) | (simp; omega) | exact Below.size (by assumption) | exact Nat.le_trans (Below.size (by assumption)) (by simp))))))).int (i := a) haG
      obtain rfl : b = b2 := Option.some.inj (hGa.symm.trans hGa2)
      subst hy
      obtain ⟨ga, gb, gc⟩ := hk.out.below hbx2
      have hgc0 := hk.out.2.2
      have st := hin2.stored k (.int .i64 b)
      rw [iC_set, ← hgm] at st
      have hrd2 := Lib.hid (Rd.of_own st.1)
      have hgk := Lib.hid ((hk.out.below hbx2).grown st.2 (by intro e; injection e with e; omega))
      have hB2x := Lib.hid (show Below wo.heap.size wo (w2.setCell ⟨g2, k, none⟩ (.int .i64 b)) from (by repeat (first | exact Below.refl _ _ | assumption | refine Below.drew ?_ | refine below_drewN ?_ _ | refine Below.alloc' ?_ _ | (refine Below.setCell ?_ (by first | omega | (simp; done) | (simp; omega) | exact Below.size (by assumption) | exact Nat.le_trans (Below.size (by assumption)) (by simp)) _) | (refine Below.via' ?_ (by assumption)) | (refine Below.alloc ?_ (by first | omega | (simp; done) | (simp; omega) | exact Below.size (by assumption) | exact Nat.le_trans (Below.size (by assumption)) (by simp)) _) | (refine Below.via ?_ (by assumption) (by first | omega | (simp; done) | (simp; omega) | exact Below.size (by assumption) | exact Nat.le_trans (Below.size (by assumption)) (by simp))))))
      have hz2' := hbx2.size
      have hvl := Lib.hid (fun k hk => (hins.out.1 k hk).2)
      have hkn : (k : Int) < (q.L.length : Int) := by omega
      have hk0 : (0 : Int) ≤ (k : Int) := by omega
      have hal : (a : Int) < (G.length : Int) := by omega
      have ha0 : (0 : Int) ≤ (a : Int) := by omega
      have hne : g2 ≠ w2.heap.size := by omega
      have hgs := st.2.size
      clear hVk hGa hGa2 hgm hin2 hu0 st ho2 hbox
      have hnews : pC [(⟨q.a, q.h, some ⟨g2, 0, none⟩, cg, gmL k G q.L⟩ : PR)] = [.int .i64 q.a, .int .i64 q.h, .slice (some ⟨g2, 0, none⟩) q.L.length cg] := by rw [pC_single, gmL_len]
      replace hnews := Lib.hid hnews
      go_wp2
      go_region
      all_goals
        go_wp2_with (at_builtin; go_loud (refine wpList_append_rd _ rfl (.tmp 45) (.tmp 47) 71 rfl w.heap.size 140 i0 (.agg #[.int .i64 0, .int .i64 0, .slice none 0 0]) 3 40 Try.underlying71 hi hz0 hz1 hz2 rfl (by decide) _ T.length (pC T) rfl (own_below hownh.out (Below.via' hB2x.out (by exact (by repeat (first | exact Below.refl _ _ | assumption | refine Below.drew ?_ | refine below_drewN ?_ _ | refine Below.alloc' ?_ _ | (refine Below.setCell ?_ (by first | omega | (simp; done) | (simp; omega) | exact Below.size (by assumption) | exact Nat.le_trans (Below.size (by assumption)) (by simp)) _) | (refine Below.via' ?_ (by assumption)) | (refine Below.alloc ?_ (by first | omega | (simp; done) | (simp; omega) | exact Below.size (by assumption) | exact Nat.le_trans (Below.size (by assumption)) (by simp)) _) | (refine Below.via ?_ (by assumption) (by first | omega | (simp; done) | (simp; omega) | exact Below.size (by assumption) | exact Nat.le_trans (Below.size (by assumption)) (by simp)))))))) _ 1 1 rfl (Nat.le_refl _) (by intro h; cases h) (pC [(⟨q.a, q.h, some ⟨g2, 0, none⟩, cg, gmL k G q.L⟩ : PR)]) rfl (by rw [hnews.out]; exact rd_one_at (by simp)) (pC_one _) (by unfold maxLen; omega) (by omega) (by simp; omega) ?_); intro v1 w3 hown3 hgrow3 hwhere3)
        have hh3 := append_below0 (w := w) (Below.via' hb (Below.via' hB2x.out (by exact (by repeat (first | exact Below.refl _ _ | assumption | refine Below.drew ?_ | refine below_drewN ?_ _ | refine Below.alloc' ?_ _ | (refine Below.setCell ?_ (by first | omega | (simp; done) | (simp; omega) | exact Below.size (by assumption) | exact Nat.le_trans (Below.size (by assumption)) (by simp)) _) | (refine Below.via' ?_ (by assumption)) | (refine Below.alloc ?_ (by first | omega | (simp; done) | (simp; omega) | exact Below.size (by assumption) | exact Nat.le_trans (Below.size (by assumption)) (by simp)) _) | (refine Below.via ?_ (by assumption) (by first | omega | (simp; done) | (simp; omega) | exact Below.size (by assumption) | exact Nat.le_trans (Below.size (by assumption)) (by simp)))))))) (fun k hk => (hins.out.1 k hk).1) hgrow3 hwhere3
        have hown3' := Lib.hid (own_eq hown3 (show T.length + 1 = (T ++ [(⟨q.a, q.h, some ⟨g2, 0, none⟩, cg, gmL k G q.L⟩ : PR)]).length by simp) (pC_app T [⟨q.a, q.h, some ⟨g2, 0, none⟩, cg, gmL k G q.L⟩]).symm)
        obtain ⟨g, vc3, rfl⟩ := own_some hown3 (by omega)
        have hins3 := Lib.hid (InsW.app (q := ⟨q.a, q.h, some ⟨g2, 0, none⟩, cg, gmL k G q.L⟩) hins.out (Below.via' hB2x.out (by exact (by repeat (first | exact Below.refl _ _ | assumption | refine Below.drew ?_ | refine below_drewN ?_ _ | refine Below.alloc' ?_ _ | (refine Below.setCell ?_ (by first | omega | (simp; done) | (simp; omega) | exact Below.size (by assumption) | exact Nat.le_trans (Below.size (by assumption)) (by simp)) _) | (refine Below.via' ?_ (by assumption)) | (refine Below.alloc ?_ (by first | omega | (simp; done) | (simp; omega) | exact Below.size (by assumption) | exact Nat.le_trans (Below.size (by assumption)) (by simp)) _) | (refine Below.via ?_ (by assumption) (by first | omega | (simp; done) | (simp; omega) | exact Below.size (by assumption) | exact Nat.le_trans (Below.size (by assumption)) (by simp))))))) hgrow3 hwhere3 (fun k hk => by injection hk with hk; subst hk; exact (own_lt hown3).2) (by simp; omega) (hrd2.out.below (by exact (by repeat (first | exact Below.refl _ _ | assumption | refine Below.drew ?_ | refine below_drewN ?_ _ | refine Below.alloc' ?_ _ | (refine Below.setCell ?_ (by first | omega | (simp; done) | (simp; omega) | exact Below.size (by assumption) | exact Nat.le_trans (Below.size (by assumption)) (by simp)) _) | (refine Below.via' ?_ (by assumption)) | (refine Below.alloc ?_ (by first | omega | (simp; done) | (simp; omega) | exact Below.size (by assumption) | exact Nat.le_trans (Below.size (by assumption)) (by simp)) _) | (refine Below.via ?_ (by assumption) (by first | omega | (simp; done) | (simp; omega) | exact Below.size (by assumption) | exact Nat.le_trans (Below.size (by assumption)) (by simp))))))) (by rw [gmL_len]; exact hql) (fun b' off' e => by
          injection e with e
          injection e with e
          subst e
          refine ⟨by omega, by simp; omega, ?_⟩
          intro e2
          have := hvl.out g2 e2
          omega))
        have hgb3 := Lib.hid ((hgk.out.below (by exact (by repeat (first | exact Below.refl _ _ | assumption | refine Below.drew ?_ | refine below_drewN ?_ _ | refine Below.alloc' ?_ _ | (refine Below.setCell ?_ (by first | omega | (simp; done) | (simp; omega) | exact Below.size (by assumption) | exact Nat.le_trans (Below.size (by assumption)) (by simp)) _) | (refine Below.via' ?_ (by assumption)) | (refine Below.alloc ?_ (by first | omega | (simp; done) | (simp; omega) | exact Below.size (by assumption) | exact Nat.le_trans (Below.size (by assumption)) (by simp)) _) | (refine Below.via ?_ (by assumption) (by first | omega | (simp; done) | (simp; omega) | exact Below.size (by assumption) | exact Nat.le_trans (Below.size (by assumption)) (by simp))))))).grown hgrow3 (fun e => hub.out w.heap.size e.symm rfl))
        have hub3 := Lib.hid (show ∀ b', (Value.slice (some ⟨g, 0, none⟩) (T.length + 1) vc3).ownBlock = some b' → b' ≠ w.heap.size from fun b' hb' => by
          rcases hwhere3 with e | e
          · exact hub.out b' (e.symm.trans hb')
          · rw [hb'] at e
            injection e with e
            simp at e
            omega)
        exact ⟨⟨T.length + 1, T ++ [⟨q.a, q.h, some ⟨g2, 0, none⟩, cg, gmL k G q.L⟩], by omega, by go_num, by simp, hown3'.out, (by unfold Hid; rw [pM_app]; exact hst.out), hins3, hgb3, hub3, hh3.1⟩, by simp [intOf]; omega⟩
    · have hij : T.length = Q.length := by omega
      obtain ⟨vx, vc, rfl, -, -⟩ := (OwR.of hown).form
      have hfin := Lib.hid (show DsS (gdB S k G (pM Q)) (gdL S k G (pM Q)) w (.returned (.tuple #[.slice vx T.length vc, .bool true])) wo from
        DsS.yes hv.out (by rw [hTs.out, hij, ← pM_len Q, List.take_length, Int.toNat_natCast]) (hins.out.drd hown) hb)
      have hn' : ¬ (T.length : Int) < (Q.length : Int) := by omega
      clear hown hTs hins hij hlt hk hub
      go_wp2
      go_ret2
      exact hfin.out
end Go.Proofs.Ytnmpigedhpdenab
