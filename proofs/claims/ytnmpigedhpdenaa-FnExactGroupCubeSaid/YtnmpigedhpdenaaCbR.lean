/-
  The walks of chapter 10: the lists of parts of a cell; the program's.
-/
import Derived.Test.YtnmpigedhpdenaaCbO
import Derived.RegionTactic
import Derived.BigRegion
import Derived.StillTailTactics
import Derived.Deep.OwnRows
import Derived.Deep.DeepCutAuto
namespace Go.Proofs.Ytnmpigedhpdenaa
open Go.RowKit
set_option maxRecDepth 100000

theorem made_ownC (W : World) (base g n : Nat) (hg : W.heap.size = g) (hb : base ≤ g) (hn : n ≤ 1048576) : (W.alloc (.cells (madeCells #[.int .i64 0] n) 3)).ownsRow base 3 1 (.slice (some ⟨g, 0, none⟩) n n) n (iC (List.replicate n 0)) := by
  subst hg
  refine ⟨by rw [iC_len, List.length_replicate, Nat.mul_one], .inr ⟨W.heap.size, n, _, rfl, hb, heap_alloc_new W _, Nat.le_refl _, by unfold maxLen; omega, (by rw [size_madeCells]; simp), ?_⟩⟩
  rw [toList_madeCells_one, Nat.mul_one, List.take_of_length_le (by simp)]
  unfold iC
  rw [List.map_replicate]
theorem pw_one (W : World) (n : Nat) (hn : n ≤ 1048576) (a b c d : Int) : Wb ((W.alloc (.cells (madeCells #[.int .i64 0] n) 3)).alloc (.cells #[.int .i64 a, .int .i64 b, .int .i64 c, .int .i64 d] 81)).drew (W.heap.size + 1) 81 #[.int .i64 a, .int .i64 b, .int .i64 c, .int .i64 d] ∧
    ((W.alloc (.cells (madeCells #[.int .i64 0] n) 3)).alloc (.cells #[.int .i64 a, .int .i64 b, .int .i64 c, .int .i64 d] 81)).drew.ownsRow W.heap.size 3 1 (.slice (some ⟨W.heap.size, 0, none⟩) n n) n (iC (List.replicate n 0)) := by
  have h := Wb.new (W.alloc (.cells (madeCells #[.int .i64 0] n) 3)) 81 #[.int .i64 a, .int .i64 b, .int .i64 c, .int .i64 d]
  rw [World.size_alloc] at h
  exact ⟨h, ((made_ownC W W.heap.size W.heap.size n rfl (Nat.le_refl _) hn).alloc _).drew⟩
theorem pw_two (W : World) (n : Nat) (hn : n ≤ 1048576) (a b c d : Int) : Wb ((W.alloc (.cells #[.int .i64 a, .int .i64 b, .int .i64 c, .int .i64 d] 81)).alloc (.cells (madeCells #[.int .i64 0] n) 3)).drew W.heap.size 81 #[.int .i64 a, .int .i64 b, .int .i64 c, .int .i64 d] ∧
    ((W.alloc (.cells #[.int .i64 a, .int .i64 b, .int .i64 c, .int .i64 d] 81)).alloc (.cells (madeCells #[.int .i64 0] n) 3)).drew.ownsRow W.heap.size 3 1 (.slice (some ⟨W.heap.size + 1, 0, none⟩) n n) n (iC (List.replicate n 0)) := by
  have h := (Wb.new W 81 #[.int .i64 a, .int .i64 b, .int .i64 c, .int .i64 d]).kept (w' := (W.alloc (.cells #[.int .i64 a, .int .i64 b, .int .i64 c, .int .i64 d] 81)).alloc (.cells (madeCells #[.int .i64 0] n) 3)) (by repeat (first | exact Below.refl _ _ | assumption | refine Below.drew ?_ | refine below_drewN ?_ _ | refine Below.alloc' ?_ _ | (refine Below.setCell ?_ (by first | omega | (simp; done) | (simp; omega) | exact Below.size (by assumption) | exact Nat.le_trans (Below.size (by assumption)) (by simp)) _) | (refine Below.via' ?_ (by assumption)) | (refine Below.alloc ?_ (by first | omega | (simp; done) | (simp; omega) | exact Below.size (by assumption) | exact Nat.le_trans (Below.size (by assumption)) (by simp)) _) | (refine Below.via ?_ (by assumption) (by first | omega | (simp; done) | (simp; omega) | exact Below.size (by assumption) | exact Nat.le_trans (Below.size (by assumption)) (by simp)))))
  exact ⟨h, (made_ownC (W.alloc (.cells #[.int .i64 a, .int .i64 b, .int .i64 c, .int .i64 d] 81)) W.heap.size (W.heap.size + 1) n (by simp) (Nat.le_succ _) hn).drew⟩
theorem wb_apart {W : World} {g t base e s n : Nat} {cs : Array Value} {v : Value} {xs : List Value} (h : Wb W g t cs) (k : W.ownsRow base e s v n xs) (hne : t ≠ e) : v.ownBlock ≠ some g := by
  rcases k.2 with ⟨rfl, _⟩ | ⟨g2, cap, cur, rfl, _, hgb, _⟩
  · simp [Value.ownBlock]
  · intro e'
    obtain rfl : g2 = g := by simpa [Value.ownBlock] using e'
    rw [show W.heap[g2]? = _ from h] at hgb
    cases hgb
    exact hne rfl
theorem Wb.grew {w1 w2 : World} {g : Nat} {t : TypeId} {cs : Array Value} {o : Obj} {r : Option Nat} (h : Wb w1 g t cs) (hg : (w1.alloc o).grownBy w2 r) (hr : r ≠ some g) : Wb w2 g t cs := by
  have h1 : Wb (w1.alloc o) g t cs := h.kept ((Below.refl _ _).alloc (Nat.le_refl _) o)
  exact (hg.block g h1.inside (Ne.symm hr)).trans h1
theorem setCell_grownC (W : World) (b o : Nat) (v : Value) : W.grownBy (W.setCell ⟨b, o, none⟩ v) (some b) :=
  ⟨rfl, rfl, rfl, by simp [World.setCell], fun k _ hne => Below.heap_setCell _ _ _ _ (fun e => hne (by rw [e]))⟩
theorem set_self {L : List Int} {j : Nat} {y : Int} (h : L[j]? = some y) : L.set j y = L := by
  apply List.ext_getElem?
  intro i
  rw [List.getElem?_set]
  split
  · subst_vars
    rw [if_pos (List.getElem?_eq_some_iff.1 h).1, h]
  · rfl
set_option maxHeartbeats 8000000 in
theorem parts_any (x : Option Addr) (c0 : Nat) (Z : List Int) (i : Int) (w : World) (hz : okZ Z = true) (h0 : 0 ≤ i) (h1 : i ≤ 1000000) (hZ : IIn w x Z) :
    Calls Try.prog 69 #[.slice x Z.length c0, .int .i64 i] w (RetSS (ptZ Z i) w) := by
  obtain ⟨r0, hri, hrz0, hrz1, hrz2⟩ := info_parts Try.infoRowC
  have hZh := Lib.hid hZ
  have hzh := Lib.hid hz
  have h4 := okZ_len hz
  clear hZ hz
  go_enter Try.func69, Try.ntmps69
  go_wp2_with fail
  refine (placeOf_any _ _ Z i _ hzh.out h0 h1 hZh.out).mono ?_
  rintro e w1 ⟨a, b, c, d, hab, rfl, hb1⟩
  have habh := Lib.hid hab
  clear hab
  have hB1 : Below w.heap.size w (w1.alloc (.cells #[.int .i64 a, .int .i64 b, .int .i64 c, .int .i64 d] 81)) := (by repeat (first | exact Below.refl _ _ | assumption | refine Below.drew ?_ | refine below_drewN ?_ _ | refine Below.alloc' ?_ _ | (refine Below.setCell ?_ (by first | omega | (simp; done) | (simp; omega) | exact Below.size (by assumption) | exact Nat.le_trans (Below.size (by assumption)) (by simp)) _) | (refine Below.via' ?_ (by assumption)) | (refine Below.alloc ?_ (by first | omega | (simp; done) | (simp; omega) | exact Below.size (by assumption) | exact Nat.le_trans (Below.size (by assumption)) (by simp)) _) | (refine Below.via ?_ (by assumption) (by first | omega | (simp; done) | (simp; omega) | exact Below.size (by assumption) | exact Nat.le_trans (Below.size (by assumption)) (by simp)))))
  have hp0 := Lib.hid (Wb.new w1 81 #[.int .i64 a, .int .i64 b, .int .i64 c, .int .i64 d])
  have hG : w.heap.size ≤ w1.heap.size := hb1.size
  go_wp2
  go_loopw [5, 17] (fun v q wr => ∃ (j : Nat) (T : List PR), j ≤ Z.length ∧ q = .int .i64 j ∧ Hid (eM T = ptU Z i j) ∧ Hid (OwS wr w.heap.size v T) ∧ Hid (Wb wr w1.heap.size 81 #[.int .i64 a, .int .i64 b, .int .i64 c, .int .i64 d]) ∧ Below w.heap.size w wr) (fun _ q _ => Z.length - (intOf q).toNat)
  case atStart => exact ⟨0, [], by omega, by go_num, rfl, OwS.nil _ _, hp0.out, hB1⟩
  case round =>
    clear hp0 hB1 hb1
    obtain ⟨j, T, hj, rfl, hT, hS, hp, hB⟩ := hrel
    have hTl : T.length ≤ j := by
      have h2 := ptU_len Z i j
      rw [← hT.out, eM_len] at h2
      exact h2
    by_cases hlt : j < Z.length
    · obtain ⟨bl, off, z, rfl, hbl, hZj, hc0⟩ := (hZh.out.below hB).2.2.int hlt
      obtain ⟨l1, l2⟩ := okZ_at hzh.out hZj
      obtain ⟨y, hy, hyd, y0, y1⟩ := dgX_get hzh.out i hZj
      have hp1 := hp.out.inside
      have k0 : wr.cell? ⟨w1.heap.size, j, none⟩ = some (.int .i64 y) := by
        rw [hp.out.read j]
        rw [habh.out] at hy
        obtain ⟨y', hy', hy2⟩ := four_at (a := a) (b := b) (c := c) (d := d) (show j < 4 by omega)
        rw [hy'] at hy
        cases hy
        exact hy2
      have hlt' : (j : Int) < (Z.length : Int) := by omega
      have hlt4 : (j : Int) < 4 := by omega
      have hZjh := Lib.hid hZj
      have hydh := Lib.hid hyd
      clear hZj hyd hy
      by_cases he : y = z
      · have heb : (y == z) = true := by rw [beq_iff_eq]; exact he
        have heb2 : (y != z) = false := by show (!(y == z)) = false; rw [heb]; rfl
        replace he := Lib.hid he
        obtain ⟨n, rfl⟩ : ∃ n : Nat, z = (n : Int) := ⟨z.toNat, by omega⟩
        have hmk := fun (W : World) => run_make_row' (P := Try.prog) 22 3 (.int .i64 0) 8 Try.underlying22 Try.infoInt rfl .i64 .i64 n (by omega) (by omega) W
        have q0 : wr.cell? ⟨w1.heap.size, 0, none⟩ = some (.int .i64 a) := (hp.out.read 0).trans rfl
        have q1 : wr.cell? ⟨w1.heap.size, 1, none⟩ = some (.int .i64 b) := (hp.out.read 1).trans rfl
        have q2 : wr.cell? ⟨w1.heap.size, 2, none⟩ = some (.int .i64 c) := (hp.out.read 2).trans rfl
        have q3 : wr.cell? ⟨w1.heap.size, 3, none⟩ = some (.int .i64 d) := (hp.out.read 3).trans rfl
        go_upto_region 7 with fail
        go_cut [9, 10] (fun s9 s10 wx => ∃ gp gr, s9 = .pointer (some ⟨gp, 0, none⟩) ∧ s10 = .slice (some ⟨gr, 0, none⟩) n n ∧ Hid (Wb wx gp 81 #[.int .i64 a, .int .i64 b, .int .i64 c, .int .i64 d]) ∧ Hid (wx.ownsRow wr.heap.size 3 1 (.slice (some ⟨gr, 0, none⟩) n n) n (iC (List.replicate n 0))) ∧ gp ≠ gr ∧ wr.heap.size ≤ gp ∧ Below wr.heap.size wr wx)
        case first =>
          go_region
          all_goals
            go_wp2_with fail
            go_meet
            first
              | exact ⟨_, _, rfl, rfl, (pw_one _ _ (by omega) _ _ _ _).1, (pw_one _ _ (by omega) _ _ _ _).2, by omega, by omega, (by repeat (first | exact Below.refl _ _ | assumption | refine Below.drew ?_ | refine below_drewN ?_ _ | refine Below.alloc' ?_ _ | (refine Below.setCell ?_ (by first | omega | (simp; done) | (simp; omega) | exact Below.size (by assumption) | exact Nat.le_trans (Below.size (by assumption)) (by simp)) _) | (refine Below.via' ?_ (by assumption)) | (refine Below.alloc ?_ (by first | omega | (simp; done) | (simp; omega) | exact Below.size (by assumption) | exact Nat.le_trans (Below.size (by assumption)) (by simp)) _) | (refine Below.via ?_ (by assumption) (by first | omega | (simp; done) | (simp; omega) | exact Below.size (by assumption) | exact Nat.le_trans (Below.size (by assumption)) (by simp)))))⟩
              | exact ⟨_, _, rfl, rfl, (pw_two _ _ (by omega) _ _ _ _).1, (pw_two _ _ (by omega) _ _ _ _).2, by omega, by omega, (by repeat (first | exact Below.refl _ _ | assumption | refine Below.drew ?_ | refine below_drewN ?_ _ | refine Below.alloc' ?_ _ | (refine Below.setCell ?_ (by first | omega | (simp; done) | (simp; omega) | exact Below.size (by assumption) | exact Nat.le_trans (Below.size (by assumption)) (by simp)) _) | (refine Below.via' ?_ (by assumption)) | (refine Below.alloc ?_ (by first | omega | (simp; done) | (simp; omega) | exact Below.size (by assumption) | exact Nat.le_trans (Below.size (by assumption)) (by simp)) _) | (refine Below.via ?_ (by assumption) (by first | omega | (simp; done) | (simp; omega) | exact Below.size (by assumption) | exact Nat.le_trans (Below.size (by assumption)) (by simp)))))⟩
        obtain ⟨gp, gr, rfl, rfl, hP, hR, hne, hlo, hbx⟩ := hcut
        obtain ⟨wo, rfl⟩ : ∃ u : World, u = wr := ⟨_, rfl⟩
        obtain ⟨w2, rfl⟩ : ∃ u : World, u = wc := ⟨_, rfl⟩
        clear hmk q0 q1 q2 q3 k0
        have hBo := Lib.hid hB
        have hSo := Lib.hid hS.out.lt
        have hP0 := hP
        have hR0 := hR
        have hBx := hbx
        clear hP hR hbx hB
        obtain ⟨Lp, hLp⟩ : ∃ Lp, Lp = ptD Z i j := ⟨_, rfl⟩
        have hLn : n = Lp.length := by
          have := ptD_len i hZjh.out
          rw [hLp, this]
          omega
        subst hLn
        replace hLp := Lib.hid hLp
        go_wp2
        go_loopw [32] (fun q wi => ∃ (k : Nat) (L4 : List Int) (xs : List Value), k ≤ Lp.length ∧ q = .int .i64 k ∧ L4.length = 4 ∧ Hid (∀ m, L4.set j m = [a, b, c, d].set j m) ∧ Hid (Wb wi gp 81 (iC L4).toArray) ∧ Hid (wi.ownsRow wo.heap.size 3 1 (.slice (some ⟨gr, 0, none⟩) Lp.length Lp.length) Lp.length xs) ∧ Hid (∀ m, m < k → xs[m]? = (iC Lp)[m]?) ∧ Below wo.heap.size wo wi) (fun q _ => Lp.length - (intOf q).toNat)
        case atStart => exact ⟨0, [a, b, c, d], _, by omega, by go_num, rfl, fun _ => rfl, hP0.out, hR0.out, (fun m hm => absurd hm (by omega)), hBx⟩
        case round =>
          clear hP0 hR0 hBx
          obtain ⟨k, L4, xs, hk, rfl, hL4, hset, hP, hR, hdone, hbi⟩ := hrel
          obtain ⟨wi, rfl⟩ : ∃ u : World, u = wr := ⟨_, rfl⟩
          by_cases hkl : k < Lp.length
          · have hkl' : (k : Int) < (Lp.length : Int) := by omega
            obtain ⟨y4, hy4⟩ : ∃ y4, L4[j]? = some y4 := ⟨L4[j]'(by omega), List.getElem?_eq_getElem (by omega)⟩
            have k0 := hP.out.atI hy4
            have k2 := hP.out.free j
            have k4 := hP.out.inside
            obtain ⟨e0, e1, e2, e3, he4⟩ := set_four (a := a) (b := b) (c := c) (d := d) j (k : Int)
            have hPx : Hid (Wb (wi.setCell ⟨gp, j, none⟩ (.int .i64 k)) gp 81 #[.int .i64 e0, .int .i64 e1, .int .i64 e2, .int .i64 e3]) := by
              have h5 := hP.out.putI j (k : Int)
              rw [hset.out, he4] at h5
              exact h5
            have hRx : Hid ((wi.setCell ⟨gp, j, none⟩ (.int .i64 k)).ownsRow wo.heap.size 3 1 (.slice (some ⟨gr, 0, none⟩) Lp.length Lp.length) Lp.length xs) := hR.out.kept (setCell_grownC _ gp j (.int .i64 k)) (.inr (by intro e; simp [Value.ownBlock] at e; omega))
            have hbx : Below wo.heap.size wo (wi.setCell ⟨gp, j, none⟩ (.int .i64 k)) := Below.setCell (p := ⟨gp, j, none⟩) hbi hlo _
            have hpt := part_at hzh.out i hZjh.out (k := k) (by omega) (a := e0) (b := e1) (c := e2) (e := e3) (by rw [habh.out]; exact he4)
            have hpth := Lib.hid hpt
            have q0 : (wi.setCell ⟨gp, j, none⟩ (.int .i64 k)).cell? ⟨gp, 0, none⟩ = some (.int .i64 e0) := (hPx.out.read 0).trans rfl
            have q1 : (wi.setCell ⟨gp, j, none⟩ (.int .i64 k)).cell? ⟨gp, 1, none⟩ = some (.int .i64 e1) := (hPx.out.read 1).trans rfl
            have q2 : (wi.setCell ⟨gp, j, none⟩ (.int .i64 k)).cell? ⟨gp, 2, none⟩ = some (.int .i64 e2) := (hPx.out.read 2).trans rfl
            have q3 : (wi.setCell ⟨gp, j, none⟩ (.int .i64 k)).cell? ⟨gp, 3, none⟩ = some (.int .i64 e3) := (hPx.out.read 3).trans rfl
            have hLpk := Lib.hid (show (iC Lp)[k]? = some (.int .i64 (ixC Z [e0, e1, e2, e3])) by rw [hLp.out, iC_at (ptD_at i hZjh.out (by omega)), hpt.2])
            clear hpt
            replace hy4 := Lib.hid hy4
            replace he4 := Lib.hid he4
            go_wp2_with fail
            refine (cellAt_any _ _ Z e0 e1 e2 e3 _ hzh.out hpth.out.1 ((hZh.out.below hBo.out).below hbx)).mono ?_
            rintro e w3 ⟨rfl, hb3⟩
            have hR3 := own_below hRx.out hb3
            have hP3 : Hid (Wb w3 gp 81 #[.int .i64 e0, .int .i64 e1, .int .i64 e2, .int .i64 e3]) := hPx.out.kept hb3
            have hbo3 : Below wo.heap.size wo w3 := hbx.trans (hb3.mono hbx.size)
            obtain ⟨u, hu, m0⟩ := own_cell hR3 (j := k) (by omega)
            have m2 := hR3.frozenAt k
            have m4 := (own_lt hR3).2
            have m5 := (own_lt hR3).1
            replace hu := Lib.hid hu
            clear q0 q1 q2 q3 k0 k2 k4
            have hR3h := Lib.hid hR3
            clear hR3
            go_wp2
            go_roundw
            case rel =>
              refine ⟨k + 1, [e0, e1, e2, e3], _, by omega, by go_num, rfl, fun m => ?_, ?_, (hR3h.out.stored k _).1, fun m hm => ?_, Below.setCell (p := ⟨gr, k, none⟩) hbo3 m5 _⟩
              · rw [← he4.out, List.set_set]
              · exact hP3.out.off ⟨gr, k, none⟩ hne _
              · rw [List.getElem?_set]
                have hlen : xs.length = Lp.length := by rw [hRx.out.1]; omega
                split
                · subst_vars
                  rw [if_pos (by omega), hLpk.out]
                · exact hdone.out m (by omega)
            case measure => simp [intOf]; omega
          · have hkn : k = Lp.length := by omega
            subst hkn
            have hxs : xs = iC Lp := by
              have hlen : xs.length = Lp.length := by rw [hR.out.1]; omega
              apply List.ext_getElem?
              intro m
              rcases Nat.lt_or_ge m Lp.length with hm | hm
              · exact hdone.out m hm
              · rw [List.getElem?_eq_none (by omega), List.getElem?_eq_none (by rw [iC_len]; omega)]
            subst hxs
            have hSi := Lib.hid (hS.out.below hbi)
            have hpi := Lib.hid (hp.out.kept hbi)
            have hBi : Below w.heap.size w wi := hBo.out.trans (hbi.mono hBo.out.size)
            have hBis := hBi.size
            go_wp2_with (at_builtin; go_loud (refine wpList_append_rd _ rfl (.tmp 45) (.tmp 47) 50 rfl w.heap.size 22 r0 (.slice none 0 0) 1 24 Try.underlying50 hri hrz0 hrz1 hrz2 rfl (by decide) _ T.length (eC T) rfl (hSi.out.1.alloc _) _ 1 1 rfl (Nat.le_refl _) (by intro h; cases h) (eC [⟨0, 0, some ⟨gr, 0, none⟩, Lp.length, Lp⟩]) rfl (rd_oneC _ _ _ _ (by simp)) (eC_one _) (by unfold maxLen; omega) (by omega) (by simp; omega) ?_); intro v3 w4 hown3 hgrow3 hwhere3)
            obtain ⟨hb4, hl4⟩ := append_below hBi (fun k hk => (hSi.out.1.lt k hk).1) hgrow3 hwhere3
            have hS4 := Lib.hid (hSi.out.snoc hgrow3 hown3 hR.out hBo.out.size hSo.out)
            have hp4 := Lib.hid (hpi.out.grew hgrow3 (wb_apart hpi.out hSi.out.1 (by decide)))
            have hT4 := Lib.hid (ptU_row (r := ⟨0, 0, some ⟨gr, 0, none⟩, Lp.length, Lp⟩) hT.out hZjh.out hydh.out he.out hLp.out)
            clear hgrow3 hwhere3 hown3
            go_wp2
            go_roundw
            case rel => exact ⟨j + 1, T ++ [⟨0, 0, some ⟨gr, 0, none⟩, Lp.length, Lp⟩], by omega, by go_num, hT4, hS4, hp4, hb4⟩
            case measure => simp [intOf]; omega
      · have heb : (y == z) = false := by rw [beq_eq_false_iff_ne]; exact he
        have heb2 : (y != z) = true := by show (!(y == z)) = true; rw [heb]; rfl
        have hst := Lib.hid (ptU_no hZjh.out hydh.out he)
        replace he := Lib.hid he
        go_wp2
        go_roundw
        case rel => exact ⟨j + 1, T, by omega, by go_num, by rw [hst.out]; exact hT.out, hS.out, hp.out, hB⟩
        case measure => simp [intOf]; omega
    · have hij : j = Z.length := by omega
      subst hij
      go_wp2
      go_ret
      exact ⟨_, T, rfl, hT.out, hS.out, hB⟩
end Go.Proofs.Ytnmpigedhpdenaa
