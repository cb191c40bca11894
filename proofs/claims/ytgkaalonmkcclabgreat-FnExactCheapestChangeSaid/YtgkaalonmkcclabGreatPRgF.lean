import Derived.Test.YtgkaalonmkcclabGreatPRgE
import Derived.Deep.DeepCutAuto
import Derived.OwnWalk
import Derived.Test.YtgkaalonmkcclabGreatPRgC
import Derived.WalkMore
import Derived.Test.YtgkaalonmkcclabGreatEdS
namespace Go.Proofs.YtgkaalonmkcclabGreat
open Go.RowKit
set_option maxRecDepth 100000

set_option maxHeartbeats 2000000 in
theorem iBits_any (x : Int) (w : World) (h0 : 0 ≤ x) (h1 : x ≤ 255) :
    Calls Tryz.prog 45 #[.int .i64 x] w (RetL (lvsL x) w) := by
  obtain ⟨i0, hii, hz0, hz1, hz2⟩ := info_parts Tryz.infoInt
  go_enter Tryz.func45, Tryz.ntmps45
  go_wp2
  go_loopw [3, 4] (fun u q wr => ∃ i : Nat, i ≤ 8 ∧ q = .int .i64 i ∧ wr.ownsRow w.heap.size 3 1 u (lvsUp x i).length (iC (lvsUp x i)) ∧ Below w.heap.size w wr) (fun _ q _ => 8 - (intOf q).toNat)
  case atStart => exact ⟨0, by omega, by go_num, World.ownsRow_nil _ _ _ _, (by repeat (first | exact Below.refl _ _ | assumption | refine Below.drew ?_ | refine below_drewN ?_ _ | refine Below.alloc' ?_ _ | (refine Below.setCell ?_ (by first | omega | (simp; done) | (simp; omega) | exact Below.size (by assumption) | exact Nat.le_trans (Below.size (by assumption)) (by simp)) _) | (refine Below.via' ?_ (by assumption)) | (refine Below.alloc ?_ (by first | omega | (simp; done) | (simp; omega) | exact Below.size (by assumption) | exact Nat.le_trans (Below.size (by assumption)) (by simp)) _) | (refine Below.via ?_ (by assumption) (by first | omega | (simp; done) | (simp; omega) | exact Below.size (by assumption) | exact Nat.le_trans (Below.size (by assumption)) (by simp)))))⟩
  case round =>
    obtain ⟨i, hi, rfl, hown, hb⟩ := hrel
    have hownh := Lib.hid hown
    clear hown
    have hsl := lvsUp_len x i
    have hwu := wrapU i (by omega)
    obtain ⟨d1, d2⟩ := div_pos8 h0 h1 hi
    by_cases hlt : 0 < x / 2 ^ i
    · have hi8 := d1 hlt
      clear d1 d2
      have hsv := shr_one h0 (by omega) i
      cases hh : hsB x i
      · have hsel := Lib.hid (lvsUp_no hh)
        rw [hh] at hsv
        have hz : (bits .and .i64 (x / 2 ^ i) 1 == 1) = false := by rw [hsv]; rfl
        replace hsv := Lib.hid hsv
        go_wp2
        go_roundw
        case rel => exact ⟨i + 1, by omega, by go_num, by rw [hsel.out]; exact hownh.out, hb⟩
        case measure => simp [intOf]; omega
      · have hsel := Lib.hid (lvsUp_yes hh)
        rw [hh] at hsv
        have hz : (bits .and .i64 (x / 2 ^ i) 1 == 1) = true := by rw [hsv]; rfl
        replace hsv := Lib.hid hsv
        have hs0 := hb.size
        go_wp2_with (at_builtin; go_loud (refine wpList_append_rd _ rfl (.tmp 18) (.tmp 20) 24 rfl (w.heap.size) 3 i0 (.int .i64 0) 1 8 Tryz.underlying24 hii hz0 hz1 hz2 rfl (by decide) _ (lvsUp x i).length (iC (lvsUp x i)) rfl ((hownh.out.alloc _)) _ 1 1 rfl (Nat.le_refl _) (by intro h; cases h) (iC [((i : Int) : Int)]) rfl (rd_oneE _ _ _ _ (by simp)) (iC_one _) (by unfold maxLen; omega) (by omega) (by simp; omega) ?_); intro v3 w3 hown3 hgrow3 hwhere3)
        obtain ⟨hb3, hl3⟩ := append_below hb (fun k hk => (hownh.out.lt k hk).1) hgrow3 hwhere3
        have hown3 := Lib.hid (own_snocE hown3 hsel.out rfl)
        clear hgrow3 hwhere3
        go_wp2
        go_roundw
        case rel => exact ⟨i + 1, by omega, by go_num, hown3.out, hb3⟩
        case measure => simp [intOf]; omega
    · have he := Lib.hid (lvsUp_all (d2 hlt) hi)
      clear d1 d2
      go_wp2
      go_ret
      exact ⟨_, rfl, by rw [← he.out]; exact hownh.out, hb⟩

set_option maxHeartbeats 1000000 in
theorem iSum_any (x y : Option Addr) (c1 c2 : Nat) (W L : List Int) (w : World) (hw : inR W 1 100 = true) (hl : L.length ≤ 1000) (hL : ∀ v ∈ L, 0 ≤ v ∧ v < (W.length : Int)) (hWi : IIn w x W) (hLi : IIn w y L) :
    Calls Tryz.prog 46 #[.slice x W.length c1, .slice y L.length c2] w fun e w' => e = .returned (.int .i64 (swZ W L)) ∧ Below w.heap.size w w' := by
  have hWh := Lib.hid hWi
  have hWl := hWi.1
  have hLh := Lib.hid hLi
  have hb0 := Lib.hid (fun M : List Int => sw_bd hw M)
  have hwt := Lib.hid (wtA_bd hw)
  have hLm := Lib.hid hL
  clear hWi hLi hL
  go_enter Tryz.func46, Tryz.ntmps46
  go_wp2
  go_loopw [5, 10] (fun q c wr => ∃ i : Nat, i ≤ L.length ∧ c = .int .i64 i ∧ q = .int .i64 (swZ W (L.take i)) ∧ Below w.heap.size w wr) (fun _ c _ => L.length - (intOf c).toNat)
  case atStart => exact ⟨0, by omega, rfl, rfl, (by repeat (first | exact Below.refl _ _ | assumption | refine Below.drew ?_ | refine below_drewN ?_ _ | refine Below.alloc' ?_ _ | (refine Below.setCell ?_ (by first | omega | (simp; done) | (simp; omega) | exact Below.size (by assumption) | exact Nat.le_trans (Below.size (by assumption)) (by simp)) _) | (refine Below.via' ?_ (by assumption)) | (refine Below.alloc ?_ (by first | omega | (simp; done) | (simp; omega) | exact Below.size (by assumption) | exact Nat.le_trans (Below.size (by assumption)) (by simp)) _) | (refine Below.via ?_ (by assumption) (by first | omega | (simp; done) | (simp; omega) | exact Below.size (by assumption) | exact Nat.le_trans (Below.size (by assumption)) (by simp)))))⟩
  case round =>
    obtain ⟨i, hi, rfl, rfl, hb⟩ := hrel
    by_cases hlt : i < L.length
    · obtain ⟨bl, off, v, rfl, hbl, hLv, hc0⟩ := (hLh.out.below hb).2.2.int hlt
      obtain ⟨v1, v2⟩ := hLm.out v (List.mem_of_getElem? hLv)
      obtain ⟨k, rfl⟩ : ∃ k : Nat, v = (k : Int) := ⟨v.toNat, by omega⟩
      obtain ⟨bl2, off2, n, rfl, hbl2, hWk, hc1⟩ := (hWh.out.below hb).2.2.int (i := k) (by omega)
      have hst := Lib.hid (sw_take (W := W) hLv)
      have hwn := Lib.hid (wtA_at hWk)
      have hb1 := hb0.out (L.take i)
      have hb2 : ((L.take i).length : Int) ≤ 1000 := by rw [List.length_take]; omega
      have hn := hwt.out (k : Int)
      rw [hwn.out] at hn
      have hlt' : (i : Int) < (L.length : Int) := by omega
      have hi0 : (0 : Int) ≤ (i : Int) := by omega
      replace hLv := Lib.hid hLv
      replace hWk := Lib.hid hWk
      go_wp2
      go_roundw
      case rel => exact ⟨i + 1, by omega, by go_num, (by rw [hst.out, hwn.out]; try rw [IntWalk.i64_in _ (by omega)]), (by repeat (first | exact Below.refl _ _ | assumption | refine Below.drew ?_ | refine below_drewN ?_ _ | refine Below.alloc' ?_ _ | (refine Below.setCell ?_ (by first | omega | (simp; done) | (simp; omega) | exact Below.size (by assumption) | exact Nat.le_trans (Below.size (by assumption)) (by simp)) _) | (refine Below.via' ?_ (by assumption)) | (refine Below.alloc ?_ (by first | omega | (simp; done) | (simp; omega) | exact Below.size (by assumption) | exact Nat.le_trans (Below.size (by assumption)) (by simp)) _) | (refine Below.via ?_ (by assumption) (by first | omega | (simp; done) | (simp; omega) | exact Below.size (by assumption) | exact Nat.le_trans (Below.size (by assumption)) (by simp)))))⟩
      case measure => simp [intOf]; omega
    · have hij : i = L.length := by omega
      subst hij
      go_wp2
      go_ret
      exact ⟨ret_int (by rw [List.take_length]), (by repeat (first | exact Below.refl _ _ | assumption | refine Below.drew ?_ | refine below_drewN ?_ _ | refine Below.alloc' ?_ _ | (refine Below.setCell ?_ (by first | omega | (simp; done) | (simp; omega) | exact Below.size (by assumption) | exact Nat.le_trans (Below.size (by assumption)) (by simp)) _) | (refine Below.via' ?_ (by assumption)) | (refine Below.alloc ?_ (by first | omega | (simp; done) | (simp; omega) | exact Below.size (by assumption) | exact Nat.le_trans (Below.size (by assumption)) (by simp)) _) | (refine Below.via ?_ (by assumption) (by first | omega | (simp; done) | (simp; omega) | exact Below.size (by assumption) | exact Nat.le_trans (Below.size (by assumption)) (by simp)))))⟩
set_option maxHeartbeats 2000000 in
theorem iOthers_any (x y : Option Addr) (c1 c2 : Nat) (S : List (ByteArray × Int)) (I : List Int) (w : World) (hs : S.length ≤ 1000) (hI : IIn w y I) :
    Calls Tryz.prog 49 #[.slice x S.length c1, .slice y I.length c2] w (RetL (otL I S.length) w) := by
  obtain ⟨i0, hii, hz0, hz1, hz2⟩ := info_parts Tryz.infoInt
  have hIh := Lib.hid hI
  clear hI
  go_enter Tryz.func49, Tryz.ntmps49
  go_wp2
  go_loopw [5, 9] (fun u c2 wr => ∃ j : Nat, j ≤ S.length ∧ c2 = .int .i64 j ∧ wr.ownsRow w.heap.size 3 1 u (pkUp (otB I) j).length (iC (pkUp (otB I) j)) ∧ Below w.heap.size w wr) (fun _ c2 _ => S.length - (intOf c2).toNat)
  case atStart => exact ⟨0, by omega, by first | rfl | go_num, World.ownsRow_nil _ _ _ _, Below.refl _ _⟩
  case round =>
    obtain ⟨j, hj, rfl, hfx, hBj⟩ := hrel
    have hfxh := Lib.hid hfx
    have hvin := Lib.hid (hIh.out.below hBj)
    have hpl := pkUp_len (otB I) j
    have hsj := hBj.size
    clear hfx
    by_cases hjl : j < S.length
    · have hjl' : (j : Int) < (S.length : Int) := by omega
      cases hc : I.contains (j : Int)
      · have hsel : Hid (pkUp (otB I) (j + 1) = pkUp (otB I) j ++ [(j : Int)]) := pkUp_yes (by unfold otB; rw [hc]; rfl)
        go_wp2_with fail
        refine (l1Has_any _ _ I (j : Int) _ hvin.out).mono ?_
        rintro e w4 ⟨rfl, rfl⟩
        rw [hc]
        go_wp2_with (at_builtin; go_loud (refine wpList_append_rd _ rfl (.tmp 16) (.tmp 18) 24 rfl (w.heap.size) 3 i0 (.int .i64 0) 1 8 Tryz.underlying24 hii hz0 hz1 hz2 rfl (by decide) _ (pkUp (otB I) j).length (iC (pkUp (otB I) j)) rfl ((hfxh.out.alloc _)) _ 1 1 rfl (Nat.le_refl _) (by intro h; cases h) (iC [((j : Int) : Int)]) rfl (rd_oneE _ _ _ _ (by simp)) (iC_one _) (by unfold maxLen; omega) (by omega) (by simp; omega) ?_); intro v3 w3 hown3 hgrow3 hwhere3)
        obtain ⟨hb4, -⟩ := append_below hBj (fun k hk => (hfxh.out.lt k hk).1) hgrow3 hwhere3
        have hown3 := Lib.hid (own_snocE hown3 hsel.out rfl)
        clear hgrow3 hwhere3
        go_wp2
        go_roundw
        case rel => exact ⟨j + 1, by omega, by go_num, hown3.out, hb4⟩
        case measure => simp [intOf]; omega
      · have hsel : Hid (pkUp (otB I) (j + 1) = pkUp (otB I) j) := pkUp_no (by unfold otB; rw [hc]; rfl)
        go_wp2_with fail
        refine (l1Has_any _ _ I (j : Int) _ hvin.out).mono ?_
        rintro e w4 ⟨rfl, rfl⟩
        rw [hc]
        go_wp2
        go_roundw
        case rel => exact ⟨j + 1, by omega, by go_num, by rw [hsel.out]; exact hfxh.out, hBj⟩
        case measure => simp [intOf]; omega
    · have hij : j = S.length := by omega
      subst hij
      go_wp2
      go_ret
      exact ⟨_, rfl, hfxh.out, hBj⟩
/-- Is a set passed over? -/
def skB (W : List Int) (o : Option (List Int)) (c : List Int) : Bool := match o with
  | none => false
  | some b => decide (0 ≤ kcZ W c b)
theorem sk_yes {W c : List Int} {o : Option (List Int)} (h : skB W o c = true) : moS W o c = o := by
  cases o with
  | none => cases h
  | some b =>
    have h1 : 0 ≤ kcZ W c b := of_decide_eq_true h
    exact moS_no (by omega)
theorem sk_no {W c : List Int} {o : Option (List Int)} (h : skB W o c = false) : moS W o c = some c := by
  cases o with
  | none => rfl
  | some b =>
    have h1 : ¬ 0 ≤ kcZ W c b := of_decide_eq_false h
    exact moS_yes (by omega)
theorem mo_mem {S : List (ByteArray × Int)} {M : List (List Int)} {W V : List Int} {k : Nat} {b : List Int} (h : moL W (cvQ S M V k) = some b) : ∃ st : Int, b = lvsL st := by
  have h1 := (mo_some h).1
  unfold cvQ at h1
  obtain ⟨st, _, e⟩ := List.mem_map.1 h1
  exact ⟨_, e.symm⟩
/-- What the search for the cheapest change hands back. -/
def CkPost (o : Option (List Int)) (W : List Int) (w : World) (e : Ending) (w' : World) : Prop :=
  ∃ v, e = .returned (.tuple #[v, .int .i64 (swZ W (o.getD [])), .bool o.isSome]) ∧ w'.ownsRow w.heap.size 3 1 v (o.getD []).length (iC (o.getD [])) ∧ Below w.heap.size w w'
set_option maxHeartbeats 8000000 in
theorem iCheapest_any (x y z u : Option Addr) (c1 c2 c3 c4 : Nat) (S : List (ByteArray × Int)) (Q : List PR) (W V : List Int) (w : World) (hc : cmB S (eM Q) W V = true) (hS : SIn w x c1 S) (hQ : EIn w y Q) (hW : IIn w z W) (hV : IIn w u V) :
    Calls Tryz.prog 27 #[.slice x S.length c1, .slice y Q.length c2, .slice z W.length c3, .slice u V.length c4] w (CkPost (ckO S (eM Q) W V) W w) := by
  obtain ⟨k1, k2, k3⟩ := cm_get hc
  obtain ⟨w1, w2⟩ := wg_get k2
  have hSh := Lib.hid hS
  have hQh := Lib.hid hQ
  have hWh := Lib.hid hW
  have hVh := Lib.hid hV
  have hsm := Lib.hid k1
  have hfit := Lib.hid k3
  have hwl := Lib.hid w1
  have hwr := Lib.hid w2
  have hsh := Lib.hid (el_get (sm_get k1).1).1
  have hl6 := (schB_len hsh.out).2
  have hbd := Lib.hid (fun L : List Int => sw_bd w2 L)
  obtain ⟨T, hT, hT64⟩ := two_pow hsh.out
  have hTw := wrap_two hT hT64
  have hTh := Lib.hid hT
  clear hS hQ hW hV hc k1 k2 k3 w1 w2 hT
  go_enter Tryz.func27, Tryz.ntmps27
  go_wp2
  go_loopw [11, 12, 13, 14] (fun b q fd c wr => ∃ i : Nat, i ≤ T ∧ c = .int .i64 i ∧ fd = .bool (moL W (cvQ S (eM Q) V i)).isSome ∧ q = .int .i64 (swZ W ((moL W (cvQ S (eM Q) V i)).getD [])) ∧ wr.ownsRow w.heap.size 3 1 b ((moL W (cvQ S (eM Q) V i)).getD []).length (iC ((moL W (cvQ S (eM Q) V i)).getD [])) ∧ Below w.heap.size w wr) (fun _ _ _ c _ => T - (intOf c).toNat)
  case atStart => exact ⟨0, by omega, by first | rfl | go_num, rfl, rfl, World.ownsRow_nil _ _ _ _, Below.refl _ _⟩
  case round =>
    obtain ⟨i, hi, rfl, rfl, rfl, hown, hBr⟩ := hrel
    obtain ⟨xb, cb, rfl, -, -⟩ := (OwR.of hown).form
    have hownh := Lib.hid hown
    clear hown
    by_cases hlt : i < T
    · have hlt' : (i : Int) < (T : Int) := by omega
      have hvl : (lvsL (i : Int)).length ≤ 8 := lvsL_len _
      go_wp2_with fail
      refine (iBits_any (i : Int) _ (by omega) (by omega)).mono ?_
      rintro e w3 ⟨u3, rfl, ho3, hb3⟩
      obtain ⟨x3, n3, rfl, -, -⟩ := (OwR.of ho3).form
      have vars3 := Lib.hid (own_more ho3 hBr.size)
      have best3 := Lib.hid (own_below hownh.out hb3)
      have hB3 : Below w.heap.size w w3 := (by repeat (first | exact Below.refl _ _ | assumption | refine Below.drew ?_ | refine below_drewN ?_ _ | refine Below.alloc' ?_ _ | (refine Below.setCell ?_ (by first | omega | (simp; done) | (simp; omega) | exact Below.size (by assumption) | exact Nat.le_trans (Below.size (by assumption)) (by simp)) _) | (refine Below.via' ?_ (by assumption)) | (refine Below.alloc ?_ (by first | omega | (simp; done) | (simp; omega) | exact Below.size (by assumption) | exact Nat.le_trans (Below.size (by assumption)) (by simp)) _) | (refine Below.via ?_ (by assumption) (by first | omega | (simp; done) | (simp; omega) | exact Below.size (by assumption) | exact Nat.le_trans (Below.size (by assumption)) (by simp)))))
      have hs3 := hB3.size
      have hvin3 := Lib.hid (lvs_iin (Rd.of_own vars3.out))
      clear ho3 hownh hBr hb3
      have hlvm : Hid (∀ v ∈ lvsL (i : Int), 0 ≤ v ∧ v < (W.length : Int)) := by
        intro v hv
        rw [← lvsUp_all (x := (i : Int)) (i := S.length) (by rw [Int.toNat_natCast, hTh.out]; omega) (by omega)] at hv
        obtain ⟨k, e, hk, _⟩ := pkUp_mem (p := fun l : Nat => hsB (i : Int) (l : Int)) (n := S.length) hv
        have := hwl.out
        omega
      go_wp2_with fail
      refine (iSum_any _ _ _ _ W (lvsL (i : Int)) _ hwr.out (by omega) hlvm.out (hWh.out.below hB3) hvin3.out).mono ?_
      rintro e w4 ⟨rfl, hb4⟩
      have hB4 : Below w.heap.size w w4 := (by repeat (first | exact Below.refl _ _ | assumption | refine Below.drew ?_ | refine below_drewN ?_ _ | refine Below.alloc' ?_ _ | (refine Below.setCell ?_ (by first | omega | (simp; done) | (simp; omega) | exact Below.size (by assumption) | exact Nat.le_trans (Below.size (by assumption)) (by simp)) _) | (refine Below.via' ?_ (by assumption)) | (refine Below.alloc ?_ (by first | omega | (simp; done) | (simp; omega) | exact Below.size (by assumption) | exact Nat.le_trans (Below.size (by assumption)) (by simp)) _) | (refine Below.via ?_ (by assumption) (by first | omega | (simp; done) | (simp; omega) | exact Below.size (by assumption) | exact Nat.le_trans (Below.size (by assumption)) (by simp)))))
      have vars4 := Lib.hid (own_below vars3.out hb4)
      have best4 := Lib.hid (own_below best3.out hb4)
      clear vars3 best3 hb4 hB3 hvin3
      obtain ⟨a1, a2⟩ := hbd.out (lvsL (i : Int))
      go_upto_region 8 with fail
      go_cut [11, 12, 13, 62] (fun s11 s12 s13 s62 wx => s11 = .slice xb ((moL W (cvQ S (eM Q) V i)).getD []).length cb ∧ s12 = .int .i64 (swZ W ((moL W (cvQ S (eM Q) V i)).getD [])) ∧ s13 = .bool (moL W (cvQ S (eM Q) V i)).isSome ∧ s62 = .bool (skB W (moL W (cvQ S (eM Q) V i)) (lvsL (i : Int))) ∧ Below w4.heap.size w4 wx)
      case first =>
        cases hmn : moL W (cvQ S (eM Q) V i) with
        | none =>
          replace hmn := Lib.hid hmn
          go_wp2
          go_meet
          exact ⟨by rw [hmn.out]; rfl, by rw [hmn.out]; rfl, by rw [hmn.out]; rfl, by rw [hmn.out]; rfl, Below.refl _ _⟩
        | some b =>
          obtain ⟨st, hst⟩ := mo_mem hmn
          rw [hmn] at best4
          have hbl : b.length ≤ 8 := by rw [hst]; exact lvsL_len st
          obtain ⟨b1, b2⟩ := hbd.out b
          have hgd : (some b).getD [] = b := rfl
          replace hmn := Lib.hid hmn
          clear hst
          dsimp only [Option.getD, Option.isSome]
          by_cases h1 : swZ W b < swZ W (lvsL (i : Int))
          · have hsk : Hid (skB W (some b) (lvsL (i : Int)) = true) := by unfold Hid skB; exact decide_eq_true (by rw [kc_more h1]; omega)
            go_wp2
            go_meet
            exact ⟨by rw [hmn.out]; rfl, by rw [hmn.out]; rfl, by rw [hmn.out]; rfl, by rw [hmn.out, hsk.out], Below.refl _ _⟩
          · by_cases h2 : swZ W (lvsL (i : Int)) < swZ W b
            · have hsk : Hid (skB W (some b) (lvsL (i : Int)) = false) := by unfold Hid skB; exact decide_eq_false (by rw [kc_less h2]; omega)
              have h3 : (swZ W (lvsL (i : Int)) == swZ W b) = false := by rw [beq_eq_false_iff_ne]; omega
              go_wp2
              go_meet
              exact ⟨by rw [hmn.out]; rfl, by rw [hmn.out]; rfl, by rw [hmn.out]; rfl, by rw [hmn.out, hsk.out], Below.refl _ _⟩
            · have h3 : (swZ W (lvsL (i : Int)) == swZ W b) = true := by rw [beq_iff_eq]; omega
              have hcs : Hid (kcZ W (lvsL (i : Int)) b = csZ (lvsL (i : Int)) b) := kc_same (by omega)
              by_cases h4 : b.length < (lvsL (i : Int)).length
              · have hsk : Hid (skB W (some b) (lvsL (i : Int)) = true) := by unfold Hid skB; exact decide_eq_true (by rw [hcs.out]; unfold csZ; rw [if_neg (by omega), if_pos h4]; omega)
                have h4' : (b.length : Int) < ((lvsL (i : Int)).length : Int) := by omega
                go_wp2
                go_meet
                exact ⟨by rw [hmn.out]; rfl, by rw [hmn.out]; rfl, by rw [hmn.out]; rfl, by rw [hmn.out, hsk.out], Below.refl _ _⟩
              · have h4' : ¬ (b.length : Int) < ((lvsL (i : Int)).length : Int) := by omega
                by_cases h5 : (lvsL (i : Int)).length < b.length
                · have hsk : Hid (skB W (some b) (lvsL (i : Int)) = false) := by unfold Hid skB; exact decide_eq_false (by rw [hcs.out]; unfold csZ; rw [if_pos h5]; omega)
                  have h5' : (((lvsL (i : Int)).length : Int) == (b.length : Int)) = false := by rw [beq_eq_false_iff_ne]; omega
                  go_wp2
                  go_meet
                  exact ⟨by rw [hmn.out]; rfl, by rw [hmn.out]; rfl, by rw [hmn.out]; rfl, by rw [hmn.out, hsk.out], Below.refl _ _⟩
                · have h5' : (((lvsL (i : Int)).length : Int) == (b.length : Int)) = true := by rw [beq_iff_eq]; omega
                  have hcl : Hid (csZ (lvsL (i : Int)) b = lxZ (lvsL (i : Int)) b) := by unfold Hid csZ; rw [if_neg h5, if_neg h4]
                  have hrd := Lib.hid (Rd.of_own best4.out)
                  go_wp2_with fail
                  refine (l1LessI_any _ _ (lvsL (i : Int)).length b.length _ _ (lvsL (i : Int)) b _ rfl rfl (by omega) (by omega) (Rd.of_own vars4.out) hrd.out).mono ?_
                  rintro e w8 ⟨rfl, hb8⟩
                  by_cases h6 : 0 ≤ lxZ (lvsL (i : Int)) b
                  · have hsk : Hid (skB W (some b) (lvsL (i : Int)) = true) := by unfold Hid skB; exact decide_eq_true (by rw [hcs.out, hcl.out]; exact h6)
                    go_wp2
                    go_meet
                    exact ⟨by rw [hmn.out]; rfl, by rw [hmn.out]; rfl, by rw [hmn.out]; rfl, by rw [hmn.out, hsk.out], hb8⟩
                  · have hsk : Hid (skB W (some b) (lvsL (i : Int)) = false) := by unfold Hid skB; exact decide_eq_false (by rw [hcs.out, hcl.out]; exact h6)
                    go_wp2
                    go_meet
                    exact ⟨by rw [hmn.out]; rfl, by rw [hmn.out]; rfl, by rw [hmn.out]; rfl, by rw [hmn.out, hsk.out, decide_eq_false (by omega)], hb8⟩
      obtain ⟨rfl, rfl, rfl, rfl, hbx⟩ := hcut
      obtain ⟨w5, rfl⟩ : ∃ x : World, x = wc := ⟨_, rfl⟩
      have hB5 : Below w.heap.size w w5 := hB4.trans (hbx.mono hB4.size)
      have vars5 := Lib.hid (own_below vars4.out hbx)
      have best5 := Lib.hid (own_below best4.out hbx)
      have hvin5 := Lib.hid (lvs_iin (Rd.of_own vars5.out))
      clear vars4 best4 hbx hB4
      cases hsk : skB W (moL W (cvQ S (eM Q) V i)) (lvsL (i : Int))
      · have hmo := Lib.hid (sk_no hsk)
        replace hsk := Lib.hid hsk
        go_wp2_with fail
        refine (iOthers_any _ _ _ _ S (lvsL (i : Int)) _ (by omega) hvin5.out).mono ?_
        rintro e w6 ⟨u6, rfl, ho6, hb6⟩
        obtain ⟨x6, n6, rfl, -, -⟩ := (OwR.of ho6).form
        have hfin : Hid (IIn w6 x6 (otL (lvsL (i : Int)) S.length)) := pk_iin (by omega) (Rd.of_own ho6)
        have hB6 : Below w.heap.size w w6 := hB5.trans (hb6.mono hB5.size)
        have vars6 := Lib.hid (own_below vars5.out hb6)
        have best6 := Lib.hid (own_below best5.out hb6)
        have hcgk : Hid (cgG S (eM Q) (otL (lvsL (i : Int)) S.length) V = true) := cg_yes hsm.out (rs_pk S (otB (lvsL (i : Int)))) hfit.out
        clear ho6 hb6 vars5 best5 hvin5 hB5
        go_wp2_with fail
        refine (eComplete_any _ _ _ _ _ _ _ _ S Q (otL (lvsL (i : Int)) S.length) V _ hcgk.out (hSh.out.below hB6) (hQh.out.below hB6) hfin.out (hVh.out.below hB6)).mono ?_
        rintro e w7 ⟨u7, rfl, -, hb7⟩
        rw [show (coN S (eM Q) (otL (lvsL (i : Int)) S.length) V).isSome = cvO S (eM Q) V i from rfl]
        have hB7 : Below w.heap.size w w7 := hB6.trans (hb7.mono hB6.size)
        have vars7 := Lib.hid (own_below vars6.out hb7)
        have best7 := Lib.hid (own_below best6.out hb7)
        clear vars6 best6 hb7 hB6 hfin hcgk
        cases hcv0 : cvO S (eM Q) V i
        · have hnx : Hid (moL W (cvQ S (eM Q) V (i + 1)) = moL W (cvQ S (eM Q) V i)) := by unfold Hid; rw [cvQ_no hcv0]
          go_wp2
          go_roundw
          case rel => exact ⟨i + 1, by omega, by go_num, by rw [hnx.out], by rw [hnx.out], by rw [hnx.out]; exact best7.out, hB7⟩
          case measure => simp [intOf]; omega
        · have hnx : Hid (moL W (cvQ S (eM Q) V (i + 1)) = some (lvsL (i : Int))) := by unfold Hid; rw [cvQ_yes hcv0, mo_snoc, hmo.out]
          go_wp2
          go_roundw
          case rel => exact ⟨i + 1, by omega, by go_num, by rw [hnx.out]; rfl, by rw [hnx.out]; rfl, by rw [hnx.out]; exact vars7.out, hB7⟩
          case measure => simp [intOf]; omega
      · have hnx : Hid (moL W (cvQ S (eM Q) V (i + 1)) = moL W (cvQ S (eM Q) V i)) := by
          unfold Hid
          cases hcv0 : cvO S (eM Q) V i
          · rw [cvQ_no hcv0]
          · rw [cvQ_yes hcv0, mo_snoc, sk_yes hsk]
        replace hsk := Lib.hid hsk
        go_wp2
        go_roundw
        case rel => exact ⟨i + 1, by omega, by go_num, by rw [hnx.out], by rw [hnx.out], by rw [hnx.out]; exact best5.out, hB5⟩
        case measure => simp [intOf]; omega
    · have hij : i = T := by omega
      subst hij
      have ho : Hid (ckO S (eM Q) W V = moL W (cvQ S (eM Q) V i)) := by unfold Hid ckO; rw [hTh.out]
      go_wp2
      go_ret3
      unfold CkPost
      rw [ho.out]
      exact ⟨_, rfl, hownh.out, hBr⟩
/-- The values in which the cheapest change mends. -/
def mvL (S : List (ByteArray × Int)) (M : List (List Int)) (W V : List Int) : List Int := match ckO S M W V with
  | none => []
  | some b => coL S M (otL b S.length) V
theorem mv_some {S : List (ByteArray × Int)} {M : List (List Int)} {W V b : List Int} (h : ckO S M W V = some b) : mvL S M W V = coL S M (otL b S.length) V := by unfold mvL; rw [h]
theorem mv_none {S : List (ByteArray × Int)} {M : List (List Int)} {W V : List Int} (h : ckO S M W V = none) : mvL S M W V = [] := by unfold mvL; rw [h]
theorem mv_len (S : List (ByteArray × Int)) (M : List (List Int)) (W V : List Int) : (mvL S M W V).length ≤ S.length := by
  unfold mvL
  split
  · exact Nat.zero_le _
  · exact co_len _ _ _ _
theorem ck_ok {S : List (ByteArray × Int)} {M : List (List Int)} {W V b : List Int} (h : ckO S M W V = some b) : ckB S M V b = true ∧ ∃ st : Nat, b = lvsL ((st : Nat) : Int) ∧ st < 2 ^ S.length := by
  have h1 := (mo_some h).1
  unfold cvQ at h1
  obtain ⟨st, hst, rfl⟩ := List.mem_map.1 h1
  obtain ⟨h2, h3⟩ := List.mem_filter.1 hst
  exact ⟨h3, st, rfl, List.mem_range.1 h2⟩
set_option maxHeartbeats 2000000 in
theorem iMend_any (x y z u : Option Addr) (c1 c2 c3 c4 : Nat) (S : List (ByteArray × Int)) (Q : List PR) (W V : List Int) (w : World) (hc : cmB S (eM Q) W V = true) (hS : SIn w x c1 S) (hQ : EIn w y Q) (hW : IIn w z W) (hV : IIn w u V) :
    Calls Tryz.prog 35 #[.slice x S.length c1, .slice y Q.length c2, .slice z W.length c3, .slice u V.length c4] w (RetLB (mvL S (eM Q) W V) (ckO S (eM Q) W V).isSome w) := by
  obtain ⟨k1, k2, k3⟩ := cm_get hc
  have hSh := Lib.hid hS
  have hQh := Lib.hid hQ
  have hWh := Lib.hid hW
  have hVh := Lib.hid hV
  have hsm := Lib.hid k1
  have hfit := Lib.hid k3
  have hch := Lib.hid hc
  have hl6 := (schB_len (el_get (sm_get k1).1).1).2
  clear hS hQ hW hV hc k1 k2 k3
  go_enter Tryz.func35, Tryz.ntmps35
  go_wp2_with fail
  refine (iCheapest_any _ _ _ _ _ _ _ _ S Q W V _ hch.out (hSh.out.below (by exact (by repeat (first | exact Below.refl _ _ | assumption | refine Below.drew ?_ | refine below_drewN ?_ _ | refine Below.alloc' ?_ _ | (refine Below.setCell ?_ (by first | omega | (simp; done) | (simp; omega) | exact Below.size (by assumption) | exact Nat.le_trans (Below.size (by assumption)) (by simp)) _) | (refine Below.via' ?_ (by assumption)) | (refine Below.alloc ?_ (by first | omega | (simp; done) | (simp; omega) | exact Below.size (by assumption) | exact Nat.le_trans (Below.size (by assumption)) (by simp)) _) | (refine Below.via ?_ (by assumption) (by first | omega | (simp; done) | (simp; omega) | exact Below.size (by assumption) | exact Nat.le_trans (Below.size (by assumption)) (by simp))))))) (hQh.out.below (by exact (by repeat (first | exact Below.refl _ _ | assumption | refine Below.drew ?_ | refine below_drewN ?_ _ | refine Below.alloc' ?_ _ | (refine Below.setCell ?_ (by first | omega | (simp; done) | (simp; omega) | exact Below.size (by assumption) | exact Nat.le_trans (Below.size (by assumption)) (by simp)) _) | (refine Below.via' ?_ (by assumption)) | (refine Below.alloc ?_ (by first | omega | (simp; done) | (simp; omega) | exact Below.size (by assumption) | exact Nat.le_trans (Below.size (by assumption)) (by simp)) _) | (refine Below.via ?_ (by assumption) (by first | omega | (simp; done) | (simp; omega) | exact Below.size (by assumption) | exact Nat.le_trans (Below.size (by assumption)) (by simp))))))) (hWh.out.below (by exact (by repeat (first | exact Below.refl _ _ | assumption | refine Below.drew ?_ | refine below_drewN ?_ _ | refine Below.alloc' ?_ _ | (refine Below.setCell ?_ (by first | omega | (simp; done) | (simp; omega) | exact Below.size (by assumption) | exact Nat.le_trans (Below.size (by assumption)) (by simp)) _) | (refine Below.via' ?_ (by assumption)) | (refine Below.alloc ?_ (by first | omega | (simp; done) | (simp; omega) | exact Below.size (by assumption) | exact Nat.le_trans (Below.size (by assumption)) (by simp)) _) | (refine Below.via ?_ (by assumption) (by first | omega | (simp; done) | (simp; omega) | exact Below.size (by assumption) | exact Nat.le_trans (Below.size (by assumption)) (by simp))))))) (hVh.out.below (by exact (by repeat (first | exact Below.refl _ _ | assumption | refine Below.drew ?_ | refine below_drewN ?_ _ | refine Below.alloc' ?_ _ | (refine Below.setCell ?_ (by first | omega | (simp; done) | (simp; omega) | exact Below.size (by assumption) | exact Nat.le_trans (Below.size (by assumption)) (by simp)) _) | (refine Below.via' ?_ (by assumption)) | (refine Below.alloc ?_ (by first | omega | (simp; done) | (simp; omega) | exact Below.size (by assumption) | exact Nat.le_trans (Below.size (by assumption)) (by simp)) _) | (refine Below.via ?_ (by assumption) (by first | omega | (simp; done) | (simp; omega) | exact Below.size (by assumption) | exact Nat.le_trans (Below.size (by assumption)) (by simp)))))))).mono ?_
  rintro e w1 ⟨u1, rfl, ho1, hb1⟩
  obtain ⟨x1, n1, rfl, -, -⟩ := (OwR.of ho1).form
  cases ho : ckO S (eM Q) W V with
  | none =>
    have hv := Lib.hid (mv_none ho)
    replace ho := Lib.hid ho
    clear ho1
    go_wp2
    go_ret2
    exact ⟨.slice none 0 0, by rw [ho.out]; rfl, by rw [hv.out]; exact World.ownsRow_nil _ _ _ _, hb1⟩
  | some b =>
    have hv := Lib.hid (mv_some ho)
    obtain ⟨hb, st, hst, -⟩ := ck_ok ho
    rw [ho] at ho1
    have hin1 : Hid (IIn w1 x1 b) := by
      have h0 : Rd w1 x1 (iC b) := Rd.of_own ho1
      rw [hst] at h0 ⊢
      exact lvs_iin h0
    have hbh := Lib.hid hb
    replace ho := Lib.hid ho
    clear ho1 hst hb
    dsimp only [Option.getD, Option.isSome]
    go_wp2_with fail
    refine (iOthers_any _ _ _ _ S b _ (by omega) hin1.out).mono ?_
    rintro e w6 ⟨u6, rfl, ho6, hb6⟩
    obtain ⟨x6, n6, rfl, -, -⟩ := (OwR.of ho6).form
    have hfin : Hid (IIn w6 x6 (otL b S.length)) := pk_iin (by omega) (Rd.of_own ho6)
    have hB6 : Below w.heap.size w w6 := (by repeat (first | exact Below.refl _ _ | assumption | refine Below.drew ?_ | refine below_drewN ?_ _ | refine Below.alloc' ?_ _ | (refine Below.setCell ?_ (by first | omega | (simp; done) | (simp; omega) | exact Below.size (by assumption) | exact Nat.le_trans (Below.size (by assumption)) (by simp)) _) | (refine Below.via' ?_ (by assumption)) | (refine Below.alloc ?_ (by first | omega | (simp; done) | (simp; omega) | exact Below.size (by assumption) | exact Nat.le_trans (Below.size (by assumption)) (by simp)) _) | (refine Below.via ?_ (by assumption) (by first | omega | (simp; done) | (simp; omega) | exact Below.size (by assumption) | exact Nat.le_trans (Below.size (by assumption)) (by simp)))))
    have hcgk : Hid (cgG S (eM Q) (otL b S.length) V = true) := cg_yes hsm.out (rs_pk S (otB b)) hfit.out
    clear ho6 hb6 hb1
    go_wp2_with fail
    refine (eComplete_any _ _ _ _ _ _ _ _ S Q (otL b S.length) V _ hcgk.out (hSh.out.below hB6) (hQh.out.below hB6) hfin.out (hVh.out.below hB6)).mono ?_
    rintro e w7 ⟨u7, rfl, ho7, hb7⟩
    have hB7 : Below w.heap.size w w7 := hB6.trans (hb7.mono hB6.size)
    have own7 := Lib.hid (own_more ho7 hB6.size)
    rw [show (coN S (eM Q) (otL b S.length) V).isSome = true from hbh.out]
    clear ho7 hb7
    go_wp2
    go_ret2
    exact ⟨u7, by rw [ho.out]; rfl, by rw [hv.out]; exact own7.out, hB7⟩
end Go.Proofs.YtgkaalonmkcclabGreat

namespace Go.Proofs.YtgkaalonmkcclabGreat
open Go.RowKit
set_option maxRecDepth 100000

theorem grown_1 (w : World) (g i : Nat) (v : Value) : w.grownBy (w.setCell ⟨g, i, none⟩ v) (some g) := ⟨rfl, rfl, rfl, by simp, fun k _ hne => Below.heap_setCell _ _ _ _ (fun e => hne (by rw [e]))⟩
theorem grown_3 (w : World) (g i j k : Nat) (a b c : Value) : w.grownBy (((w.setCell ⟨g, i, none⟩ a).setCell ⟨g, j, none⟩ b).setCell ⟨g, k, none⟩ c) (some g) := by
  have h1 := grown_1 w g i a
  have h2 := grown_1 (w.setCell ⟨g, i, none⟩ a) g j b
  have h3 := grown_1 ((w.setCell ⟨g, i, none⟩ a).setCell ⟨g, j, none⟩ b) g k c
  refine ⟨h3.1.trans (h2.1.trans h1.1), h3.2.trans (h2.2.trans h1.2), h3.3.trans (h2.3.trans h1.3), Nat.le_trans h1.size (Nat.le_trans h2.size h3.size), fun q hq hne => ?_⟩
  have q1 := h1.size
  have q2 := h2.size
  exact (h3.block q (by omega) hne).trans ((h2.block q (by omega) hne).trans (h1.block q hq hne))
set_option maxHeartbeats 2000000 in
theorem try_no (BV BW BC : Nat) (xu x y : Option Addr) (cu c1 c2 : Nat) (V I X : List Int) (w : World) (hV : Boxed w BV 24 (.slice xu V.length cu)) (hVi : IIn w xu V) (hl : V.length = X.length) (h6 : V.length ≤ 1000) (hI : IIn w x I) (hX : IIn w y X) (hd : doB I V X = false) :
    Calls Tryz.prog 55 #[.slice x I.length c1, .slice y X.length c2, .pointer (some ⟨BV, 0, none⟩), .pointer (some ⟨BW, 0, none⟩), .pointer (some ⟨BC, 0, none⟩)] w fun e w' => e = .returned (.bool false) ∧ Below w.heap.size w w' := by
  have hc := hV.cell
  have hdh := Lib.hid hd
  have hVh := Lib.hid hVi
  have hIh := Lib.hid hI
  have hXh := Lib.hid hX
  have hlh := Lib.hid hl
  clear hV hVi hI hX hd hl
  go_enter Tryz.func55, Tryz.ntmps55
  go_wp2_with fail
  refine (differOnly_any _ _ _ _ _ _ I V X _ hlh.out h6 (hIh.out.below (by exact (by repeat (first | exact Below.refl _ _ | assumption | refine Below.drew ?_ | refine below_drewN ?_ _ | refine Below.alloc' ?_ _ | (refine Below.setCell ?_ (by first | omega | (simp; done) | (simp; omega) | exact Below.size (by assumption) | exact Nat.le_trans (Below.size (by assumption)) (by simp)) _) | (refine Below.via' ?_ (by assumption)) | (refine Below.alloc ?_ (by first | omega | (simp; done) | (simp; omega) | exact Below.size (by assumption) | exact Nat.le_trans (Below.size (by assumption)) (by simp)) _) | (refine Below.via ?_ (by assumption) (by first | omega | (simp; done) | (simp; omega) | exact Below.size (by assumption) | exact Nat.le_trans (Below.size (by assumption)) (by simp))))))) (hVh.out.below (by exact (by repeat (first | exact Below.refl _ _ | assumption | refine Below.drew ?_ | refine below_drewN ?_ _ | refine Below.alloc' ?_ _ | (refine Below.setCell ?_ (by first | omega | (simp; done) | (simp; omega) | exact Below.size (by assumption) | exact Nat.le_trans (Below.size (by assumption)) (by simp)) _) | (refine Below.via' ?_ (by assumption)) | (refine Below.alloc ?_ (by first | omega | (simp; done) | (simp; omega) | exact Below.size (by assumption) | exact Nat.le_trans (Below.size (by assumption)) (by simp)) _) | (refine Below.via ?_ (by assumption) (by first | omega | (simp; done) | (simp; omega) | exact Below.size (by assumption) | exact Nat.le_trans (Below.size (by assumption)) (by simp))))))) (hXh.out.below (by exact (by repeat (first | exact Below.refl _ _ | assumption | refine Below.drew ?_ | refine below_drewN ?_ _ | refine Below.alloc' ?_ _ | (refine Below.setCell ?_ (by first | omega | (simp; done) | (simp; omega) | exact Below.size (by assumption) | exact Nat.le_trans (Below.size (by assumption)) (by simp)) _) | (refine Below.via' ?_ (by assumption)) | (refine Below.alloc ?_ (by first | omega | (simp; done) | (simp; omega) | exact Below.size (by assumption) | exact Nat.le_trans (Below.size (by assumption)) (by simp)) _) | (refine Below.via ?_ (by assumption) (by first | omega | (simp; done) | (simp; omega) | exact Below.size (by assumption) | exact Nat.le_trans (Below.size (by assumption)) (by simp)))))))).mono ?_
  rintro e w1 ⟨rfl, hb1⟩
  rw [hdh.out]
  go_wp2
  go_ret
  exact ⟨rfl, hb1⟩
set_option maxHeartbeats 2000000 in
theorem try_yes (BV BW BC : Nat) (xu xw x y : Option Addr) (cu cw c1 c2 : Nat) (W V I X : List Int) (w : World) (hV : Boxed w BV 24 (.slice xu V.length cu)) (hVi : IIn w xu V) (hW : Boxed w BW 24 (.slice xw W.length cw)) (hWi : IIn w xw W) (hC : Wb w BC 58 #[.slice none 0 0, .int .i64 0, .slice none 0 0])
    (hw : inR W 1 100 = true) (hIl : I.length ≤ 1000) (hIm : ∀ v ∈ I, 0 ≤ v ∧ v < (W.length : Int)) (hl : V.length = X.length) (h6 : V.length ≤ 1000) (hI : IIn w x I) (hX : IIn w y X) (hd : doB I V X = true) :
    Calls Tryz.prog 55 #[.slice x I.length c1, .slice y X.length c2, .pointer (some ⟨BV, 0, none⟩), .pointer (some ⟨BW, 0, none⟩), .pointer (some ⟨BC, 0, none⟩)] w fun e w' => e = .returned (.bool true) ∧ Wb w' BC 58 #[.slice x I.length c1, .int .i64 (swZ W I), .slice y X.length c2] ∧ ∃ w1, Below w.heap.size w w1 ∧ w1.grownBy w' (some BC) := by
  have hc := hV.cell
  have hdh := Lib.hid hd
  have hVh := Lib.hid hVi
  have hWbh := Lib.hid hW
  have hWh := Lib.hid hWi
  have hIh := Lib.hid hI
  have hXh := Lib.hid hX
  have hlh := Lib.hid hl
  have hwh := Lib.hid hw
  have hImh := Lib.hid hIm
  have hCh := Lib.hid hC
  clear hV hVi hI hX hd hl hW hWi hw hIm hC
  go_enter Tryz.func55, Tryz.ntmps55
  go_wp2_with fail
  refine (differOnly_any _ _ _ _ _ _ I V X _ hlh.out h6 (hIh.out.below (by exact (by repeat (first | exact Below.refl _ _ | assumption | refine Below.drew ?_ | refine below_drewN ?_ _ | refine Below.alloc' ?_ _ | (refine Below.setCell ?_ (by first | omega | (simp; done) | (simp; omega) | exact Below.size (by assumption) | exact Nat.le_trans (Below.size (by assumption)) (by simp)) _) | (refine Below.via' ?_ (by assumption)) | (refine Below.alloc ?_ (by first | omega | (simp; done) | (simp; omega) | exact Below.size (by assumption) | exact Nat.le_trans (Below.size (by assumption)) (by simp)) _) | (refine Below.via ?_ (by assumption) (by first | omega | (simp; done) | (simp; omega) | exact Below.size (by assumption) | exact Nat.le_trans (Below.size (by assumption)) (by simp))))))) (hVh.out.below (by exact (by repeat (first | exact Below.refl _ _ | assumption | refine Below.drew ?_ | refine below_drewN ?_ _ | refine Below.alloc' ?_ _ | (refine Below.setCell ?_ (by first | omega | (simp; done) | (simp; omega) | exact Below.size (by assumption) | exact Nat.le_trans (Below.size (by assumption)) (by simp)) _) | (refine Below.via' ?_ (by assumption)) | (refine Below.alloc ?_ (by first | omega | (simp; done) | (simp; omega) | exact Below.size (by assumption) | exact Nat.le_trans (Below.size (by assumption)) (by simp)) _) | (refine Below.via ?_ (by assumption) (by first | omega | (simp; done) | (simp; omega) | exact Below.size (by assumption) | exact Nat.le_trans (Below.size (by assumption)) (by simp))))))) (hXh.out.below (by exact (by repeat (first | exact Below.refl _ _ | assumption | refine Below.drew ?_ | refine below_drewN ?_ _ | refine Below.alloc' ?_ _ | (refine Below.setCell ?_ (by first | omega | (simp; done) | (simp; omega) | exact Below.size (by assumption) | exact Nat.le_trans (Below.size (by assumption)) (by simp)) _) | (refine Below.via' ?_ (by assumption)) | (refine Below.alloc ?_ (by first | omega | (simp; done) | (simp; omega) | exact Below.size (by assumption) | exact Nat.le_trans (Below.size (by assumption)) (by simp)) _) | (refine Below.via ?_ (by assumption) (by first | omega | (simp; done) | (simp; omega) | exact Below.size (by assumption) | exact Nat.le_trans (Below.size (by assumption)) (by simp)))))))).mono ?_
  rintro e w1 ⟨rfl, hb1⟩
  rw [hdh.out]
  have hcw := (boxed_below hWbh.out hb1).cell
  have hC1 := Lib.hid (wb_kept hCh.out (grown_belowE hb1) (by intro r e; cases e))
  go_wp2_with fail
  refine (sumWeights_any _ _ _ _ W I _ hwh.out hIl hImh.out (hWh.out.below (by exact (by repeat (first | exact Below.refl _ _ | assumption | refine Below.drew ?_ | refine below_drewN ?_ _ | refine Below.alloc' ?_ _ | (refine Below.setCell ?_ (by first | omega | (simp; done) | (simp; omega) | exact Below.size (by assumption) | exact Nat.le_trans (Below.size (by assumption)) (by simp)) _) | (refine Below.via' ?_ (by assumption)) | (refine Below.alloc ?_ (by first | omega | (simp; done) | (simp; omega) | exact Below.size (by assumption) | exact Nat.le_trans (Below.size (by assumption)) (by simp)) _) | (refine Below.via ?_ (by assumption) (by first | omega | (simp; done) | (simp; omega) | exact Below.size (by assumption) | exact Nat.le_trans (Below.size (by assumption)) (by simp))))))) (hIh.out.below (by exact (by repeat (first | exact Below.refl _ _ | assumption | refine Below.drew ?_ | refine below_drewN ?_ _ | refine Below.alloc' ?_ _ | (refine Below.setCell ?_ (by first | omega | (simp; done) | (simp; omega) | exact Below.size (by assumption) | exact Nat.le_trans (Below.size (by assumption)) (by simp)) _) | (refine Below.via' ?_ (by assumption)) | (refine Below.alloc ?_ (by first | omega | (simp; done) | (simp; omega) | exact Below.size (by assumption) | exact Nat.le_trans (Below.size (by assumption)) (by simp)) _) | (refine Below.via ?_ (by assumption) (by first | omega | (simp; done) | (simp; omega) | exact Below.size (by assumption) | exact Nat.le_trans (Below.size (by assumption)) (by simp)))))))).mono ?_
  rintro e w2 ⟨rfl, hb2⟩
  have hC2 := wb_kept hC1.out (grown_belowE hb2) (by intro r e; cases e)
  have d0 := hC2.read 0
  have d1 := hC2.read 1
  have d2 := hC2.read 2
  have f0 := hC2.free 0
  have f1 := hC2.free 1
  have f2 := hC2.free 2
  have hi2 := hC2.inside
  have hC2h := Lib.hid hC2
  clear hC2 hcw hc
  go_wp2
  go_ret
  refine ⟨rfl, ?_, w2, hb1.trans (hb2.mono hb1.size), ?_⟩
  · have h := ((hC2h.out.put 0 (.slice x I.length c1)).put 1 (.int .i64 (swZ W I))).put 2 (.slice y X.length c2)
    simpa using h
  · exact grown_3 _ _ _ _ _ _ _ _
end Go.Proofs.YtgkaalonmkcclabGreat

namespace Go.Proofs.YtgkaalonmkcclabGreat
open Go.RowKit
set_option maxRecDepth 100000

theorem own_sameC {w w' : World} {base e s n : Nat} {v : Value} {xs : List Value} (h : w.ownsRow base e s v n xs) {g t : Nat} {cs : Array Value} (hg : Wb w g t cs) (hne : e ≠ t) (hk : w.grownBy w' (some g)) : w'.ownsRow base e s v n xs := by
  refine h.kept hk ?_
  rcases h.2 with ⟨rfl, _⟩ | ⟨g2, cap, cur, rfl, _, hgg, _⟩
  · exact .inl rfl
  · refine .inr fun e' => ?_
    have e3 : g2 = g := by simpa [Value.ownBlock] using e'
    subst e3
    unfold Wb at hg
    rw [hgg] at hg
    cases hg
    exact hne rfl
theorem wb_far {w w' : World} {g t : Nat} {cs : Array Value} {r : Option Nat} (h : Wb w g t cs) (hg : w.grownBy w' r) (hne : r ≠ some g) : Wb w' g t cs := (hg.block g h.inside (fun e => hne e.symm)).trans h
theorem resCh_read {n : Nat} {a b c : Value} {f : Bool} {W : World} (h : Wb W n 58 #[a, b, c]) (tmps : Array Value) (h4 : tmps[8]? = some (.pointer (some ⟨n, 0, none⟩))) (h5 : tmps[9]? = some (.bool f)) :
    (results Tryz.f31 tmps).run Tryz.prog W = .ok (.tuple #[.agg #[a, b, c], .bool f]) W := by
  have d0 := h.read 0
  have d1 := h.read 1
  have d2 := h.read 2
  simp [results, Tryz.results31, h4, h5, loadVar, go_sem, d0, d1, d2]
theorem find_first {α : Type} {L : List α} {p : α → Bool} {i : Nat} {x : α} (hx : L[i]? = some x) (hp : p x = true) (hb : ∀ k, k < i → ∀ y, L[k]? = some y → p y = false) : L.find? p = some x := by
  obtain ⟨hi, e⟩ := List.getElem?_eq_some_iff.1 hx
  rw [List.find?_eq_some_iff_append]
  refine ⟨hp, L.take i, L.drop (i + 1), ?_, fun a ha => ?_⟩
  · rw [← e, ← List.drop_eq_getElem_cons hi, List.take_append_drop]
  · obtain ⟨k, hk, e2⟩ := List.getElem_of_mem ha
    rw [List.length_take] at hk
    rw [List.getElem_take] at e2
    rw [hb k (by omega) a (by rw [List.getElem?_eq_getElem (by omega), e2])]
    rfl
theorem find_no {α : Type} {L : List α} {p : α → Bool} (h : ∀ (k : Nat) (y : α), L[k]? = some y → p y = false) : L.find? p = none := by
  rw [List.find?_eq_none]
  intro x hx
  obtain ⟨k, hk, e⟩ := List.getElem_of_mem hx
  rw [h k x (by rw [List.getElem?_eq_getElem hk, e])]
  exact Bool.false_ne_true
theorem ps_iinC {S : List (ByteArray × Int)} {M : List (List Int)} {N : Nat} {T : List PR} {W : World} {nb : Nat} (hs : schB S = true) (hM : eM T = psL S M N) (hr : ∀ q ∈ T, W.ownsRow nb 3 1 q.v q.L.length (iC q.L)) : ∀ q ∈ T, IIn W q.x q.L := by
  intro q hq
  obtain ⟨j, hj, e⟩ := List.getElem_of_mem hq
  have h1 : (eM T)[j]? = some q.L := eM_at (by rw [List.getElem?_eq_getElem hj, e])
  rw [hM] at h1
  unfold psL at h1
  rw [List.getElem?_map] at h1
  cases hk : (psN S M N)[j]? with
  | none => rw [hk] at h1; cases h1
  | some k =>
    rw [hk] at h1
    have h2 : atL S (k : Int) = q.L := Option.some.inj h1
    rw [← h2]
    have h3 := hr q hq
    rw [← h2] at h3
    have h4 : Rd W q.x (iC (atL S (k : Int))) := by
      have h5 := h3
      unfold PR.v at h5
      rw [← h2] at h5
      exact Rd.of_own h5
    exact atL_iin hs (by omega) h4
/-- What the program's search hands back. -/
def ChPost (S : List (ByteArray × Int)) (M : List (List Int)) (W V : List Int) (w : World) (e : Ending) (w' : World) : Prop :=
  ∃ vv mv, e = .returned (.tuple #[.agg #[vv, .int .i64 (swZ W ((ckO S M W V).getD [])), mv], .bool (ckO S M W V).isSome]) ∧ w'.ownsRow w.heap.size 3 1 vv ((ckO S M W V).getD []).length (iC ((ckO S M W V).getD [])) ∧ w'.ownsRow w.heap.size 3 1 mv (mvL S M W V).length (iC (mvL S M W V)) ∧ Below w.heap.size w w'
set_option maxHeartbeats 8000000 in
theorem cheapest_any (x y z u : Option Addr) (c1 c2 cz cu : Nat) (S : List (ByteArray × Int)) (Q : List PR) (W V : List Int) (w : World) (hc : cmB S (eM Q) W V = true) (hS : SIn w x c1 S) (hQ : EIn w y Q) (hW : IIn w z W) (hV : IIn w u V) :
    Calls Tryz.prog 31 #[.slice x S.length c1, .slice y Q.length c2, .slice z W.length cz, .slice u V.length cu] w (ChPost S (eM Q) W V w) := by
  obtain ⟨k1, k2, k3⟩ := cm_get hc
  obtain ⟨w1, w2⟩ := wg_get k2
  have hel := (sm_get k1).1
  have hs := (el_get hel).1
  obtain ⟨n1, n2⟩ := cn_all hs
  obtain ⟨N, hN⟩ : ∃ N : Nat, cnZ S = (N : Int) := ⟨(cnZ S).toNat, by omega⟩
  have hN2 : N ≤ 262144 := by omega
  have hNt : Hid ((cnZ S).toNat = N) := by unfold Hid; omega
  have hl6 := schB_len hs
  have hlV := Lib.hid (fit_len k3)
  have hwl := Lib.hid w1
  have hwr := Lib.hid w2
  have hsh := Lib.hid hs
  have bW := ((Boxed.new w 24 (.slice z W.length cz)).alloc (.cells #[.slice u V.length cu] 24)).alloc (.cells #[.slice none 0 0, .int .i64 0, .slice none 0 0] 58)
  have bV := (Boxed.new (w.alloc (.cells #[.slice z W.length cz] 24)) 24 (.slice u V.length cu)).alloc (.cells #[.slice none 0 0, .int .i64 0, .slice none 0 0] 58)
  have bR := Wb.new ((w.alloc (.cells #[.slice z W.length cz] 24)).alloc (.cells #[.slice u V.length cu] 24)) 58 #[.slice none 0 0, .int .i64 0, .slice none 0 0]
  simp only [World.size_alloc] at bV bR
  have hB3 : Below w.heap.size w (((w.alloc (.cells #[.slice z W.length cz] 24)).alloc (.cells #[.slice u V.length cu] 24)).alloc (.cells #[.slice none 0 0, .int .i64 0, .slice none 0 0] 58)) := (by repeat (first | exact Below.refl _ _ | assumption | refine Below.drew ?_ | refine below_drewN ?_ _ | refine Below.alloc' ?_ _ | (refine Below.setCell ?_ (by first | omega | (simp; done) | (simp; omega) | exact Below.size (by assumption) | exact Nat.le_trans (Below.size (by assumption)) (by simp)) _) | (refine Below.via' ?_ (by assumption)) | (refine Below.alloc ?_ (by first | omega | (simp; done) | (simp; omega) | exact Below.size (by assumption) | exact Nat.le_trans (Below.size (by assumption)) (by simp)) _) | (refine Below.via ?_ (by assumption) (by first | omega | (simp; done) | (simp; omega) | exact Below.size (by assumption) | exact Nat.le_trans (Below.size (by assumption)) (by simp)))))
  have hs3 : (((w.alloc (.cells #[.slice z W.length cz] 24)).alloc (.cells #[.slice u V.length cu] 24)).alloc (.cells #[.slice none 0 0, .int .i64 0, .slice none 0 0] 58)).heap.size = w.heap.size + 3 := by simp
  obtain ⟨W3, hW3⟩ : ∃ W3, (((w.alloc (.cells #[.slice z W.length cz] 24)).alloc (.cells #[.slice u V.length cu] 24)).alloc (.cells #[.slice none 0 0, .int .i64 0, .slice none 0 0] 58)) = W3 := ⟨_, rfl⟩
  rw [hW3] at bW bV bR hB3 hs3
  have hS3 := hS.below hB3
  have hQ3 := hQ.below hB3
  have hWh := Lib.hid (hW.below hB3)
  have hVh := Lib.hid (hV.below hB3)
  have bS := (Boxed.new W3 29 (.slice x S.length c1)).alloc (.cells #[.slice y Q.length c2] 31)
  have bQ := Boxed.new (W3.alloc (.cells #[.slice x S.length c1] 29)) 31 (.slice y Q.length c2)
  have hB0 : Below W3.heap.size W3 ((W3.alloc (.cells #[.slice x S.length c1] 29)).alloc (.cells #[.slice y Q.length c2] 31)) := (by repeat (first | exact Below.refl _ _ | assumption | refine Below.drew ?_ | refine below_drewN ?_ _ | refine Below.alloc' ?_ _ | (refine Below.setCell ?_ (by first | omega | (simp; done) | (simp; omega) | exact Below.size (by assumption) | exact Nat.le_trans (Below.size (by assumption)) (by simp)) _) | (refine Below.via' ?_ (by assumption)) | (refine Below.alloc ?_ (by first | omega | (simp; done) | (simp; omega) | exact Below.size (by assumption) | exact Nat.le_trans (Below.size (by assumption)) (by simp)) _) | (refine Below.via ?_ (by assumption) (by first | omega | (simp; done) | (simp; omega) | exact Below.size (by assumption) | exact Nat.le_trans (Below.size (by assumption)) (by simp)))))
  rw [World.size_alloc] at bQ
  have hcl := Lib.hid (collect_any W3.heap.size (W3.heap.size + 1) x y c1 c2 S Q W3 _ hel hS3 hQ3 N hN hN2 hB0 bS bQ)
  have hW3h := Lib.hid hW3
  have bWh := Lib.hid bW
  have bVh := Lib.hid bV
  have bRh := Lib.hid bR
  have hw0 := hB0.size
  have hs3g : w.heap.size + 3 ≤ W3.heap.size := by omega
  clear hs3
  clear hS hQ hW hV hc k1 k2 k3 w1 w2 hel hs n1 n2 hN hW3 bW bV bR hS3 hQ3 bS bQ
  go_enter Tryz.func31, Tryz.ntmps31
  go_wp2
  go_step3
  go_wp2_with fail
  rw [hW3h.out]
  refine (passingValues_any _ _ _ _ _ _ _).mono ?_
  rintro e w4 ⟨rfl, rfl⟩
  go_wp2_with fail
  refine hcl.out.mono ?_
  rintro e w5 ⟨v5, P, rfl, hrow5, hin5, hM5, hb5⟩
  obtain ⟨xp, cp, rfl, -, -⟩ := (OwR.of hrow5).form
  have hB35 : Below W3.heap.size W3 w5 := hB0.trans (hb5.mono hw0)
  have hs5 := hB35.size
  have hPl : P.length ≤ 100000000 := by have h0 := psL_len S (eM Q) N; rw [← hM5, eM_len] at h0; omega
  have hEI := Lib.hid (show EIn w5 xp P from ⟨by have h0 := psL_len S (eM Q) N; rw [← hM5, eM_len] at h0; omega, ps_iinC hsh.out hM5 hin5, Rd.of_own hrow5⟩)
  have hin5h := Lib.hid (fun (q : PR) (hq : q ∈ P) => own_more (base' := w.heap.size) (hin5 q hq) (by have := hB0.size; omega))
  have hM5h := Lib.hid hM5
  have z11 := Wb.new w5 58 #[.slice none 0 0, .int .i64 0, .slice none 0 0]
  have hb56 : Below w5.heap.size w5 (w5.alloc (.cells #[.slice none 0 0, .int .i64 0, .slice none 0 0] 58)) := (by repeat (first | exact Below.refl _ _ | assumption | refine Below.drew ?_ | refine below_drewN ?_ _ | refine Below.alloc' ?_ _ | (refine Below.setCell ?_ (by first | omega | (simp; done) | (simp; omega) | exact Below.size (by assumption) | exact Nat.le_trans (Below.size (by assumption)) (by simp)) _) | (refine Below.via' ?_ (by assumption)) | (refine Below.alloc ?_ (by first | omega | (simp; done) | (simp; omega) | exact Below.size (by assumption) | exact Nat.le_trans (Below.size (by assumption)) (by simp)) _) | (refine Below.via ?_ (by assumption) (by first | omega | (simp; done) | (simp; omega) | exact Below.size (by assumption) | exact Nat.le_trans (Below.size (by assumption)) (by simp)))))
  have z11h := Lib.hid z11
  have bW5 := (boxed_below (boxed_below bWh.out hB35) hb56).cell
  have hIW6 := Lib.hid ((hWh.out.below hB35).below hb56)
  clear hrow5 hin5 hM5 hcl hb5 hw0 z11 hB0
  go_wp2
  go_step3
  go_wp2_with fail
  refine (setsByCost_any z cz W _ hwr.out (by have := hwl.out; omega) (by have := hwl.out; omega) hIW6.out).mono ?_
  rintro e w7 ⟨v7, T, rfl, hperm, hpw, hst, hb7⟩
  have hwl2 := hwl.out
  have hTl : 0 < T.length ∧ T.length ≤ 64 := by
    have h0 := hperm.length_eq
    rw [eM_len] at h0
    have h1 := stA_le (n := W.length) (by omega)
    omega
  obtain ⟨gt, ct, rfl⟩ := own_some hst.1 hTl.1
  have hfind : Hid ((eM T).find? (ckB S (eM Q) V) = ckO S (eM Q) W V) := ck_first (by omega) (by rw [← hwl2]; exact hperm) hpw
  have hTb : Hid (∀ q ∈ T, q.L.length ≤ 1000 ∧ ∀ v ∈ q.L, 0 ≤ v ∧ v < (W.length : Int)) := by
    intro q hq
    have h0 : q.L ∈ stA W.length := hperm.mem_iff.1 (List.mem_map_of_mem hq)
    have h1 := stA_bd h0
    exact ⟨by omega, h1.2⟩
  have hTi : Hid (∀ W8 : World, Below w7.heap.size w7 W8 → ∀ q ∈ T, IIn W8 q.x q.L) := by
    intro W8 hW8 q hq
    have h0 := hTb.out q hq
    have h1 := own_below (hst.2 q hq) hW8
    unfold PR.v at h1
    exact ⟨by omega, fun v hv => by have := h0.2 v hv; unfold IsI64; omega, Rd.of_own h1⟩
  have hsth := Lib.hid (hst.more (lo' := w.heap.size) (by rw [World.size_alloc]; omega))
  have hB57 : Below w5.heap.size w5 w7 := hb56.trans (hb7.mono hb56.size)
  have hB37 : Below W3.heap.size W3 w7 := hB35.trans (hB57.mono hs5)
  have hBw7 : Below w.heap.size w w7 := hB3.trans (hB37.mono hB3.size)
  have z7 := Lib.hid (wb_kept z11h.out (grown_belowE hb7) (by intro r e; cases e))
  have bW7 := Lib.hid (boxed_below bWh.out hB37)
  have bV7 := Lib.hid (boxed_below bVh.out hB37)
  have bR7 := Lib.hid (wb_kept bRh.out (grown_belowE hB37) (by intro r e; cases e))
  have hW7 := Lib.hid (hWh.out.below hB37)
  have hV7 := Lib.hid (hVh.out.below hB37)
  have hEI7 := Lib.hid (hEI.out.below hB57)
  have hin7 := Lib.hid (fun (q : PR) (hq : q ∈ P) => own_below (hin5h.out q hq) hB57)
  have hs57 := hB57.size
  have hs7 := hBw7.size
  clear hperm hpw hst hb7 hb56 z11h bW5 hIW6 hEI hin5h bRh bWh bVh hWh hVh
  go_wp2
  go_loopw [13, 26] (fun fd c wr => ∃ i : Nat, i ≤ T.length ∧ c = .int .i64 i ∧ fd = .bool false ∧ Hid (∀ k, k < i → ∀ I, (eM T)[k]? = some I → ckB S (eM Q) V I = false) ∧ Hid (Wb wr w5.heap.size 58 #[.slice none 0 0, .int .i64 0, .slice none 0 0]) ∧ Below w7.heap.size w7 wr) (fun _ c _ => T.length - (intOf c).toNat)
  case atStart => exact ⟨0, by omega, rfl, rfl, (fun k hk => absurd hk (by omega)), z7.out, Below.refl _ _⟩
  case round =>
    clear z7
    obtain ⟨i, hi, rfl, rfl, hall, hz, hBr⟩ := hrel
    by_cases hlt : i < T.length
    · have hTi1 : T[i]? = some T[i] := List.getElem?_eq_getElem hlt
      obtain ⟨⟨qa, qh, qx, qc, qL⟩, hq⟩ : ∃ q, T[i] = q := ⟨_, rfl⟩
      rw [hq] at hTi1
      have hcq : wr.cell? ⟨gt, i, none⟩ = some (.slice qx qL.length qc) := by
        obtain ⟨v, hv, hc⟩ := own_cell (own_below hsth.out.1 hBr) (j := i) (by omega)
        rw [eC_at hTi1] at hv
        cases hv
        exact hc
      have hqM := Lib.hid (eM_at hTi1)
      have hqb := hTb.out _ (List.mem_of_getElem? hTi1)
      have hqm := Lib.hid (List.mem_of_getElem? hTi1)
      dsimp only at hqM hqb hqm
      have hlt' : (i : Int) < (T.length : Int) := by omega
      obtain ⟨wo, rfl⟩ : ∃ x : World, x = wr := ⟨_, rfl⟩
      clear hTi1 hq
      go_wp2
      go_loopw [13, 32] (fun fd c wr => ∃ j : Nat, j ≤ P.length ∧ c = .int .i64 j ∧ fd = .bool false ∧ Hid (∀ k, k < j → ∀ X, (eM P)[k]? = some X → doB qL V X = false) ∧ Hid (Wb wr w5.heap.size 58 #[.slice none 0 0, .int .i64 0, .slice none 0 0]) ∧ Below w7.heap.size w7 wr) (fun _ c _ => P.length - (intOf c).toNat)
      case atStart => exact ⟨0, by omega, rfl, rfl, (fun k hk => absurd hk (by omega)), hz.out, hBr⟩
      case round =>
        clear hz hBr hcq
        obtain ⟨j, hj, rfl, rfl, hall2, hz, hBr⟩ := hrel
        obtain ⟨wi, rfl⟩ : ∃ x : World, x = wr := ⟨_, rfl⟩
        by_cases hjl : j < P.length
        · obtain ⟨bp, op, ⟨pa, ph, px, pc, pL⟩, hxe, hbp, hPj, hcp⟩ := (hEI7.out.below hBr).2.2.ed hjl
          subst hxe
          have hpM := Lib.hid (eM_at hPj)
          have hpin := Lib.hid ((hEI7.out.below hBr).2.1 _ (List.mem_of_getElem? hPj))
          have hprow := Lib.hid (own_below (hin7.out _ (List.mem_of_getElem? hPj)) hBr)
          have hqin := Lib.hid (hTi.out _ hBr _ hqm.out)
          have hqrow := Lib.hid (own_below (hsth.out.2 _ hqm.out) hBr)
          dsimp only at hpM hpin hcp hqin
          have hpl : Hid (V.length = pL.length) := by
            unfold Hid
            have h0 := hpM.out
            rw [hM5h.out] at h0
            unfold psL at h0
            have h1 := List.mem_of_getElem? h0
            obtain ⟨k, _, e⟩ := List.mem_map.1 h1
            rw [← e, atL_len, hlV.out]
          have hjl' : (j : Int) < (P.length : Int) := by omega
          have hbVi := Lib.hid (boxed_below bV7.out hBr)
          have hbWi := Lib.hid (boxed_below bW7.out hBr)
          have hVi := Lib.hid (hV7.out.below hBr)
          have hWi := Lib.hid (hW7.out.below hBr)
          have hsi := hBr.size
          have hl1000 : V.length ≤ 1000 := by have := hlV.out; omega
          clear hPj
          cases hd : doB qL V pL
          · have hdh := Lib.hid hd
            clear hd
            go_wp2_with fail
            refine (try_no _ _ _ _ _ _ _ _ _ V qL pL _ hbVi.out hVi.out hpl.out hl1000 hqin.out hpin.out hdh.out).mono ?_
            rintro e w8 ⟨rfl, hb8⟩
            have hz8 := Lib.hid (wb_kept hz.out (grown_belowE hb8) (by intro r e; cases e))
            have hB8 : Below w7.heap.size w7 w8 := hBr.trans (hb8.mono hsi)
            go_wp2
            go_roundw
            case rel =>
              refine ⟨j + 1, by omega, by go_num, rfl, fun k hk X hX => ?_, hz8.out, hB8⟩
              rcases Nat.lt_or_ge k j with hk2 | hk2
              · exact hall2.out k hk2 X hX
              · obtain rfl : k = j := by omega
                rw [hpM.out] at hX
                cases hX
                exact hdh.out
            case measure => simp [intOf]; omega
          · have hfp : Hid ((eM P).find? (doB qL V) = some pL) := find_first hpM.out hd hall2.out
            have hfp2 : Hid ((psL S (eM Q) (cnZ S).toNat).find? (doB qL V) = some pL) := by unfold Hid; rw [hNt.out, ← hM5h.out]; exact hfp.out
            have hck : Hid (ckB S (eM Q) V qL = true) := by unfold Hid; rw [ck_any hlV.out, hfp2.out]; rfl
            have hso : Hid (ckO S (eM Q) W V = some qL) := by unfold Hid; rw [← hfind.out]; exact find_first hqM.out hck.out hall.out
            have hmv : Hid (mvL S (eM Q) W V = pL) := by unfold Hid; rw [mv_some hso.out]; exact co_at hlV.out hfp2.out
            have hdh := Lib.hid hd
            clear hd
            go_wp2_with fail
            refine (try_yes _ _ _ _ _ _ _ _ _ _ _ W V qL pL _ hbVi.out hVi.out hbWi.out hWi.out hz.out hwr.out hqb.1 hqb.2 hpl.out hl1000 hqin.out hpin.out hdh.out).mono ?_
            rintro e w8 ⟨rfl, hz8, w9, hb9, hg9⟩
            have e0 := hz8.read 0
            have e1 := hz8.read 1
            have e2 := hz8.read 2
            have hz8i := hz8.inside
            have hz9 := wb_kept hz.out (grown_belowE hb9) (by intro r e; cases e)
            have hs9 := hb9.size
            have hB79 : Below w7.heap.size w7 w9 := hBr.trans (hb9.mono hsi)
            have hR8 : Wb w8 (w.heap.size + 2) 58 #[.slice none 0 0, .int .i64 0, .slice none 0 0] := wb_far (wb_kept bR7.out (grown_belowE hB79) (by intro r e; cases e)) hg9 (by intro e; injection e with e; omega)
            have g0 := hR8.read 0
            have g1 := hR8.read 1
            have g2 := hR8.read 2
            have k0 := hR8.free 0
            have k1 := hR8.free 1
            have k2 := hR8.free 2
            have hR8i := hR8.inside
            have hBw8 : Below w.heap.size w w8 := (hBw7.trans (hB79.mono hs7)).grown hg9 (by have := hB79.size; omega) (fun k hk => by cases hk; omega)
            have hq8 := Lib.hid (own_sameC (own_below hqrow.out hb9) hz9 (by decide) hg9)
            have hp8 := Lib.hid (own_sameC (own_below hprow.out hb9) hz9 (by decide) hg9)
            have hR8h := Lib.hid hR8
            clear hz8 hR8 hg9 hz9
            have hRf := ((hR8h.out.put 0 (.slice qx qL.length qc)).put 1 (.int .i64 (swZ W qL))).put 2 (.slice px pL.length pc)
            have hRg : Hid (Wb (((w8.setCell ⟨w.heap.size + 2, 0, none⟩ (.slice qx qL.length qc)).setCell ⟨w.heap.size + 2, 1, none⟩ (.int .i64 (swZ W qL))).setCell ⟨w.heap.size + 2, 2, none⟩ (.slice px pL.length pc)) (w.heap.size + 2) 58 #[.slice qx qL.length qc, .int .i64 (swZ W qL), .slice px pL.length pc]) := by
              unfold Hid
              simpa using hRf
            have hgf := grown_3 w8 (w.heap.size + 2) 0 1 2 (.slice qx qL.length qc) (.int .i64 (swZ W qL)) (.slice px pL.length pc)
            have hqf := Lib.hid (own_sameC hq8.out hR8h.out (by decide) hgf)
            have hpf := Lib.hid (own_sameC hp8.out hR8h.out (by decide) hgf)
            have hBf : Below w.heap.size w (((w8.setCell ⟨w.heap.size + 2, 0, none⟩ (.slice qx qL.length qc)).setCell ⟨w.heap.size + 2, 1, none⟩ (.int .i64 (swZ W qL))).setCell ⟨w.heap.size + 2, 2, none⟩ (.slice px pL.length pc)) := hBw8.grown hgf (by have := hBw8.size; omega) (fun k hk => by injection hk with hk; omega)
            have hBfh := Lib.hid hBf
            clear hRf hgf hBf
            go_wp2
            try rw [Exit.noGoto_ret]
            refine bodyPost_ret (resCh_read hRg.out _ rfl rfl) rfl ?_
            exact ⟨.slice qx qL.length qc, .slice px pL.length pc, by rw [hso.out]; rfl, by rw [hso.out]; exact hqf.out, by rw [hmv.out]; exact hpf.out, hBfh.out⟩
        · have hnf : Hid ((eM P).find? (doB qL V) = none) := find_no fun k X hX => hall2.out k (by have := (List.getElem?_eq_some_iff.1 hX).1; rw [eM_len] at this; omega) X hX
          have hck : Hid (ckB S (eM Q) V qL = false) := by unfold Hid; rw [ck_any hlV.out, hNt.out, ← hM5h.out, hnf.out]; rfl
          have hij : j = P.length := by omega
          subst hij
          clear hall2
          go_wp2
          go_roundw
          case rel =>
            refine ⟨i + 1, by omega, by go_num, rfl, fun k hk I hI => ?_, hz.out, hBr⟩
            rcases Nat.lt_or_ge k i with hk2 | hk2
            · exact hall.out k hk2 I hI
            · obtain rfl : k = i := by omega
              rw [hqM.out] at hI
              cases hI
              exact hck.out
          case measure => simp [intOf]; omega
    · have hso : Hid (ckO S (eM Q) W V = none) := by
        unfold Hid
        rw [← hfind.out]
        exact find_no fun k I hI => hall.out k (by have := (List.getElem?_eq_some_iff.1 hI).1; rw [eM_len] at this; omega) I hI
      have hmv := Lib.hid (mv_none hso.out)
      have hz0 := hz.out
      have e0 := hz0.read 0
      have e1 := hz0.read 1
      have e2 := hz0.read 2
      have hzi := hz0.inside
      have hR8 : Wb wr (w.heap.size + 2) 58 #[.slice none 0 0, .int .i64 0, .slice none 0 0] := wb_kept bR7.out (grown_belowE hBr) (by intro r e; cases e)
      have g0 := hR8.read 0
      have g1 := hR8.read 1
      have g2 := hR8.read 2
      have k0 := hR8.free 0
      have k1 := hR8.free 1
      have k2 := hR8.free 2
      have hR8i := hR8.inside
      have hij : i = T.length := by omega
      have hBwr : Below w.heap.size w wr := hBw7.trans (hBr.mono hs7)
      subst hij
      have hRf := ((hR8.put 0 (.slice none 0 0)).put 1 (.int .i64 0)).put 2 (.slice none 0 0)
      have hRg : Hid (Wb (((wr.setCell ⟨w.heap.size + 2, 0, none⟩ (.slice none 0 0)).setCell ⟨w.heap.size + 2, 1, none⟩ (.int .i64 0)).setCell ⟨w.heap.size + 2, 2, none⟩ (.slice none 0 0)) (w.heap.size + 2) 58 #[.slice none 0 0, .int .i64 0, .slice none 0 0]) := by
        unfold Hid
        simpa using hRf
      have hgf := grown_3 wr (w.heap.size + 2) 0 1 2 (.slice none 0 0) (.int .i64 0) (.slice none 0 0)
      have hBf : Below w.heap.size w (((wr.setCell ⟨w.heap.size + 2, 0, none⟩ (.slice none 0 0)).setCell ⟨w.heap.size + 2, 1, none⟩ (.int .i64 0)).setCell ⟨w.heap.size + 2, 2, none⟩ (.slice none 0 0)) := hBwr.grown hgf (by have := hBwr.size; omega) (fun k hk => by injection hk with hk; omega)
      have hBfh := Lib.hid hBf
      clear hall hz0 hR8 hRf hgf hBf
      go_wp2
      try rw [Exit.noGoto_ret]
      refine bodyPost_ret (resCh_read hRg.out _ rfl rfl) rfl ?_
      exact ⟨.slice none 0 0, .slice none 0 0, by rw [hso.out]; rfl, by rw [hso.out]; exact World.ownsRow_nil _ _ _ _, by rw [hmv.out]; exact World.ownsRow_nil _ _ _ _, hBfh.out⟩
end Go.Proofs.YtgkaalonmkcclabGreat

namespace Go.Proofs.YtgkaalonmkcclabGreat
open Go.RowKit
set_option maxRecDepth 100000

/-- The cheapest change of what is asked. -/
def cqO (S : List (ByteArray × Int)) (M : List (List Int)) (W V : List Int) : Option (List Int) := if cmB S M W V = true then ckO S M W V else none
def cqL (S : List (ByteArray × Int)) (M : List (List Int)) (W V : List Int) : List Int := (cqO S M W V).getD []
def cqB (S : List (ByteArray × Int)) (M : List (List Int)) (W V : List Int) : Bool := (cqO S M W V).isSome
def mqL (S : List (ByteArray × Int)) (M : List (List Int)) (W V : List Int) : List Int := if cmB S M W V = true then mvL S M W V else []
theorem cq_no {S : List (ByteArray × Int)} {M : List (List Int)} {W V : List Int} (h : cmB S M W V = false) : cqO S M W V = none := by unfold cqO; rw [if_neg (by rw [h]; exact Bool.false_ne_true)]
theorem cq_yes {S : List (ByteArray × Int)} {M : List (List Int)} {W V : List Int} (h : cmB S M W V = true) : cqO S M W V = ckO S M W V := by unfold cqO; rw [if_pos h]
theorem mq_no {S : List (ByteArray × Int)} {M : List (List Int)} {W V : List Int} (h : cmB S M W V = false) : mqL S M W V = [] := by unfold mqL; rw [if_neg (by rw [h]; exact Bool.false_ne_true)]
theorem mq_yes {S : List (ByteArray × Int)} {M : List (List Int)} {W V : List Int} (h : cmB S M W V = true) : mqL S M W V = mvL S M W V := by unfold mqL; rw [if_pos h]
theorem cqL_len (S : List (ByteArray × Int)) (M : List (List Int)) (W V : List Int) : (cqL S M W V).length ≤ 8 := by
  unfold cqL
  cases h : cqO S M W V with
  | none => exact Nat.zero_le _
  | some b =>
    unfold cqO at h
    split at h
    · obtain ⟨_, st, rfl, _⟩ := ck_ok h
      exact lvsL_len _
    · cases h
theorem mqL_len (S : List (ByteArray × Int)) (M : List (List Int)) (W V : List Int) : (mqL S M W V).length ≤ S.length := by
  unfold mqL
  split
  · exact mv_len _ _ _ _
  · exact Nat.zero_le _
/-- A list, a number and a Bool, handed back. -/
def RetLIB (L : List Int) (n : Int) (b : Bool) (w : World) (e : Ending) (w' : World) : Prop := ∃ v, e = .returned (.tuple #[v, .int .i64 n, .bool b]) ∧ w'.ownsRow w.heap.size 3 1 v L.length (iC L) ∧ Below w.heap.size w w'
set_option maxHeartbeats 2000000 in
theorem sChC_x (x y z u : Option Addr) (c1 c2 c3 c4 : Nat) (S : List (ByteArray × Int)) (Q : List PR) (W V : List Int) (w : World) (hS : SIn w x c1 S) (hQ : EIn w y Q) (hW : IIn w z W) (hV : IIn w u V) :
    Calls Tryz.prog 8 #[.slice x S.length c1, .slice y Q.length c2, .slice z W.length c3, .slice u V.length c4] w (RetLIB (cqL S (eM Q) W V) (swZ W (cqL S (eM Q) W V)) (cqB S (eM Q) W V) w) := by
  have hSh := Lib.hid hS
  have hQh := Lib.hid hQ
  have hWh := Lib.hid hW
  have hVh := Lib.hid hV
  clear hS hQ hW hV
  go_enter Tryz.func8, Tryz.ntmps8
  go_wp2_with fail
  refine (iInput_any _ _ _ _ _ _ _ _ S Q W V _ (hSh.out.below (by exact (by repeat (first | exact Below.refl _ _ | assumption | refine Below.drew ?_ | refine below_drewN ?_ _ | refine Below.alloc' ?_ _ | (refine Below.setCell ?_ (by first | omega | (simp; done) | (simp; omega) | exact Below.size (by assumption) | exact Nat.le_trans (Below.size (by assumption)) (by simp)) _) | (refine Below.via' ?_ (by assumption)) | (refine Below.alloc ?_ (by first | omega | (simp; done) | (simp; omega) | exact Below.size (by assumption) | exact Nat.le_trans (Below.size (by assumption)) (by simp)) _) | (refine Below.via ?_ (by assumption) (by first | omega | (simp; done) | (simp; omega) | exact Below.size (by assumption) | exact Nat.le_trans (Below.size (by assumption)) (by simp))))))) (hQh.out.below (by exact (by repeat (first | exact Below.refl _ _ | assumption | refine Below.drew ?_ | refine below_drewN ?_ _ | refine Below.alloc' ?_ _ | (refine Below.setCell ?_ (by first | omega | (simp; done) | (simp; omega) | exact Below.size (by assumption) | exact Nat.le_trans (Below.size (by assumption)) (by simp)) _) | (refine Below.via' ?_ (by assumption)) | (refine Below.alloc ?_ (by first | omega | (simp; done) | (simp; omega) | exact Below.size (by assumption) | exact Nat.le_trans (Below.size (by assumption)) (by simp)) _) | (refine Below.via ?_ (by assumption) (by first | omega | (simp; done) | (simp; omega) | exact Below.size (by assumption) | exact Nat.le_trans (Below.size (by assumption)) (by simp))))))) (hWh.out.below (by exact (by repeat (first | exact Below.refl _ _ | assumption | refine Below.drew ?_ | refine below_drewN ?_ _ | refine Below.alloc' ?_ _ | (refine Below.setCell ?_ (by first | omega | (simp; done) | (simp; omega) | exact Below.size (by assumption) | exact Nat.le_trans (Below.size (by assumption)) (by simp)) _) | (refine Below.via' ?_ (by assumption)) | (refine Below.alloc ?_ (by first | omega | (simp; done) | (simp; omega) | exact Below.size (by assumption) | exact Nat.le_trans (Below.size (by assumption)) (by simp)) _) | (refine Below.via ?_ (by assumption) (by first | omega | (simp; done) | (simp; omega) | exact Below.size (by assumption) | exact Nat.le_trans (Below.size (by assumption)) (by simp))))))) (hVh.out.below (by exact (by repeat (first | exact Below.refl _ _ | assumption | refine Below.drew ?_ | refine below_drewN ?_ _ | refine Below.alloc' ?_ _ | (refine Below.setCell ?_ (by first | omega | (simp; done) | (simp; omega) | exact Below.size (by assumption) | exact Nat.le_trans (Below.size (by assumption)) (by simp)) _) | (refine Below.via' ?_ (by assumption)) | (refine Below.alloc ?_ (by first | omega | (simp; done) | (simp; omega) | exact Below.size (by assumption) | exact Nat.le_trans (Below.size (by assumption)) (by simp)) _) | (refine Below.via ?_ (by assumption) (by first | omega | (simp; done) | (simp; omega) | exact Below.size (by assumption) | exact Nat.le_trans (Below.size (by assumption)) (by simp)))))))).mono ?_
  rintro e w1 ⟨rfl, hb1⟩
  cases hc : cmB S (eM Q) W V
  · have hq := Lib.hid (cq_no hc)
    clear hc
    go_wp2
    go_ret3
    unfold cqL cqB
    rw [hq.out]
    exact ⟨_, rfl, World.ownsRow_nil _ _ _ _, hb1⟩
  · have hq := Lib.hid (cq_yes hc)
    have hch := Lib.hid hc
    have hs1 := hb1.size
    clear hc
    go_wp2_with fail
    refine (iCheapest_any _ _ _ _ _ _ _ _ S Q W V _ hch.out (hSh.out.below (by exact hb1)) (hQh.out.below (by exact hb1)) (hWh.out.below (by exact hb1)) (hVh.out.below (by exact hb1))).mono ?_
    rintro e w2 ⟨u2, rfl, ho2, hb2⟩
    have ho2h := Lib.hid (own_more ho2 hs1)
    have hB2 : Below w.heap.size w w2 := hb1.trans (hb2.mono hs1)
    clear ho2 hb2
    go_wp2
    go_ret3
    unfold cqL cqB
    rw [hq.out]
    exact ⟨_, rfl, ho2h.out, hB2⟩
set_option maxHeartbeats 2000000 in
theorem sMV_x (x y z u : Option Addr) (c1 c2 c3 c4 : Nat) (S : List (ByteArray × Int)) (Q : List PR) (W V : List Int) (w : World) (hS : SIn w x c1 S) (hQ : EIn w y Q) (hW : IIn w z W) (hV : IIn w u V) :
    Calls Tryz.prog 20 #[.slice x S.length c1, .slice y Q.length c2, .slice z W.length c3, .slice u V.length c4] w (RetLB (mqL S (eM Q) W V) (cqB S (eM Q) W V) w) := by
  have hSh := Lib.hid hS
  have hQh := Lib.hid hQ
  have hWh := Lib.hid hW
  have hVh := Lib.hid hV
  clear hS hQ hW hV
  go_enter Tryz.func20, Tryz.ntmps20
  go_wp2_with fail
  refine (iInput_any _ _ _ _ _ _ _ _ S Q W V _ (hSh.out.below (by exact (by repeat (first | exact Below.refl _ _ | assumption | refine Below.drew ?_ | refine below_drewN ?_ _ | refine Below.alloc' ?_ _ | (refine Below.setCell ?_ (by first | omega | (simp; done) | (simp; omega) | exact Below.size (by assumption) | exact Nat.le_trans (Below.size (by assumption)) (by simp)) _) | (refine Below.via' ?_ (by assumption)) | (refine Below.alloc ?_ (by first | omega | (simp; done) | (simp; omega) | exact Below.size (by assumption) | exact Nat.le_trans (Below.size (by assumption)) (by simp)) _) | (refine Below.via ?_ (by assumption) (by first | omega | (simp; done) | (simp; omega) | exact Below.size (by assumption) | exact Nat.le_trans (Below.size (by assumption)) (by simp))))))) (hQh.out.below (by exact (by repeat (first | exact Below.refl _ _ | assumption | refine Below.drew ?_ | refine below_drewN ?_ _ | refine Below.alloc' ?_ _ | (refine Below.setCell ?_ (by first | omega | (simp; done) | (simp; omega) | exact Below.size (by assumption) | exact Nat.le_trans (Below.size (by assumption)) (by simp)) _) | (refine Below.via' ?_ (by assumption)) | (refine Below.alloc ?_ (by first | omega | (simp; done) | (simp; omega) | exact Below.size (by assumption) | exact Nat.le_trans (Below.size (by assumption)) (by simp)) _) | (refine Below.via ?_ (by assumption) (by first | omega | (simp; done) | (simp; omega) | exact Below.size (by assumption) | exact Nat.le_trans (Below.size (by assumption)) (by simp))))))) (hWh.out.below (by exact (by repeat (first | exact Below.refl _ _ | assumption | refine Below.drew ?_ | refine below_drewN ?_ _ | refine Below.alloc' ?_ _ | (refine Below.setCell ?_ (by first | omega | (simp; done) | (simp; omega) | exact Below.size (by assumption) | exact Nat.le_trans (Below.size (by assumption)) (by simp)) _) | (refine Below.via' ?_ (by assumption)) | (refine Below.alloc ?_ (by first | omega | (simp; done) | (simp; omega) | exact Below.size (by assumption) | exact Nat.le_trans (Below.size (by assumption)) (by simp)) _) | (refine Below.via ?_ (by assumption) (by first | omega | (simp; done) | (simp; omega) | exact Below.size (by assumption) | exact Nat.le_trans (Below.size (by assumption)) (by simp))))))) (hVh.out.below (by exact (by repeat (first | exact Below.refl _ _ | assumption | refine Below.drew ?_ | refine below_drewN ?_ _ | refine Below.alloc' ?_ _ | (refine Below.setCell ?_ (by first | omega | (simp; done) | (simp; omega) | exact Below.size (by assumption) | exact Nat.le_trans (Below.size (by assumption)) (by simp)) _) | (refine Below.via' ?_ (by assumption)) | (refine Below.alloc ?_ (by first | omega | (simp; done) | (simp; omega) | exact Below.size (by assumption) | exact Nat.le_trans (Below.size (by assumption)) (by simp)) _) | (refine Below.via ?_ (by assumption) (by first | omega | (simp; done) | (simp; omega) | exact Below.size (by assumption) | exact Nat.le_trans (Below.size (by assumption)) (by simp)))))))).mono ?_
  rintro e w1 ⟨rfl, hb1⟩
  cases hc : cmB S (eM Q) W V
  · have hq := Lib.hid (cq_no hc)
    have hm := Lib.hid (mq_no hc)
    clear hc
    go_wp2
    go_ret2
    unfold cqB
    rw [hq.out, hm.out]
    exact ⟨_, rfl, World.ownsRow_nil _ _ _ _, hb1⟩
  · have hq := Lib.hid (cq_yes hc)
    have hm := Lib.hid (mq_yes hc)
    have hch := Lib.hid hc
    have hs1 := hb1.size
    clear hc
    go_wp2_with fail
    refine (iMend_any _ _ _ _ _ _ _ _ S Q W V _ hch.out (hSh.out.below (by exact hb1)) (hQh.out.below (by exact hb1)) (hWh.out.below (by exact hb1)) (hVh.out.below (by exact hb1))).mono ?_
    rintro e w2 ⟨u2, rfl, ho2, hb2⟩
    have ho2h := Lib.hid (own_more ho2 hs1)
    have hB2 : Below w.heap.size w w2 := hb1.trans (hb2.mono hs1)
    clear ho2 hb2
    go_wp2
    go_ret2
    unfold cqB
    rw [hq.out, hm.out]
    exact ⟨_, rfl, ho2h.out, hB2⟩
set_option maxHeartbeats 2000000 in
theorem iChC_x (x y z u : Option Addr) (c1 c2 c3 c4 : Nat) (S : List (ByteArray × Int)) (Q : List PR) (W V : List Int) (w : World) (hS : SIn w x c1 S) (hQ : EIn w y Q) (hW : IIn w z W) (hV : IIn w u V) :
    Calls Tryz.prog 12 #[.slice x S.length c1, .slice y Q.length c2, .slice z W.length c3, .slice u V.length c4] w (RetLIB (cqL S (eM Q) W V) (swZ W (cqL S (eM Q) W V)) (cqB S (eM Q) W V) w) := by
  have hSh := Lib.hid hS
  have hQh := Lib.hid hQ
  have hWh := Lib.hid hW
  have hVh := Lib.hid hV
  clear hS hQ hW hV
  go_enter Tryz.func12, Tryz.ntmps12
  go_wp2_with fail
  refine (canBeMended_any _ _ _ _ _ _ _ _ S Q W V _ (hSh.out.below (by exact (by repeat (first | exact Below.refl _ _ | assumption | refine Below.drew ?_ | refine below_drewN ?_ _ | refine Below.alloc' ?_ _ | (refine Below.setCell ?_ (by first | omega | (simp; done) | (simp; omega) | exact Below.size (by assumption) | exact Nat.le_trans (Below.size (by assumption)) (by simp)) _) | (refine Below.via' ?_ (by assumption)) | (refine Below.alloc ?_ (by first | omega | (simp; done) | (simp; omega) | exact Below.size (by assumption) | exact Nat.le_trans (Below.size (by assumption)) (by simp)) _) | (refine Below.via ?_ (by assumption) (by first | omega | (simp; done) | (simp; omega) | exact Below.size (by assumption) | exact Nat.le_trans (Below.size (by assumption)) (by simp))))))) (hQh.out.below (by exact (by repeat (first | exact Below.refl _ _ | assumption | refine Below.drew ?_ | refine below_drewN ?_ _ | refine Below.alloc' ?_ _ | (refine Below.setCell ?_ (by first | omega | (simp; done) | (simp; omega) | exact Below.size (by assumption) | exact Nat.le_trans (Below.size (by assumption)) (by simp)) _) | (refine Below.via' ?_ (by assumption)) | (refine Below.alloc ?_ (by first | omega | (simp; done) | (simp; omega) | exact Below.size (by assumption) | exact Nat.le_trans (Below.size (by assumption)) (by simp)) _) | (refine Below.via ?_ (by assumption) (by first | omega | (simp; done) | (simp; omega) | exact Below.size (by assumption) | exact Nat.le_trans (Below.size (by assumption)) (by simp))))))) (hWh.out.below (by exact (by repeat (first | exact Below.refl _ _ | assumption | refine Below.drew ?_ | refine below_drewN ?_ _ | refine Below.alloc' ?_ _ | (refine Below.setCell ?_ (by first | omega | (simp; done) | (simp; omega) | exact Below.size (by assumption) | exact Nat.le_trans (Below.size (by assumption)) (by simp)) _) | (refine Below.via' ?_ (by assumption)) | (refine Below.alloc ?_ (by first | omega | (simp; done) | (simp; omega) | exact Below.size (by assumption) | exact Nat.le_trans (Below.size (by assumption)) (by simp)) _) | (refine Below.via ?_ (by assumption) (by first | omega | (simp; done) | (simp; omega) | exact Below.size (by assumption) | exact Nat.le_trans (Below.size (by assumption)) (by simp))))))) (hVh.out.below (by exact (by repeat (first | exact Below.refl _ _ | assumption | refine Below.drew ?_ | refine below_drewN ?_ _ | refine Below.alloc' ?_ _ | (refine Below.setCell ?_ (by first | omega | (simp; done) | (simp; omega) | exact Below.size (by assumption) | exact Nat.le_trans (Below.size (by assumption)) (by simp)) _) | (refine Below.via' ?_ (by assumption)) | (refine Below.alloc ?_ (by first | omega | (simp; done) | (simp; omega) | exact Below.size (by assumption) | exact Nat.le_trans (Below.size (by assumption)) (by simp)) _) | (refine Below.via ?_ (by assumption) (by first | omega | (simp; done) | (simp; omega) | exact Below.size (by assumption) | exact Nat.le_trans (Below.size (by assumption)) (by simp)))))))).mono ?_
  rintro e w1 ⟨rfl, hb1⟩
  cases hc : cmB S (eM Q) W V
  · have hq := Lib.hid (cq_no hc)
    clear hc
    go_wp2
    go_ret3
    unfold cqL cqB
    rw [hq.out]
    exact ⟨_, rfl, World.ownsRow_nil _ _ _ _, hb1⟩
  · have hq := Lib.hid (cq_yes hc)
    have hch := Lib.hid hc
    have hs1 := hb1.size
    clear hc
    go_wp2_with fail
    refine (cheapest_any _ _ _ _ _ _ _ _ S Q W V _ hch.out (hSh.out.below (by exact hb1)) (hQh.out.below (by exact hb1)) (hWh.out.below (by exact hb1)) (hVh.out.below (by exact hb1))).mono ?_
    rintro e w2 ⟨vv, mv, rfl, hov, hom, hb2⟩
    obtain ⟨xv, cv, rfl, -, -⟩ := (OwR.of hov).form
    obtain ⟨xm, cm, rfl, -, -⟩ := (OwR.of hom).form
    have hovh := Lib.hid (own_more hov hs1)
    have hB2 : Below w.heap.size w w2 := hb1.trans (hb2.mono hs1)
    clear hov hom hb2
    go_wp2
    go_region
    all_goals
      go_wp2
      go_ret3
      unfold cqL cqB
      rw [hq.out]
      exact ⟨_, rfl, own_below hovh.out (by repeat (first | exact Below.refl _ _ | assumption | refine Below.drew ?_ | refine below_drewN ?_ _ | refine Below.alloc' ?_ _ | (refine Below.setCell ?_ (by first | omega | (simp; done) | (simp; omega) | exact Below.size (by assumption) | exact Nat.le_trans (Below.size (by assumption)) (by simp)) _) | (refine Below.via' ?_ (by assumption)) | (refine Below.alloc ?_ (by first | omega | (simp; done) | (simp; omega) | exact Below.size (by assumption) | exact Nat.le_trans (Below.size (by assumption)) (by simp)) _) | (refine Below.via ?_ (by assumption) (by first | omega | (simp; done) | (simp; omega) | exact Below.size (by assumption) | exact Nat.le_trans (Below.size (by assumption)) (by simp))))), (by repeat (first | exact Below.refl _ _ | assumption | refine Below.drew ?_ | refine below_drewN ?_ _ | refine Below.alloc' ?_ _ | (refine Below.setCell ?_ (by first | omega | (simp; done) | (simp; omega) | exact Below.size (by assumption) | exact Nat.le_trans (Below.size (by assumption)) (by simp)) _) | (refine Below.via' ?_ (by assumption)) | (refine Below.alloc ?_ (by first | omega | (simp; done) | (simp; omega) | exact Below.size (by assumption) | exact Nat.le_trans (Below.size (by assumption)) (by simp)) _) | (refine Below.via ?_ (by assumption) (by first | omega | (simp; done) | (simp; omega) | exact Below.size (by assumption) | exact Nat.le_trans (Below.size (by assumption)) (by simp)))))⟩
set_option maxHeartbeats 2000000 in
theorem iMV_x (x y z u : Option Addr) (c1 c2 c3 c4 : Nat) (S : List (ByteArray × Int)) (Q : List PR) (W V : List Int) (w : World) (hS : SIn w x c1 S) (hQ : EIn w y Q) (hW : IIn w z W) (hV : IIn w u V) :
    Calls Tryz.prog 21 #[.slice x S.length c1, .slice y Q.length c2, .slice z W.length c3, .slice u V.length c4] w (RetLB (mqL S (eM Q) W V) (cqB S (eM Q) W V) w) := by
  have hSh := Lib.hid hS
  have hQh := Lib.hid hQ
  have hWh := Lib.hid hW
  have hVh := Lib.hid hV
  clear hS hQ hW hV
  go_enter Tryz.func21, Tryz.ntmps21
  go_wp2_with fail
  refine (canBeMended_any _ _ _ _ _ _ _ _ S Q W V _ (hSh.out.below (by exact (by repeat (first | exact Below.refl _ _ | assumption | refine Below.drew ?_ | refine below_drewN ?_ _ | refine Below.alloc' ?_ _ | (refine Below.setCell ?_ (by first | omega | (simp; done) | (simp; omega) | exact Below.size (by assumption) | exact Nat.le_trans (Below.size (by assumption)) (by simp)) _) | (refine Below.via' ?_ (by assumption)) | (refine Below.alloc ?_ (by first | omega | (simp; done) | (simp; omega) | exact Below.size (by assumption) | exact Nat.le_trans (Below.size (by assumption)) (by simp)) _) | (refine Below.via ?_ (by assumption) (by first | omega | (simp; done) | (simp; omega) | exact Below.size (by assumption) | exact Nat.le_trans (Below.size (by assumption)) (by simp))))))) (hQh.out.below (by exact (by repeat (first | exact Below.refl _ _ | assumption | refine Below.drew ?_ | refine below_drewN ?_ _ | refine Below.alloc' ?_ _ | (refine Below.setCell ?_ (by first | omega | (simp; done) | (simp; omega) | exact Below.size (by assumption) | exact Nat.le_trans (Below.size (by assumption)) (by simp)) _) | (refine Below.via' ?_ (by assumption)) | (refine Below.alloc ?_ (by first | omega | (simp; done) | (simp; omega) | exact Below.size (by assumption) | exact Nat.le_trans (Below.size (by assumption)) (by simp)) _) | (refine Below.via ?_ (by assumption) (by first | omega | (simp; done) | (simp; omega) | exact Below.size (by assumption) | exact Nat.le_trans (Below.size (by assumption)) (by simp))))))) (hWh.out.below (by exact (by repeat (first | exact Below.refl _ _ | assumption | refine Below.drew ?_ | refine below_drewN ?_ _ | refine Below.alloc' ?_ _ | (refine Below.setCell ?_ (by first | omega | (simp; done) | (simp; omega) | exact Below.size (by assumption) | exact Nat.le_trans (Below.size (by assumption)) (by simp)) _) | (refine Below.via' ?_ (by assumption)) | (refine Below.alloc ?_ (by first | omega | (simp; done) | (simp; omega) | exact Below.size (by assumption) | exact Nat.le_trans (Below.size (by assumption)) (by simp)) _) | (refine Below.via ?_ (by assumption) (by first | omega | (simp; done) | (simp; omega) | exact Below.size (by assumption) | exact Nat.le_trans (Below.size (by assumption)) (by simp))))))) (hVh.out.below (by exact (by repeat (first | exact Below.refl _ _ | assumption | refine Below.drew ?_ | refine below_drewN ?_ _ | refine Below.alloc' ?_ _ | (refine Below.setCell ?_ (by first | omega | (simp; done) | (simp; omega) | exact Below.size (by assumption) | exact Nat.le_trans (Below.size (by assumption)) (by simp)) _) | (refine Below.via' ?_ (by assumption)) | (refine Below.alloc ?_ (by first | omega | (simp; done) | (simp; omega) | exact Below.size (by assumption) | exact Nat.le_trans (Below.size (by assumption)) (by simp)) _) | (refine Below.via ?_ (by assumption) (by first | omega | (simp; done) | (simp; omega) | exact Below.size (by assumption) | exact Nat.le_trans (Below.size (by assumption)) (by simp)))))))).mono ?_
  rintro e w1 ⟨rfl, hb1⟩
  cases hc : cmB S (eM Q) W V
  · have hq := Lib.hid (cq_no hc)
    have hm := Lib.hid (mq_no hc)
    clear hc
    go_wp2
    go_ret2
    unfold cqB
    rw [hq.out, hm.out]
    exact ⟨_, rfl, World.ownsRow_nil _ _ _ _, hb1⟩
  · have hq := Lib.hid (cq_yes hc)
    have hm := Lib.hid (mq_yes hc)
    have hch := Lib.hid hc
    have hs1 := hb1.size
    clear hc
    go_wp2_with fail
    refine (cheapest_any _ _ _ _ _ _ _ _ S Q W V _ hch.out (hSh.out.below (by exact hb1)) (hQh.out.below (by exact hb1)) (hWh.out.below (by exact hb1)) (hVh.out.below (by exact hb1))).mono ?_
    rintro e w2 ⟨vv, mv, rfl, hov, hom, hb2⟩
    obtain ⟨xv, cv, rfl, -, -⟩ := (OwR.of hov).form
    obtain ⟨xm, cm, rfl, -, -⟩ := (OwR.of hom).form
    have homh := Lib.hid (own_more hom hs1)
    have hB2 : Below w.heap.size w w2 := hb1.trans (hb2.mono hs1)
    clear hov hom hb2
    go_wp2
    go_ret2
    unfold cqB
    rw [hq.out, hm.out]
    exact ⟨_, rfl, own_below homh.out (by repeat (first | exact Below.refl _ _ | assumption | refine Below.drew ?_ | refine below_drewN ?_ _ | refine Below.alloc' ?_ _ | (refine Below.setCell ?_ (by first | omega | (simp; done) | (simp; omega) | exact Below.size (by assumption) | exact Nat.le_trans (Below.size (by assumption)) (by simp)) _) | (refine Below.via' ?_ (by assumption)) | (refine Below.alloc ?_ (by first | omega | (simp; done) | (simp; omega) | exact Below.size (by assumption) | exact Nat.le_trans (Below.size (by assumption)) (by simp)) _) | (refine Below.via ?_ (by assumption) (by first | omega | (simp; done) | (simp; omega) | exact Below.size (by assumption) | exact Nat.le_trans (Below.size (by assumption)) (by simp))))), (by repeat (first | exact Below.refl _ _ | assumption | refine Below.drew ?_ | refine below_drewN ?_ _ | refine Below.alloc' ?_ _ | (refine Below.setCell ?_ (by first | omega | (simp; done) | (simp; omega) | exact Below.size (by assumption) | exact Nat.le_trans (Below.size (by assumption)) (by simp)) _) | (refine Below.via' ?_ (by assumption)) | (refine Below.alloc ?_ (by first | omega | (simp; done) | (simp; omega) | exact Below.size (by assumption) | exact Nat.le_trans (Below.size (by assumption)) (by simp)) _) | (refine Below.via ?_ (by assumption) (by first | omega | (simp; done) | (simp; omega) | exact Below.size (by assumption) | exact Nat.le_trans (Below.size (by assumption)) (by simp)))))⟩
theorem sChC_m (x y z u : Option Addr) (c1 c2 c3 c4 : Nat) (S : List (ByteArray × Int)) (Q : List PR) (W V : List Int) (w : World) (hS : SIn w x c1 S) (hQ : EIn w y Q) (hW : IIn w z W) (hV : IIn w u V) (M : List (List Int)) (hM : eM Q = M) :
    Calls Tryz.prog 8 #[.slice x S.length c1, .slice y Q.length c2, .slice z W.length c3, .slice u V.length c4] w (RetLIB (cqL S M W V) (swZ W (cqL S M W V)) (cqB S M W V) w) := by subst hM; exact sChC_x x y z u c1 c2 c3 c4 S Q W V w hS hQ hW hV
theorem iChC_m (x y z u : Option Addr) (c1 c2 c3 c4 : Nat) (S : List (ByteArray × Int)) (Q : List PR) (W V : List Int) (w : World) (hS : SIn w x c1 S) (hQ : EIn w y Q) (hW : IIn w z W) (hV : IIn w u V) (M : List (List Int)) (hM : eM Q = M) :
    Calls Tryz.prog 12 #[.slice x S.length c1, .slice y Q.length c2, .slice z W.length c3, .slice u V.length c4] w (RetLIB (cqL S M W V) (swZ W (cqL S M W V)) (cqB S M W V) w) := by subst hM; exact iChC_x x y z u c1 c2 c3 c4 S Q W V w hS hQ hW hV
theorem sMV_m (x y z u : Option Addr) (c1 c2 c3 c4 : Nat) (S : List (ByteArray × Int)) (Q : List PR) (W V : List Int) (w : World) (hS : SIn w x c1 S) (hQ : EIn w y Q) (hW : IIn w z W) (hV : IIn w u V) (M : List (List Int)) (hM : eM Q = M) :
    Calls Tryz.prog 20 #[.slice x S.length c1, .slice y Q.length c2, .slice z W.length c3, .slice u V.length c4] w (RetLB (mqL S M W V) (cqB S M W V) w) := by subst hM; exact sMV_x x y z u c1 c2 c3 c4 S Q W V w hS hQ hW hV
theorem iMV_m (x y z u : Option Addr) (c1 c2 c3 c4 : Nat) (S : List (ByteArray × Int)) (Q : List PR) (W V : List Int) (w : World) (hS : SIn w x c1 S) (hQ : EIn w y Q) (hW : IIn w z W) (hV : IIn w u V) (M : List (List Int)) (hM : eM Q = M) :
    Calls Tryz.prog 21 #[.slice x S.length c1, .slice y Q.length c2, .slice z W.length c3, .slice u V.length c4] w (RetLB (mqL S M W V) (cqB S M W V) w) := by subst hM; exact iMV_x x y z u c1 c2 c3 c4 S Q W V w hS hQ hW hV
end Go.Proofs.YtgkaalonmkcclabGreat

namespace Go.Proofs.YtgkaalonmkcclabGreat
open Go.RowKit
set_option maxRecDepth 100000

/-- The edits that are marked from k on. -/
def mE (k : Int) : List PR → List PR
  | [] => []
  | q :: r => ⟨q.a, q.h, q.x, q.c, mkL k q.L.length⟩ :: mE (k + q.L.length) r
theorem mE_len : ∀ (k : Int) (Q : List PR), (mE k Q).length = Q.length
  | _, [] => rfl
  | k, q :: r => by simp [mE, mE_len _ r]
theorem mE_app : ∀ (k : Int) (Q T : List PR), mE k (Q ++ T) = mE k Q ++ mE (k + tot Q) T
  | k, [], T => by simp [mE, tot]
  | k, q :: r, T => by
    simp only [List.cons_append, mE, mE_app _ r T]
    congr 3
    unfold tot
    simp only [List.map_cons, List.sum_cons]
    omega
theorem mE_step (k : Int) {Q : List PR} {i : Nat} {q : PR} (h : Q[i]? = some q) (hi : i < Q.length) :
    mE k (Q.take (i + 1)) ++ Q.drop (i + 1) = (mE k (Q.take i) ++ Q.drop i).set i ⟨q.a, q.h, q.x, q.c, mkL (k + tot (Q.take i)) q.L.length⟩ := by
  have hl : (mE k (Q.take i)).length = i := by rw [mE_len, List.length_take]; omega
  have hd : Q.drop i = q :: Q.drop (i + 1) := by
    rw [List.drop_eq_getElem_cons hi]
    rw [List.getElem?_eq_getElem hi] at h
    injection h with h
    rw [h]
  rw [List.set_append_right _ _ (by omega), hl, Nat.sub_self, hd, List.set_cons_zero, take_snoc h, mE_app, List.append_assoc]
  rfl
theorem mE_at (k : Int) {Q : List PR} {i : Nat} {q : PR} (h : Q[i]? = some q) (hi : i < Q.length) :
    (mE k Q)[i]? = some ⟨q.a, q.h, q.x, q.c, mkL (k + tot (Q.take i)) q.L.length⟩ := by
  have hl : (mE k (Q.take i)).length = i := by rw [mE_len, List.length_take]; omega
  have e : mE k Q = mE k (Q.take (i + 1)) ++ mE (k + tot (Q.take (i + 1))) (Q.drop (i + 1)) := by rw [← mE_app, List.take_append_drop]
  rw [e, List.getElem?_append_left (by rw [mE_len, List.length_take]; omega), take_snoc h, mE_app, List.getElem?_append_right (by omega), hl, Nat.sub_self]
  rfl
theorem eC_setL : ∀ (Q : List PR) (i : Nat) (q : PR) (M : List Int), Q[i]? = some q → M.length = q.L.length → eC (Q.set i ⟨q.a, q.h, q.x, q.c, M⟩) = eC Q
  | [], i, q, M, h, _ => by simp at h
  | p :: r, 0, q, M, h, hl => by simp at h; subst h; simp [eC, PR.v, hl]
  | p :: r, i + 1, q, M, h, hl => by
    simp only [List.getElem?_cons_succ] at h
    have := eC_setL r i q M h hl
    unfold eC at this ⊢
    simp only [List.set_cons_succ, List.map_cons, this]
section
variable {w w1 : World} {lo hi : Nat} {te ti : TypeId} {Q : List PR} {i g c : Nat} {q : PR}
/-- The row of edit i is written. -/
theorem OwE.turn {M : List Int} (h : OwE w lo hi te ti (.slice (some ⟨g, 0, none⟩) Q.length c) Q) (hq : Q[i]? = some q) (hl : M.length = q.L.length) (hr : w1.ownsRow lo ti 1 q.v q.L.length (iC M)) (hg : w.grownBy w1 q.v.ownBlock) :
    OwE w1 lo hi te ti (.slice (some ⟨g, 0, none⟩) (Q.set i ⟨q.a, q.h, q.x, q.c, M⟩).length c) (Q.set i ⟨q.a, q.h, q.x, q.c, M⟩) := by
  obtain ⟨h1, h2, h3⟩ := h
  have hmem := List.mem_of_getElem? hq
  have hpv : (PR.mk q.a q.h q.x q.c M).v = q.v := by unfold PR.v; rw [hl]
  refine ⟨⟨?_, fun k hk => h1.2 k hk⟩, ⟨fun r hr2 => ?_, ?_⟩, fun r hr2 k hk => ?_⟩
  · rw [List.length_set, eC_setL Q i q M hq hl]
    refine h1.1.kept hg (Or.inr fun e => h3 q hmem g rfl ?_)
    rw [← e]; rfl
  · rcases mem_set_cases hr2 with rfl | ⟨j, hji, hj⟩
    · rw [hpv]; exact ⟨by rw [hl]; exact hr, (h2.1 q hmem).2⟩
    · have hrm := List.mem_of_getElem? hj
      refine ⟨(h2.1 r hrm).1.kept hg ?_, (h2.1 r hrm).2⟩
      cases hb : r.v.ownBlock with
      | none => exact Or.inl rfl
      | some k => exact Or.inr fun e => blk_ne h2.2 hq hj hji e.symm hb
  · rw [blk_set hq (by rw [hpv])]; exact h2.2
  · rcases mem_set_cases hr2 with rfl | ⟨j, _, hj⟩
    · rw [hpv]; exact h3 q hmem k hk
    · exact h3 r (List.mem_of_getElem? hj) k hk
end
set_option maxHeartbeats 4000000 in
theorem markEditS_any (x : Option Addr) (cap : Nat) (k : Int) (lo hi : Nat) (Q : List PR) (w : World) (hk : 0 ≤ k) (hk2 : k ≤ 1000000000) (hn : Q.length ≤ 1048576) (ht : tot Q ≤ 1048576) (hown : OwE w lo hi 55 3 (.slice x Q.length cap) Q) :
    Calls Tryz.prog 17 #[.slice x Q.length cap, .int .i64 k] w fun e w' => e = .returned (.int .i64 (k + tot Q)) ∧ OwE w' lo hi 55 3 (.slice x Q.length cap) (mE k Q) ∧ Off lo hi w w' := by
  by_cases h0 : Q.length = 0
  · obtain rfl : Q = [] := List.eq_nil_of_length_eq_zero h0
    have hown := Lib.hid hown
    go_enter Tryz.func17, Tryz.ntmps17
    go_wp2
    refine wp_loop_rounds 1 ?_
    rw [rounds_succ]
    go_wp2
    go_ret
    exact ⟨ret_int (by simp [tot]), hown.out, Off.refl _ _ _⟩
  obtain ⟨g, cap', he⟩ := own_some hown.1.1 (by omega)
  injection he with hx _ hc
  subst hx hc
  have hown0 := Lib.hid hown
  clear hown
  go_enter Tryz.func17, Tryz.ntmps17
  go_wp2
  go_loopw [1, 5] (fun q c wr => ∃ i : Nat, i ≤ Q.length ∧ c = .int .i64 i ∧ q = .int .i64 (k + tot (Q.take i)) ∧ Hid (OwE wr lo hi 55 3 (.slice (some ⟨g, 0, none⟩) (mE k (Q.take i) ++ Q.drop i).length cap) (mE k (Q.take i) ++ Q.drop i)) ∧ Off lo hi w wr) (fun _ c _ => Q.length - (intOf c).toNat)
  case atStart => exact ⟨0, by omega, rfl, (by rw [tot0]; go_num), (by unfold Hid; simpa [mE] using hown0.out), Off.refl _ _ _⟩
  case round =>
    clear hown0
    obtain ⟨i, hil, rfl, rfl, hown, hb⟩ := hrel
    have hzl : (mE k (Q.take i) ++ Q.drop i).length = Q.length := by rw [List.length_append, mE_len, List.length_take, List.length_drop]; omega
    by_cases hlt : i < Q.length
    · obtain ⟨q, hq⟩ : ∃ q, Q[i]? = some q := ⟨Q[i], List.getElem?_eq_getElem hlt⟩
      have hZ : (mE k (Q.take i) ++ Q.drop i)[i]? = some q := by
        rw [List.getElem?_append_right (by rw [mE_len, List.length_take]; omega), mE_len, List.length_take, Nat.min_eq_left (by omega), Nat.sub_self, List.getElem?_drop, Nat.add_zero, hq]
      have hstep := Lib.hid (mE_step k hq hlt)
      have htt := tot_take hq
      have htl : tot (Q.take (i + 1)) ≤ tot Q := by
        conv => rhs; rw [← List.take_append_drop (i + 1) Q]
        unfold tot
        rw [List.map_append, List.sum_append]
        omega
      generalize hZe : mE k (Q.take i) ++ Q.drop i = Z at hown hZ hzl hstep
      have hti : tot (Q.take i) ≤ 1048576 := by omega
      generalize htie : tot (Q.take i) = t at *
      have hql : q.L.length ≤ 1048576 := by omega
      have ho0 := hown.out.1.1
      rw [hzl] at ho0
      obtain ⟨u0, hu0, k0⟩ := own_cell ho0 (j := i) (by omega)
      have e2 : u0 = .slice q.x q.L.length q.c := Option.some.inj (hu0.symm.trans (eC_at hZ))
      subst e2
      have k4 := (own_lt ho0).2
      have hin := Lib.hid (hown.out.1.2 g rfl)
      clear hu0 ho0
      replace hZ := Lib.hid hZ
      replace hq := Lib.hid hq
      have hlt' : (i : Int) < (Q.length : Int) := by omega
      go_wp2_with fail
      refine (markIntS_any _ _ _ _ lo _ _ (by omega) (by omega) hql (hown.out.2.1.1 _ (List.mem_of_getElem? hZ.out)).1).mono ?_
      rintro e w2 ⟨rfl, hm2, hg2⟩
      have P2 := Lib.hid (hown.out.turn hZ.out (by rw [mkL_len]) hm2 hg2)
      have hbl := Lib.hid ((hown.out.2.1.1 _ (List.mem_of_getElem? hZ.out)).2)
      go_wp2
      go_roundw
      case rel =>
        refine ⟨i + 1, by omega, by go_num, ?_, ?_, ?_⟩
        · rw [htt]
          congr 1
          push_cast
          omega
        · rw [hstep.out]
          exact P2.out
        · exact hb.trans (Off.of_grown hg2 (fun k hk => hbl.out k hk))
      case measure => simp [intOf]; omega
    · have hij : i = Q.length := by omega
      subst hij
      have hown := Lib.hid (show OwE wr lo hi 55 3 (.slice (some ⟨g, 0, none⟩) Q.length cap) (mE k Q) from by simpa [mE_len] using hown.out)
      rw [List.take_length]
      clear hzl
      go_wp2
      go_ret
      exact ⟨rfl, hown.out, hb⟩

end Go.Proofs.YtgkaalonmkcclabGreat
