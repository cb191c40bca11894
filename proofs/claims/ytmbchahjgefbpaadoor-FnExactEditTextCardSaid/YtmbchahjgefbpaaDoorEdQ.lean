/-
  The walks of chapter 5: texts of edits; the model's.
-/
import Derived.Test.YtmbchahjgefbpaaDoorEdU
namespace Go.Proofs.YtmbchahjgefbpaaDoor
open Go.RowKit
set_option maxRecDepth 100000

theorem paS_pos {S : List (ByteArray × Int)} {E : List Int} {i : Nat} {nm : ByteArray} {lv x : Int} (h1 : S[i]? = some (nm, lv)) (h2 : E[i]? = some x) : 1 ≤ (paS S E i).size := by
  rw [paS_at h1 h2]
  unfold paT
  rw [ByteArray.size_append, ByteArray.size_append, show (⟨#[61]⟩ : ByteArray).size = 1 from rfl]
  omega
theorem iv_get {S : List (ByteArray × Int)} {E : List Int} (hs : schB S = true) (he : edB S E = true) {k : Nat} (hk : k < (ivL S E).length) : ∃ (i : Nat) (nm : ByteArray) (lv x : Int), (ivL S E)[k]? = some (i : Int) ∧ i < S.length ∧ S[i]? = some (nm, lv) ∧ E[i]? = some x ∧ 1 ≤ x ∧ x ≤ 255 := by
  have h1 : (ivL S E)[k]? = some ((ivL S E)[k]'hk) := List.getElem?_eq_getElem hk
  obtain ⟨i, e, hi, _⟩ := pkUp_mem (List.mem_of_getElem? h1)
  obtain ⟨nm, lv, x, a, b, c, d, e2, f, g⟩ := ed_at hs he hi
  exact ⟨i, nm, lv, x, by rw [h1, e], hi, a, b, c, g⟩
theorem tK_pos {S : List (ByteArray × Int)} {E : List Int} (hs : schB S = true) (he : edB S E = true) {k : Nat} (h0 : 0 < k) (hk : k ≤ (ivL S E).length) : 1 ≤ (tK S E k).size := by
  obtain ⟨j, rfl⟩ : ∃ j, k = j + 1 := ⟨k - 1, by omega⟩
  obtain ⟨i, nm, lv, x, a, b, c, d, _⟩ := iv_get hs he (k := j) (by omega)
  have hp := paS_pos c d
  rcases Nat.eq_zero_or_pos j with rfl | hj
  · rw [tK_first a]; exact hp
  · rw [tK_next hj a, ByteArray.size_append]; omega
theorem str_ne {t : ByteArray} (h : 1 ≤ t.size) : (t.toList == (⟨#[]⟩ : ByteArray).toList) = false ∧ (t == (⟨#[]⟩ : ByteArray)) = false ∧ t ≠ ⟨#[]⟩ ∧ t.toList.isEmpty = false := by
  have hne : t ≠ ⟨#[]⟩ := by intro e; rw [e] at h; exact absurd h (by decide)
  have hd : t.data.toList ≠ (⟨#[]⟩ : ByteArray).data.toList := by
    intro e
    exact hne (ByteArray.ext (Array.ext' e))
  refine ⟨by rw [str_eq]; exact decide_eq_false hd, by rw [ba_eq]; exact decide_eq_false hd, hne, by rw [List.isEmpty_eq_false_iff, ByteArray.toList_eq]; exact hd⟩
set_option maxHeartbeats 4000000 in
theorem eText_any (x y : Option Addr) (c1 c2 : Nat) (S : List (ByteArray × Int)) (E : List Int) (w : World) (hs : schB S = true) (he : edB S E = true) (hS : SIn w x c1 S) (hE : IIn w y E) :
    Calls Tryd.prog 21 #[.slice x S.length c1, .agg #[.slice y E.length c2]] w fun e w' => e = .returned (.string (edT S E)) ∧ Below w.heap.size w w' := by
  have hSh := Lib.hid hS
  have hEh := Lib.hid hE
  have hsh := Lib.hid hs
  have heh := Lib.hid he
  have hlE := Lib.hid (ed_len he)
  have hE6 : E.length ≤ 6 := by have := hlE.out; have := (schB_len hs).2; omega
  have hiv6 : (ivL S E).length ≤ 6 := by have : (ivL S E).length ≤ S.length := pkUp_len _ _; have := (schB_len hs).2; omega
  have hel := Lib.hid (show (epU S E S.length).length = (ivL S E).length by rw [← epK_all]; unfold epK; rw [List.length_map, List.take_length])
  have hq := Lib.hid (QB.new w y E.length c2 32)
  clear hS hE hs he
  go_enter Tryd.func21, Tryd.ntmps21
  go_wp2_with fail
  refine (eInvolved_any _ _ _ _ S E _ hsh.out heh.out (hSh.out.below (by exact (by repeat (first | exact Below.refl _ _ | assumption | refine Below.drew ?_ | refine below_drewN ?_ _ | refine Below.alloc' ?_ _ | (refine Below.setCell ?_ (by first | omega | (simp; done) | (simp; omega) | exact Below.size (by assumption) | exact Nat.le_trans (Below.size (by assumption)) (by simp)) _) | (refine Below.via' ?_ (by assumption)) | (refine Below.alloc ?_ (by first | omega | (simp; done) | (simp; omega) | exact Below.size (by assumption) | exact Nat.le_trans (Below.size (by assumption)) (by simp)) _) | (refine Below.via ?_ (by assumption) (by first | omega | (simp; done) | (simp; omega) | exact Below.size (by assumption) | exact Nat.le_trans (Below.size (by assumption)) (by simp))))))) (hEh.out.below (by exact (by repeat (first | exact Below.refl _ _ | assumption | refine Below.drew ?_ | refine below_drewN ?_ _ | refine Below.alloc' ?_ _ | (refine Below.setCell ?_ (by first | omega | (simp; done) | (simp; omega) | exact Below.size (by assumption) | exact Nat.le_trans (Below.size (by assumption)) (by simp)) _) | (refine Below.via' ?_ (by assumption)) | (refine Below.alloc ?_ (by first | omega | (simp; done) | (simp; omega) | exact Below.size (by assumption) | exact Nat.le_trans (Below.size (by assumption)) (by simp)) _) | (refine Below.via ?_ (by assumption) (by first | omega | (simp; done) | (simp; omega) | exact Below.size (by assumption) | exact Nat.le_trans (Below.size (by assumption)) (by simp)))))))).mono ?_
  rintro e w2 ⟨u2, rfl, ho2, hb2⟩
  obtain ⟨x2, n2, rfl, -, -⟩ := (OwR.of ho2).form
  have A2 := Lib.hid (Rd.of_own ho2)
  have hq2 := Lib.hid (hq.out.below hb2)
  have B2 : Below w.heap.size w w2 := (by repeat (first | exact Below.refl _ _ | assumption | refine Below.drew ?_ | refine below_drewN ?_ _ | refine Below.alloc' ?_ _ | (refine Below.setCell ?_ (by first | omega | (simp; done) | (simp; omega) | exact Below.size (by assumption) | exact Nat.le_trans (Below.size (by assumption)) (by simp)) _) | (refine Below.via' ?_ (by assumption)) | (refine Below.alloc ?_ (by first | omega | (simp; done) | (simp; omega) | exact Below.size (by assumption) | exact Nat.le_trans (Below.size (by assumption)) (by simp)) _) | (refine Below.via ?_ (by assumption) (by first | omega | (simp; done) | (simp; omega) | exact Below.size (by assumption) | exact Nat.le_trans (Below.size (by assumption)) (by simp)))))
  clear ho2 hb2
  go_wp2
  go_loopw [5, 14] (fun q c wr => ∃ k : Nat, k ≤ (ivL S E).length ∧ c = .int .i64 k ∧ q = .string (tK S E k) ∧ Below w2.heap.size w2 wr) (fun _ c _ => (ivL S E).length - (intOf c).toNat)
  case atStart => exact ⟨0, by omega, by go_num, by rw [tK_zero], Below.refl _ _⟩
  case round =>
    obtain ⟨k, hk, rfl, rfl, hb⟩ := hrel
    obtain ⟨wo, rfl⟩ : ∃ q : World, q = wr := ⟨_, rfl⟩
    have hBr : Below w.heap.size w wo := B2.trans (hb.mono B2.size)
    by_cases hlt : k < (ivL S E).length
    · obtain ⟨i, nm, lv, v, hIk, hiS, hSi, hEi, x1, x3⟩ := iv_get hsh.out heh.out hlt
      obtain ⟨bl, off, z, hx2, hbl, hIk2, hc0⟩ := (A2.out.below hb).int hlt
      obtain rfl := Option.some.inj (hIk2.symm.trans hIk)
      obtain ⟨bl3, off3, nm', lv', rfl, hbl3, hSi2, hc3, hc4⟩ := (hSh.out.rd.below hBr).var hiS
      obtain ⟨bl2, off2, v', rfl, hbl2, hEi2, hc2⟩ := (hEh.out.below hBr).2.2.int (i := i) (by have := hlE.out; omega)
      obtain ⟨rfl, rfl⟩ : nm' = nm ∧ lv' = lv := by
        have := Option.some.inj (hSi2.symm.trans hSi)
        injection this with a b
        exact ⟨a, b⟩
      obtain rfl := Option.some.inj (hEi2.symm.trans hEi)
      clear hSi2 hEi2 hIk2
      obtain ⟨ka, kb, kc⟩ := hq2.out.below hb
      have hpa := Lib.hid (paS_at hSi hEi)
      have hns := name_size hsh.out hSi
      have htz := tK_size (E := E) hsh.out k
      have hk' : (k : Int) < ((ivL S E).length : Int) := by omega
      have hk0 : (0 : Int) ≤ (k : Int) := by omega
      have hi' : (i : Int) < (S.length : Int) := by omega
      have hi2 : (i : Int) < (E.length : Int) := by have := hlE.out; omega
      have hi0 : (0 : Int) ≤ (i : Int) := by omega
      have k1 : (⟨#[61]⟩ : ByteArray).size = 1 := rfl
      have k2 : (⟨#[32]⟩ : ByteArray).size = 1 := rfl
      have k3 : (⟨#[]⟩ : ByteArray).size = 0 := rfl
      have hs1 : ¬ 9223372036854775807 < nm'.size + (⟨#[61]⟩ : ByteArray).size := by rw [k1]; omega
      have hs3 : ¬ 9223372036854775807 < nm'.size + 1 := by omega
      have hx2h := Lib.hid hx2
      replace hSi := Lib.hid hSi
      replace hEi := Lib.hid hEi
      clear hx2
      rw [hx2h.out]
      rcases Nat.eq_zero_or_pos k with h0 | h0
      · have htk : tK S E k = ⟨#[]⟩ := by rw [h0, tK_zero]
        have hnx : Hid (paS S E i = tK S E (k + 1)) := by
          unfold Hid
          subst h0
          exact (tK_first hIk).symm
        have hs5 : ¬ 9223372036854775807 < (⟨#[]⟩ : ByteArray).size + (nm' ++ ⟨#[61]⟩).size := by rw [ByteArray.size_append, k1, k3]; omega
        have hs6 : ¬ 9223372036854775807 < 0 + (nm'.size + 1) := by omega
        rw [htk]
        replace htk := Lib.hid htk
        replace h0 := Lib.hid h0
        replace hIk := Lib.hid hIk
        go_wp2_with fail
        refine (eLevels_any _ _ (by omega) x3).mono ?_
        rintro e w4 ⟨u4, rfl, ho4, hb4⟩
        obtain ⟨x4, n4, rfl, -, -⟩ := (OwR.of ho4).form
        have A4 := Lib.hid (Rd.of_own ho4)
        have hB4 : Below w2.heap.size w2 w4 := Below.via' hb hb4
        clear ho4 hb4 ka kb kc
        have hsz := Lib.hid (show (⟨#[]⟩ ++ (nm' ++ ⟨#[61]⟩)).size ≤ 200 from by rw [ByteArray.size_append, ByteArray.size_append] <;> (try rw [ByteArray.size_append]) <;> omega)
        obtain ⟨bs, hbs⟩ : ∃ bs : ByteArray, bs = ⟨#[]⟩ ++ (nm' ++ ⟨#[61]⟩) := ⟨_, rfl⟩
        rw [← hbs] at hsz ⊢
        replace hbs := Lib.hid hbs
        go_wp2
        go_loopw [5, 37] (fun q c wx => ∃ (m : Nat) (t : ByteArray), m ≤ (lvsL v').length ∧ c = .int .i64 m ∧ q = .string t ∧ Hid (t = bs ++ stM v' m) ∧ t.size ≤ 300 ∧ Below w4.heap.size w4 wx) (fun _ c _ => (lvsL v').length - (intOf c).toNat)
        case atStart => exact ⟨0, bs, by omega, by go_num, rfl, (by unfold Hid; rw [stM_zero]; exact ByteArray.append_empty.symm), (by have := hsz.out; omega), Below.refl _ _⟩
        case round =>
          obtain ⟨m, t, hm, rfl, rfl, ht, htz, hbx⟩ := hrel
          by_cases hlm : m < (lvsL v').length
          · obtain ⟨bl5, off5, l, hx5, hbl5, hA, hc5⟩ := (A4.out.below hbx).int hlm
            have hl := lvs_i64 v' l (List.mem_of_getElem? hA)
            have hl1 := lvs_one (List.mem_of_getElem? hA)
            have hlm' : (m : Int) < ((lvsL v').length : Int) := by omega
            have hm0 : (0 : Int) ≤ (m : Int) := by omega
            have hln := lvsL_len v'
            have k1 : (⟨#[44]⟩ : ByteArray).size = 1 := rfl
            have g1 : ¬ 9223372036854775807 < t.size + (⟨#[44]⟩ : ByteArray).size := by rw [k1]; omega
            have g2 : ¬ 9223372036854775807 < (t ++ ⟨#[44]⟩).size + (numZ l).size := by rw [ByteArray.size_append, k1]; omega
            have g3 : ¬ 9223372036854775807 < t.size + 1 := by omega
            have g4 : ¬ 9223372036854775807 < t.size + 1 + (numZ l).size := by omega
            have g5 : ¬ 9223372036854775807 < t.size + (numZ l).size := by omega
            have hst := Lib.hid (stM_size v' (m + 1))
            clear k1
            have hx5h := Lib.hid hx5
            replace hl1 := Lib.hid hl1
            clear hx5
            rw [hx5h.out]
            rcases Nat.eq_zero_or_pos m with h0 | h0
            · have hnx : Hid (t ++ numZ l = bs ++ stM v' (m + 1)) := by
                unfold Hid
                rw [ht.out]
                subst h0
                rw [stM_zero, stM_first hA]
                congr 1 <;> exact ByteArray.append_empty
              have hgt : ¬ ((0 : Int) < (m : Int)) := by omega
              replace hA := Lib.hid hA
              replace h0 := Lib.hid h0
              go_wp2_with fail
              refine (l1Num_any 8 l _ (by omega) (by omega) (by omega)).mono ?_
              rintro e w6 ⟨rfl, hb6⟩
              go_wp2
              go_roundw
              case rel => exact ⟨m + 1, _, by omega, by go_num, rfl, hnx.out, (by rw [hnx.out, ByteArray.size_append]; have := hst.out; have := hsz.out; omega), (by repeat (first | exact Below.refl _ _ | assumption | refine Below.drew ?_ | refine below_drewN ?_ _ | refine Below.alloc' ?_ _ | (refine Below.setCell ?_ (by first | omega | (simp; done) | (simp; omega) | exact Below.size (by assumption) | exact Nat.le_trans (Below.size (by assumption)) (by simp)) _) | (refine Below.via' ?_ (by assumption)) | (refine Below.alloc ?_ (by first | omega | (simp; done) | (simp; omega) | exact Below.size (by assumption) | exact Nat.le_trans (Below.size (by assumption)) (by simp)) _) | (refine Below.via ?_ (by assumption) (by first | omega | (simp; done) | (simp; omega) | exact Below.size (by assumption) | exact Nat.le_trans (Below.size (by assumption)) (by simp)))))⟩
              case measure => simp [intOf]; omega
            · have hnx : Hid (t ++ ⟨#[44]⟩ ++ numZ l = bs ++ stM v' (m + 1)) := by
                unfold Hid
                rw [ht.out, stM_next h0 hA]
                simp only [ByteArray.append_assoc]
              have hgt : (0 : Int) < (m : Int) := by omega
              replace hA := Lib.hid hA
              go_wp2_with fail
              refine (l1Num_any 8 l _ (by omega) (by omega) (by omega)).mono ?_
              rintro e w6 ⟨rfl, hb6⟩
              go_wp2
              go_roundw
              case rel => exact ⟨m + 1, _, by omega, by go_num, rfl, hnx.out, (by rw [hnx.out, ByteArray.size_append]; have := hst.out; have := hsz.out; omega), (by repeat (first | exact Below.refl _ _ | assumption | refine Below.drew ?_ | refine below_drewN ?_ _ | refine Below.alloc' ?_ _ | (refine Below.setCell ?_ (by first | omega | (simp; done) | (simp; omega) | exact Below.size (by assumption) | exact Nat.le_trans (Below.size (by assumption)) (by simp)) _) | (refine Below.via' ?_ (by assumption)) | (refine Below.alloc ?_ (by first | omega | (simp; done) | (simp; omega) | exact Below.size (by assumption) | exact Nat.le_trans (Below.size (by assumption)) (by simp)) _) | (refine Below.via ?_ (by assumption) (by first | omega | (simp; done) | (simp; omega) | exact Below.size (by assumption) | exact Nat.le_trans (Below.size (by assumption)) (by simp)))))⟩
              case measure => simp [intOf]; omega
          · have hmm : m = (lvsL v').length := by omega
            have hfin : Hid (t = tK S E (k + 1)) := by
              unfold Hid
              rw [ht.out, hmm, stM_all, hbs.out]
              exact (by rw [← hnx.out, hpa.out]; unfold paT; congr 1 <;> exact ByteArray.empty_append)
            replace hmm := Lib.hid hmm
            have hlm' : ¬ (m : Int) < ((lvsL v').length : Int) := by omega
            go_wp2
            go_roundw
            case rel => exact ⟨k + 1, by omega, by go_num, by rw [hfin.out], Below.via' hB4 hbx⟩
            case measure => simp [intOf]; omega
      · obtain ⟨e1, e2, e3, e4⟩ := str_ne (tK_pos hsh.out heh.out h0 hk)
        have hnx : Hid (tK S E k ++ ⟨#[32]⟩ ++ paS S E i = tK S E (k + 1)) := (tK_next h0 hIk).symm
        have hs5 : ¬ 9223372036854775807 < (tK S E k).size + (⟨#[32]⟩ : ByteArray).size := by rw [k2]; omega
        have hs6 : ¬ 9223372036854775807 < (tK S E k).size + 1 := by omega
        have hs7 : ¬ 9223372036854775807 < (tK S E k ++ ⟨#[32]⟩).size + (nm' ++ ⟨#[61]⟩).size := by rw [ByteArray.size_append, ByteArray.size_append, k1, k2]; omega
        have hs8 : ¬ 9223372036854775807 < (tK S E k).size + 1 + (nm'.size + 1) := by omega
        replace hIk := Lib.hid hIk
        replace h0 := Lib.hid h0
        go_wp2_with fail
        refine (eLevels_any _ _ (by omega) x3).mono ?_
        rintro e w4 ⟨u4, rfl, ho4, hb4⟩
        obtain ⟨x4, n4, rfl, -, -⟩ := (OwR.of ho4).form
        have A4 := Lib.hid (Rd.of_own ho4)
        have hB4 : Below w2.heap.size w2 w4 := Below.via' hb hb4
        clear ho4 hb4 ka kb kc
        have hsz := Lib.hid (show (tK S E k ++ ⟨#[32]⟩ ++ (nm' ++ ⟨#[61]⟩)).size ≤ 200 from by rw [ByteArray.size_append, ByteArray.size_append] <;> (try rw [ByteArray.size_append]) <;> omega)
        obtain ⟨bs, hbs⟩ : ∃ bs : ByteArray, bs = tK S E k ++ ⟨#[32]⟩ ++ (nm' ++ ⟨#[61]⟩) := ⟨_, rfl⟩
        rw [← hbs] at hsz ⊢
        replace hbs := Lib.hid hbs
        go_wp2
        go_loopw [5, 37] (fun q c wx => ∃ (m : Nat) (t : ByteArray), m ≤ (lvsL v').length ∧ c = .int .i64 m ∧ q = .string t ∧ Hid (t = bs ++ stM v' m) ∧ t.size ≤ 300 ∧ Below w4.heap.size w4 wx) (fun _ c _ => (lvsL v').length - (intOf c).toNat)
        case atStart => exact ⟨0, bs, by omega, by go_num, rfl, (by unfold Hid; rw [stM_zero]; exact ByteArray.append_empty.symm), (by have := hsz.out; omega), Below.refl _ _⟩
        case round =>
          obtain ⟨m, t, hm, rfl, rfl, ht, htz, hbx⟩ := hrel
          by_cases hlm : m < (lvsL v').length
          · obtain ⟨bl5, off5, l, hx5, hbl5, hA, hc5⟩ := (A4.out.below hbx).int hlm
            have hl := lvs_i64 v' l (List.mem_of_getElem? hA)
            have hl1 := lvs_one (List.mem_of_getElem? hA)
            have hlm' : (m : Int) < ((lvsL v').length : Int) := by omega
            have hm0 : (0 : Int) ≤ (m : Int) := by omega
            have hln := lvsL_len v'
            have k1 : (⟨#[44]⟩ : ByteArray).size = 1 := rfl
            have g1 : ¬ 9223372036854775807 < t.size + (⟨#[44]⟩ : ByteArray).size := by rw [k1]; omega
            have g2 : ¬ 9223372036854775807 < (t ++ ⟨#[44]⟩).size + (numZ l).size := by rw [ByteArray.size_append, k1]; omega
            have g3 : ¬ 9223372036854775807 < t.size + 1 := by omega
            have g4 : ¬ 9223372036854775807 < t.size + 1 + (numZ l).size := by omega
            have g5 : ¬ 9223372036854775807 < t.size + (numZ l).size := by omega
            have hst := Lib.hid (stM_size v' (m + 1))
            clear k1
            have hx5h := Lib.hid hx5
            replace hl1 := Lib.hid hl1
            clear hx5
            rw [hx5h.out]
            rcases Nat.eq_zero_or_pos m with h0 | h0
            · have hnx : Hid (t ++ numZ l = bs ++ stM v' (m + 1)) := by
                unfold Hid
                rw [ht.out]
                subst h0
                rw [stM_zero, stM_first hA]
                congr 1 <;> exact ByteArray.append_empty
              have hgt : ¬ ((0 : Int) < (m : Int)) := by omega
              replace hA := Lib.hid hA
              replace h0 := Lib.hid h0
              go_wp2_with fail
              refine (l1Num_any 8 l _ (by omega) (by omega) (by omega)).mono ?_
              rintro e w6 ⟨rfl, hb6⟩
              go_wp2
              go_roundw
              case rel => exact ⟨m + 1, _, by omega, by go_num, rfl, hnx.out, (by rw [hnx.out, ByteArray.size_append]; have := hst.out; have := hsz.out; omega), (by repeat (first | exact Below.refl _ _ | assumption | refine Below.drew ?_ | refine below_drewN ?_ _ | refine Below.alloc' ?_ _ | (refine Below.setCell ?_ (by first | omega | (simp; done) | (simp; omega) | exact Below.size (by assumption) | exact Nat.le_trans (Below.size (by assumption)) (by simp)) _) | (refine Below.via' ?_ (by assumption)) | (refine Below.alloc ?_ (by first | omega | (simp; done) | (simp; omega) | exact Below.size (by assumption) | exact Nat.le_trans (Below.size (by assumption)) (by simp)) _) | (refine Below.via ?_ (by assumption) (by first | omega | (simp; done) | (simp; omega) | exact Below.size (by assumption) | exact Nat.le_trans (Below.size (by assumption)) (by simp)))))⟩
              case measure => simp [intOf]; omega
            · have hnx : Hid (t ++ ⟨#[44]⟩ ++ numZ l = bs ++ stM v' (m + 1)) := by
                unfold Hid
                rw [ht.out, stM_next h0 hA]
                simp only [ByteArray.append_assoc]
              have hgt : (0 : Int) < (m : Int) := by omega
              replace hA := Lib.hid hA
              go_wp2_with fail
              refine (l1Num_any 8 l _ (by omega) (by omega) (by omega)).mono ?_
              rintro e w6 ⟨rfl, hb6⟩
              go_wp2
              go_roundw
              case rel => exact ⟨m + 1, _, by omega, by go_num, rfl, hnx.out, (by rw [hnx.out, ByteArray.size_append]; have := hst.out; have := hsz.out; omega), (by repeat (first | exact Below.refl _ _ | assumption | refine Below.drew ?_ | refine below_drewN ?_ _ | refine Below.alloc' ?_ _ | (refine Below.setCell ?_ (by first | omega | (simp; done) | (simp; omega) | exact Below.size (by assumption) | exact Nat.le_trans (Below.size (by assumption)) (by simp)) _) | (refine Below.via' ?_ (by assumption)) | (refine Below.alloc ?_ (by first | omega | (simp; done) | (simp; omega) | exact Below.size (by assumption) | exact Nat.le_trans (Below.size (by assumption)) (by simp)) _) | (refine Below.via ?_ (by assumption) (by first | omega | (simp; done) | (simp; omega) | exact Below.size (by assumption) | exact Nat.le_trans (Below.size (by assumption)) (by simp)))))⟩
              case measure => simp [intOf]; omega
          · have hmm : m = (lvsL v').length := by omega
            have hfin : Hid (t = tK S E (k + 1)) := by
              unfold Hid
              rw [ht.out, hmm, stM_all, hbs.out]
              exact (by rw [← hnx.out, hpa.out]; unfold paT; simp only [ByteArray.append_assoc])
            replace hmm := Lib.hid hmm
            have hlm' : ¬ (m : Int) < ((lvsL v').length : Int) := by omega
            go_wp2
            go_roundw
            case rel => exact ⟨k + 1, by omega, by go_num, by rw [hfin.out], Below.via' hB4 hbx⟩
            case measure => simp [intOf]; omega
    · have hij : k = (ivL S E).length := by omega
      have hk' : ¬ (k : Int) < ((ivL S E).length : Int) := by omega
      rcases Nat.eq_zero_or_pos k with h0 | h0
      · have hte := Lib.hid (edT_all (S := S) (E := E) (by rw [hel.out, ← hij, h0]))
        rw [show tK S E k = ⟨#[]⟩ by rw [h0, tK_zero]]
        replace h0 := Lib.hid h0
        replace hij := Lib.hid hij
        go_wp2
        go_ret
        exact ⟨ret_str hte.out.symm, hBr⟩
      · obtain ⟨e1, e2, e3, e4⟩ := str_ne (tK_pos hsh.out heh.out h0 hk)
        have hte : Hid (edT S E = tK S E k) := by
          unfold Hid
          rw [edT_some (by rw [hel.out, ← hij]; omega)]
          unfold tK
          rw [hij, epK_all]
        replace h0 := Lib.hid h0
        replace hij := Lib.hid hij
        go_wp2
        go_ret
        exact ⟨ret_str hte.out.symm, hBr⟩
set_option maxHeartbeats 1000000 in
theorem sET_x (x y : Option Addr) (c1 c2 : Nat) (S : List (ByteArray × Int)) (E : List Int) (w : World) (hS : SIn w x c1 S) (hE : IIn w y E) :
    Calls Tryd.prog 7 #[.slice x S.length c1, .agg #[.slice y E.length c2]] w fun e w' => e = .returned (.tuple #[.string (edR S E), .bool (seB S E)]) ∧ Below w.heap.size w w' := by
  have hSh := Lib.hid hS
  have hEh := Lib.hid hE
  have hm := hS.1
  clear hS hE
  have hq := Lib.hid (QB.new w y E.length c2 32)
  have hb00 : Below w.heap.size w (w.alloc (.cells #[.slice y E.length c2] 32)) := (by repeat (first | exact Below.refl _ _ | assumption | refine Below.drew ?_ | refine below_drewN ?_ _ | refine Below.alloc' ?_ _ | (refine Below.setCell ?_ (by first | omega | (simp; done) | (simp; omega) | exact Below.size (by assumption) | exact Nat.le_trans (Below.size (by assumption)) (by simp)) _) | (refine Below.via' ?_ (by assumption)) | (refine Below.alloc ?_ (by first | omega | (simp; done) | (simp; omega) | exact Below.size (by assumption) | exact Nat.le_trans (Below.size (by assumption)) (by simp)) _) | (refine Below.via ?_ (by assumption) (by first | omega | (simp; done) | (simp; omega) | exact Below.size (by assumption) | exact Nat.le_trans (Below.size (by assumption)) (by simp)))))
  have hL : Hid (EIn ((w.alloc (.cells #[.slice y E.length c2] 32)).alloc (.cells #[.slice y E.length c2] 32)) (some ⟨w.heap.size + 1, 0, none⟩) [⟨0, 0, y, c2, E⟩]) := by
    have h0 := eIn_one (c := c2) 32 (hEh.out.below hb00)
    rwa [World.size_alloc] at h0
  have hb0 : Below (w.alloc (.cells #[.slice y E.length c2] 32)).heap.size (w.alloc (.cells #[.slice y E.length c2] 32)) ((w.alloc (.cells #[.slice y E.length c2] 32)).alloc (.cells #[.slice y E.length c2] 32)) := (by repeat (first | exact Below.refl _ _ | assumption | refine Below.drew ?_ | refine below_drewN ?_ _ | refine Below.alloc' ?_ _ | (refine Below.setCell ?_ (by first | omega | (simp; done) | (simp; omega) | exact Below.size (by assumption) | exact Nat.le_trans (Below.size (by assumption)) (by simp)) _) | (refine Below.via' ?_ (by assumption)) | (refine Below.alloc ?_ (by first | omega | (simp; done) | (simp; omega) | exact Below.size (by assumption) | exact Nat.le_trans (Below.size (by assumption)) (by simp)) _) | (refine Below.via ?_ (by assumption) (by first | omega | (simp; done) | (simp; omega) | exact Below.size (by assumption) | exact Nat.le_trans (Below.size (by assumption)) (by simp)))))
  replace hb0 := Lib.hid hb0
  have hel := Lib.hid (el_one S E)
  go_enter Tryd.func7, Tryd.ntmps7
  go_wp2_with fail
  refine (eList_any _ _ _ _ S [⟨0, 0, y, c2, E⟩] _ (hSh.out.below (by exact (by repeat (first | exact Below.refl _ _ | assumption | refine Below.drew ?_ | refine below_drewN ?_ _ | refine Below.alloc' ?_ _ | (refine Below.setCell ?_ (by first | omega | (simp; done) | (simp; omega) | exact Below.size (by assumption) | exact Nat.le_trans (Below.size (by assumption)) (by simp)) _) | (refine Below.via' ?_ (by assumption)) | (refine Below.alloc ?_ (by first | omega | (simp; done) | (simp; omega) | exact Below.size (by assumption) | exact Nat.le_trans (Below.size (by assumption)) (by simp)) _) | (refine Below.via ?_ (by assumption) (by first | omega | (simp; done) | (simp; omega) | exact Below.size (by assumption) | exact Nat.le_trans (Below.size (by assumption)) (by simp))))))) hL.out).mono ?_
  rintro e w1 ⟨rfl, hb1⟩
  have hq2 := Lib.hid ((hq.out.below hb0.out).below hb1)
  obtain ⟨ka2, kb2, kc2⟩ := hq2.out
  rw [show eM [⟨0, 0, y, c2, E⟩] = [E] from rfl, hel.out]
  have B2 : Below w.heap.size w w1 := (by repeat (first | exact Below.refl _ _ | assumption | refine Below.drew ?_ | refine below_drewN ?_ _ | refine Below.alloc' ?_ _ | (refine Below.setCell ?_ (by first | omega | (simp; done) | (simp; omega) | exact Below.size (by assumption) | exact Nat.le_trans (Below.size (by assumption)) (by simp)) _) | (refine Below.via' ?_ (by assumption)) | (refine Below.alloc ?_ (by first | omega | (simp; done) | (simp; omega) | exact Below.size (by assumption) | exact Nat.le_trans (Below.size (by assumption)) (by simp)) _) | (refine Below.via ?_ (by assumption) (by first | omega | (simp; done) | (simp; omega) | exact Below.size (by assumption) | exact Nat.le_trans (Below.size (by assumption)) (by simp)))))
  cases hs : seB S E
  · have hv := Lib.hid hs
    go_wp2
    go_ret2
    exact retS_no hv.out (by repeat (first | exact Below.refl _ _ | assumption | refine Below.drew ?_ | refine below_drewN ?_ _ | refine Below.alloc' ?_ _ | (refine Below.setCell ?_ (by first | omega | (simp; done) | (simp; omega) | exact Below.size (by assumption) | exact Nat.le_trans (Below.size (by assumption)) (by simp)) _) | (refine Below.via' ?_ (by assumption)) | (refine Below.alloc ?_ (by first | omega | (simp; done) | (simp; omega) | exact Below.size (by assumption) | exact Nat.le_trans (Below.size (by assumption)) (by simp)) _) | (refine Below.via ?_ (by assumption) (by first | omega | (simp; done) | (simp; omega) | exact Below.size (by assumption) | exact Nat.le_trans (Below.size (by assumption)) (by simp)))))
  have hsh := Lib.hid (se_get hs).1
  have heh := Lib.hid (se_get hs).2
  have hv := Lib.hid hs
  have hlE := Lib.hid (ed_len heh.out)
  have hl6 := (schB_len hsh.out).2
  have hE6 : E.length ≤ 6 := by have := hlE.out; omega
  clear hs
  go_wp2_with fail
  refine (eText_any _ _ _ _ S E _ hsh.out heh.out (hSh.out.below (by exact (by repeat (first | exact Below.refl _ _ | assumption | refine Below.drew ?_ | refine below_drewN ?_ _ | refine Below.alloc' ?_ _ | (refine Below.setCell ?_ (by first | omega | (simp; done) | (simp; omega) | exact Below.size (by assumption) | exact Nat.le_trans (Below.size (by assumption)) (by simp)) _) | (refine Below.via' ?_ (by assumption)) | (refine Below.alloc ?_ (by first | omega | (simp; done) | (simp; omega) | exact Below.size (by assumption) | exact Nat.le_trans (Below.size (by assumption)) (by simp)) _) | (refine Below.via ?_ (by assumption) (by first | omega | (simp; done) | (simp; omega) | exact Below.size (by assumption) | exact Nat.le_trans (Below.size (by assumption)) (by simp))))))) (hEh.out.below (by exact (by repeat (first | exact Below.refl _ _ | assumption | refine Below.drew ?_ | refine below_drewN ?_ _ | refine Below.alloc' ?_ _ | (refine Below.setCell ?_ (by first | omega | (simp; done) | (simp; omega) | exact Below.size (by assumption) | exact Nat.le_trans (Below.size (by assumption)) (by simp)) _) | (refine Below.via' ?_ (by assumption)) | (refine Below.alloc ?_ (by first | omega | (simp; done) | (simp; omega) | exact Below.size (by assumption) | exact Nat.le_trans (Below.size (by assumption)) (by simp)) _) | (refine Below.via ?_ (by assumption) (by first | omega | (simp; done) | (simp; omega) | exact Below.size (by assumption) | exact Nat.le_trans (Below.size (by assumption)) (by simp)))))))).mono ?_
  rintro e w3 ⟨rfl, hb3⟩
  go_wp2
  go_ret2
  exact retS_yes hv.out rfl (by repeat (first | exact Below.refl _ _ | assumption | refine Below.drew ?_ | refine below_drewN ?_ _ | refine Below.alloc' ?_ _ | (refine Below.setCell ?_ (by first | omega | (simp; done) | (simp; omega) | exact Below.size (by assumption) | exact Nat.le_trans (Below.size (by assumption)) (by simp)) _) | (refine Below.via' ?_ (by assumption)) | (refine Below.alloc ?_ (by first | omega | (simp; done) | (simp; omega) | exact Below.size (by assumption) | exact Nat.le_trans (Below.size (by assumption)) (by simp)) _) | (refine Below.via ?_ (by assumption) (by first | omega | (simp; done) | (simp; omega) | exact Below.size (by assumption) | exact Nat.le_trans (Below.size (by assumption)) (by simp)))))
end Go.Proofs.YtmbchahjgefbpaaDoor
