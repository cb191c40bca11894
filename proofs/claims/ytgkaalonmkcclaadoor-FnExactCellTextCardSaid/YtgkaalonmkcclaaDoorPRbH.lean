import Derived.Test.YtgkaalonmkcclaaDoorPRbG
import Derived.Test.YtgkaalonmkcclaaDoorPRbC
import Derived.Test.YtgkaalonmkcclaaDoorPRbF
import Derived.Test.YtgkaalonmkcclaaDoorAtJ
import Derived.Deep.RegionHeld
namespace Go.Proofs.YtgkaalonmkcclaaDoor
open Go.RowKit
set_option maxRecDepth 100000

theorem jnS_bound {b : UInt8} {L : List ByteArray} {c n : Nat} (h : ∀ t ∈ L, t.size + 1 ≤ c) (hn : L.length ≤ n) : (jnS b L).size ≤ n * c := Nat.le_trans (jnS_size h) (Nat.mul_le_mul_right _ hn)
theorem numZ_2 {l : Int} (h0 : 0 ≤ l) (h1 : l < 100) : (numZ l).size ≤ 2 := by
  by_cases h : l < 10
  · rw [numZ_small h0 h, byteT_len]; omega
  · rw [numZ_big h, numZ_small (by omega) (by omega), ByteArray.size_append, byteT_len, byteT_len]; omega
theorem tt_size {P : List Int} {S : List (ByteArray × Int)} {l : Int} {F W : List Int} {m : Int} (h : TgP P S l F W m) : (jnS 32 (tw3 S l F W m ++ cwU S W S.length)).size ≤ 10000000 := by
  have h6 := (schB_len h.s).2
  have hlv := tg_lv h
  have hF6 : (nsL S F).length ≤ 6 := by
    have := ptS_len (tbS_ok h.s h.r)
    unfold nsL
    rw [List.length_map]
    omega
  have hns : (jnS 44 (nsL S F)).size ≤ 6 * 9 := jnS_bound (by
    intro t ht
    obtain ⟨p, hp, rfl⟩ := List.mem_map.1 ht
    obtain ⟨k, hk, hk2⟩ := List.getElem_of_mem hp
    obtain ⟨i, hi, hSi⟩ := tbS_get h.r (k := k) (p := p) (by rw [List.getElem?_eq_getElem hk, hk2])
    have := nm_size h.s (List.mem_of_getElem? hSi)
    omega) hF6
  have hnum : (numZ l).size ≤ 2 := by
    exact numZ_2 hlv.1 (by omega)
  have hnm := naA_size h.s m.toNat
  have hall : ∀ t ∈ tw3 S l F W m ++ cwU S W S.length, t.size + 1 ≤ 60 := by
    have h0 : ∀ t ∈ tw0 S m, t.size + 1 ≤ 60 := by
      unfold tw0
      split
      · intro t ht; obtain rfl := List.mem_singleton.1 ht; decide
      · intro t ht
        rcases List.mem_cons.1 ht with rfl | ht
        · decide
        · obtain rfl := List.mem_singleton.1 ht; omega
    have h1 : ∀ t ∈ tw1 S l m, t.size + 1 ≤ 60 := by
      unfold tw1
      intro t ht
      rcases List.mem_append.1 ht with ht | ht
      · exact h0 t ht
      · rcases List.mem_cons.1 ht with rfl | ht
        · decide
        · obtain rfl := List.mem_singleton.1 ht; omega
    have h2 : ∀ t ∈ tw2 S l F m, t.size + 1 ≤ 60 := by
      unfold tw2
      split
      · exact h1
      · intro t ht
        rcases List.mem_append.1 ht with ht | ht
        · exact h1 t ht
        · rcases List.mem_cons.1 ht with rfl | ht
          · decide
          · obtain rfl := List.mem_singleton.1 ht; omega
    have h3 : ∀ t ∈ tw3 S l F W m, t.size + 1 ≤ 60 := by
      unfold tw3
      split
      · exact h2
      · intro t ht
        rcases List.mem_append.1 ht with ht | ht
        · exact h2 t ht
        · obtain rfl := List.mem_singleton.1 ht; decide
    intro t ht
    rcases List.mem_append.1 ht with ht | ht
    · exact h3 t ht
    · have := cwU_size h.s S.length t ht; omega
  have hn3 := tw3_len (S := S) (l := l) (F := F) (W := W) (m := m)
  have hnc := cwU_len S W S.length
  have := jnS_bound (b := 32) hall (n := 13) (by rw [List.length_append]; omega)
  omega
set_option maxHeartbeats 8000000 in
theorem tt000 (y x z : Option Addr) (c1 c2 c3 : Nat) (P : List Int) (S : List (ByteArray × Int)) (l : Int) (F W : List Int) (m : Int) (w : World) (htg : TgP P S l F W m) (hS : SIn w y c1 S) (hT : TIn w x z F W) (hm : Hid (m = -1)) (hF0 : Hid (F.length = 0)) (hc0 : Hid ((cwU S W S.length).length = 0)) :
    Calls Tryd.prog 25 #[.slice y S.length c1, .agg #[.int .i64 l, .slice x F.length c2, .slice z W.length c3, .int .i64 m]] w fun e w' => e = .returned (.string (ttT S l F W m)) ∧ Below w.heap.size w w' := by
  obtain ⟨i0, hii, hz0, hz1, hz2⟩ := info_parts Tryd.infoStr
  have hSh := Lib.hid hS
  have hFh := Lib.hid hT.1
  have hWh := Lib.hid hT.2
  have hth := Lib.hid htg
  have hlv := tg_lv htg
  have h6 := (schB_len htg.s).2
  have hm1 := htg.m1
  have hm0 := htg.m0
  have hjz := Lib.hid (tt_size (l := l) (F := F) (W := W) (m := m) htg)
  clear hS hT htg
  have q0 := Lib.hid (TQ.new w l x F.length c2 z W.length c3 m 37)
  have e1 : (m != -1) = false := by rw [hm.out]; rfl
  obtain ⟨wa, hwa⟩ : ∃ wa, wa = (w.alloc (.cells #[.int .i64 l, .slice x F.length c2, .slice z W.length c3, .int .i64 m] 37)).alloc (.cells #[.string ⟨#[99, 111, 117, 110, 116]⟩] 9) := ⟨_, rfl⟩
  have ow0 : wa.ownsRow (w.heap.size + 1) 9 1 (.slice (some ⟨w.heap.size + 1, 0, none⟩) 1 1) (tw0 S m).length (tC (tw0 S m)) := by
    rw [tw0_no hm.out, hwa]
    have h0 := World.ownsRow_lit (base := w.heap.size + 1) (e := 9) (size := 1) (w.alloc (.cells #[.int .i64 l, .slice x F.length c2, .slice z W.length c3, .int .i64 m] 37)) #[.string ⟨#[99, 111, 117, 110, 116]⟩] 1 (by simp) (by unfold maxLen; omega) rfl
    rw [World.size_alloc] at h0
    exact h0
  have tq0 : TQ wa w.heap.size l x F.length c2 z W.length c3 m := by rw [hwa]; exact q0.out.below (by repeat (first | exact Below.refl _ _ | assumption | refine Below.drew ?_ | refine below_drewN ?_ _ | refine Below.alloc' ?_ _ | (refine Below.setCell ?_ (by first | omega | (simp; done) | (simp; omega) | exact Below.size (by assumption) | exact Nat.le_trans (Below.size (by assumption)) (by simp)) _) | (refine Below.via' ?_ (by assumption)) | (refine Below.alloc ?_ (by first | omega | (simp; done) | (simp; omega) | exact Below.size (by assumption) | exact Nat.le_trans (Below.size (by assumption)) (by simp)) _) | (refine Below.via ?_ (by assumption) (by first | omega | (simp; done) | (simp; omega) | exact Below.size (by assumption) | exact Nat.le_trans (Below.size (by assumption)) (by simp)))))
  have hB0 : Below w.heap.size w wa := by rw [hwa]; exact (by repeat (first | exact Below.refl _ _ | assumption | refine Below.drew ?_ | refine below_drewN ?_ _ | refine Below.alloc' ?_ _ | (refine Below.setCell ?_ (by first | omega | (simp; done) | (simp; omega) | exact Below.size (by assumption) | exact Nat.le_trans (Below.size (by assumption)) (by simp)) _) | (refine Below.via' ?_ (by assumption)) | (refine Below.alloc ?_ (by first | omega | (simp; done) | (simp; omega) | exact Below.size (by assumption) | exact Nat.le_trans (Below.size (by assumption)) (by simp)) _) | (refine Below.via ?_ (by assumption) (by first | omega | (simp; done) | (simp; omega) | exact Below.size (by assumption) | exact Nat.le_trans (Below.size (by assumption)) (by simp)))))
  replace ow0 := Lib.hid ow0
  replace tq0 := Lib.hid tq0
  replace hwa := Lib.hid hwa
  have hza : w.heap.size + 1 < wa.heap.size := by rw [hwa.out]; simp
  clear q0
  go_enter Tryd.func25, Tryd.ntmps25
  go_upto_region 4 with fail
  rw [← hwa.out]
  have hft : ¬ (0 : Int) < (F.length : Int) := by have := hF0.out; omega
  have hn0 := tw0_len (S := S) (m := m)
  have hn1 := tw1_len (S := S) (l := l) (m := m)
  have hs0 := Lib.hid ow0.out.lt
  obtain ⟨t0a, t0b, t0c, t0d, t0e⟩ := tq0.out
  go_wp2_with fail
  refine (itoa_E l _ hlv.1 (by omega)).mono ?_
  rintro e w1 ⟨rfl, rfl⟩
  go_wp2_with (at_builtin; go_loud (refine wpList_append_rd _ rfl (.tmp 18) (.tmp 22) 72 rfl (w.heap.size + 1) 9 i0 (.string ⟨#[]⟩) 1 16 Tryd.underlying72 hii hz0 hz1 hz2 rfl (by decide) _ (tw0 S m).length (tC (tw0 S m)) rfl (ow0.out.alloc _) _ 2 2 rfl (Nat.le_refl _) (by intro h; cases h) (tC [wLevel, numZ l]) rfl (Rd.twoS _ _ _ _) (tC_one _) (by unfold maxLen; omega) (by omega) (by simp; omega) ?_); intro v3 w3 hown3 hgrow3 hwhere3; (have tq3 := Lib.hid ((tq0.out.below (Below.alloc' (Below.refl _ _) _)).grown hgrow3 (fun e => by have := (hs0.out _ e.symm).1; omega))); (obtain ⟨ta, tb, tc, td, te⟩ := tq3.out))
  obtain ⟨hb3, -⟩ := append_below hB0 (fun k hk => by have := (hs0.out k hk).1; omega) hgrow3 hwhere3
  have hw3 : w.heap.size + 1 ≤ w3.heap.size := by have := hgrow3.size; simp at this; omega
  have ow3 := Lib.hid (own_eq (n' := (tw1 S l m).length) (ys := tC (tw1 S l m)) hown3 (by unfold tw1; simp) (by unfold tw1; rw [tC_app]))
  clear hown3 hgrow3 hwhere3 ow0 tq0 hs0 t0a t0b t0c t0d t0e
  have ow2 : Hid (w3.ownsRow (w.heap.size + 1) 9 1 v3 (tw2 S l F m).length (tC (tw2 S l F m))) := Lib.hid (by rw [tw2_no hF0.out]; exact ow3.out)
  have tq2 := tq3
  have hB2 := hb3
  have hw2 := hw3
  obtain ⟨u2, hu2⟩ : ∃ u2, u2 = v3 := ⟨_, rfl⟩
  rw [← hu2] at ow2 ⊢
  clear ow3 tq3 hu2
  have hct : ¬ (0 : Int) < ((cwU S W S.length).length : Int) := by have := hc0.out; omega
  go_wp2_with fail
  refine (condWords_any _ _ _ _ S W _ hth.out.s hth.out.w (hSh.out.below hB2) (hWh.out.below hB2)).mono ?_
  rintro e wk ⟨u7, rfl, ho7, hb7⟩
  have hBk := Below.via' hB2 hb7
  have hkw : w.heap.size + 1 ≤ wk.heap.size := Nat.le_trans hw2 hb7.size
  obtain ⟨x7, c7, rfl, hc7, hn7⟩ := (OwR.of ho7).form
  have hrc := Lib.hid (Rd.of_own ho7)
  have ow3 : Hid (wk.ownsRow (w.heap.size + 1) 9 1 u2 (tw3 S l F W m).length (tC (tw3 S l F W m))) := Lib.hid (by rw [tw3_no hc0.out]; exact own_below ow2.out hb7)
  clear ho7 hb7 ow2 tq2 ta tb tc td te
  have hn3 := tw3_len (S := S) (l := l) (F := F) (W := W) (m := m)
  have hncw := cwU_len S W S.length
  have hjs : (jnS 32 (tw3 S l F W m ++ cwU S W S.length)).size ≤ 10000000 := hjz.out
  go_wp2_with (at_builtin; go_loud (refine wpList_append_rd _ rfl (.tmp 46) (.tmp 47) 72 rfl (w.heap.size + 1) 9 i0 (.string ⟨#[]⟩) 1 16 Tryd.underlying72 hii hz0 hz1 hz2 rfl (by decide) _ (tw3 S l F W m).length (tC (tw3 S l F W m)) rfl (ow3.out) _ (cwU S W S.length).length c7 rfl hc7 hn7 (tC (cwU S W S.length)) (by rw [tC_len, Nat.mul_one]) (hrc.out) (tC_one _) (by unfold maxLen; omega) (by omega) hkw ?_); intro v9 w9 hown9 hgrow9 hwhere9)
  have hsA := ow3.out.lt
  obtain ⟨hb9, -⟩ := append_below0 hBk (fun k hk => by have := (hsA k hk).1; omega) hgrow9 hwhere9
  have ow9 := own_eq (n' := (tw3 S l F W m ++ cwU S W S.length).length) (ys := tC (tw3 S l F W m ++ cwU S W S.length)) hown9 (by rw [List.length_append]) (tC_app _ _).symm
  obtain ⟨g9, c9, rfl⟩ := own_some2 ow9 (by rw [List.length_append]; omega)
  have hc9 : (tw3 S l F W m ++ cwU S W S.length).length ≤ c9 := by obtain ⟨a, b, e1, e2, -⟩ := (OwR.of ow9).form; injection e1 with _ _ e3; omega
  have hrd9 := Lib.hid (Rd.of_own ow9)
  have hln9 : (tw3 S l F W m ++ cwU S W S.length).length ≤ 1000 := by rw [List.length_append]; omega
  have hl19 : 1 ≤ (tw3 S l F W m ++ cwU S W S.length).length := by rw [List.length_append]; omega
  have hjn := join_S g9 c9 32 (tw3 S l F W m ++ cwU S W S.length) w9 hl19 hln9 hc9 hjs hrd9.out
  have hjnh := Lib.hid hjn
  clear hown9 hgrow9 hwhere9 ow9 hsA hjn
  go_wp2_with fail
  refine hjnh.out.mono ?_
  rintro e w10 ⟨rfl, hb10⟩
  go_wp2
  go_ret
  exact ⟨by first | rfl | (rw [← hmq.out]; rfl), Below.via' hb9 hb10⟩
set_option maxHeartbeats 8000000 in
theorem tt001 (y x z : Option Addr) (c1 c2 c3 : Nat) (P : List Int) (S : List (ByteArray × Int)) (l : Int) (F W : List Int) (m : Int) (w : World) (htg : TgP P S l F W m) (hS : SIn w y c1 S) (hT : TIn w x z F W) (hm : Hid (m = -1)) (hF0 : Hid (F.length = 0)) (hc0 : Hid ((cwU S W S.length).length ≠ 0)) :
    Calls Tryd.prog 25 #[.slice y S.length c1, .agg #[.int .i64 l, .slice x F.length c2, .slice z W.length c3, .int .i64 m]] w fun e w' => e = .returned (.string (ttT S l F W m)) ∧ Below w.heap.size w w' := by
  obtain ⟨i0, hii, hz0, hz1, hz2⟩ := info_parts Tryd.infoStr
  have hSh := Lib.hid hS
  have hFh := Lib.hid hT.1
  have hWh := Lib.hid hT.2
  have hth := Lib.hid htg
  have hlv := tg_lv htg
  have h6 := (schB_len htg.s).2
  have hm1 := htg.m1
  have hm0 := htg.m0
  have hjz := Lib.hid (tt_size (l := l) (F := F) (W := W) (m := m) htg)
  clear hS hT htg
  have q0 := Lib.hid (TQ.new w l x F.length c2 z W.length c3 m 37)
  have e1 : (m != -1) = false := by rw [hm.out]; rfl
  obtain ⟨wa, hwa⟩ : ∃ wa, wa = (w.alloc (.cells #[.int .i64 l, .slice x F.length c2, .slice z W.length c3, .int .i64 m] 37)).alloc (.cells #[.string ⟨#[99, 111, 117, 110, 116]⟩] 9) := ⟨_, rfl⟩
  have ow0 : wa.ownsRow (w.heap.size + 1) 9 1 (.slice (some ⟨w.heap.size + 1, 0, none⟩) 1 1) (tw0 S m).length (tC (tw0 S m)) := by
    rw [tw0_no hm.out, hwa]
    have h0 := World.ownsRow_lit (base := w.heap.size + 1) (e := 9) (size := 1) (w.alloc (.cells #[.int .i64 l, .slice x F.length c2, .slice z W.length c3, .int .i64 m] 37)) #[.string ⟨#[99, 111, 117, 110, 116]⟩] 1 (by simp) (by unfold maxLen; omega) rfl
    rw [World.size_alloc] at h0
    exact h0
  have tq0 : TQ wa w.heap.size l x F.length c2 z W.length c3 m := by rw [hwa]; exact q0.out.below (by repeat (first | exact Below.refl _ _ | assumption | refine Below.drew ?_ | refine below_drewN ?_ _ | refine Below.alloc' ?_ _ | (refine Below.setCell ?_ (by first | omega | (simp; done) | (simp; omega) | exact Below.size (by assumption) | exact Nat.le_trans (Below.size (by assumption)) (by simp)) _) | (refine Below.via' ?_ (by assumption)) | (refine Below.alloc ?_ (by first | omega | (simp; done) | (simp; omega) | exact Below.size (by assumption) | exact Nat.le_trans (Below.size (by assumption)) (by simp)) _) | (refine Below.via ?_ (by assumption) (by first | omega | (simp; done) | (simp; omega) | exact Below.size (by assumption) | exact Nat.le_trans (Below.size (by assumption)) (by simp)))))
  have hB0 : Below w.heap.size w wa := by rw [hwa]; exact (by repeat (first | exact Below.refl _ _ | assumption | refine Below.drew ?_ | refine below_drewN ?_ _ | refine Below.alloc' ?_ _ | (refine Below.setCell ?_ (by first | omega | (simp; done) | (simp; omega) | exact Below.size (by assumption) | exact Nat.le_trans (Below.size (by assumption)) (by simp)) _) | (refine Below.via' ?_ (by assumption)) | (refine Below.alloc ?_ (by first | omega | (simp; done) | (simp; omega) | exact Below.size (by assumption) | exact Nat.le_trans (Below.size (by assumption)) (by simp)) _) | (refine Below.via ?_ (by assumption) (by first | omega | (simp; done) | (simp; omega) | exact Below.size (by assumption) | exact Nat.le_trans (Below.size (by assumption)) (by simp)))))
  replace ow0 := Lib.hid ow0
  replace tq0 := Lib.hid tq0
  replace hwa := Lib.hid hwa
  have hza : w.heap.size + 1 < wa.heap.size := by rw [hwa.out]; simp
  clear q0
  go_enter Tryd.func25, Tryd.ntmps25
  go_upto_region 4 with fail
  rw [← hwa.out]
  have hft : ¬ (0 : Int) < (F.length : Int) := by have := hF0.out; omega
  have hn0 := tw0_len (S := S) (m := m)
  have hn1 := tw1_len (S := S) (l := l) (m := m)
  have hs0 := Lib.hid ow0.out.lt
  obtain ⟨t0a, t0b, t0c, t0d, t0e⟩ := tq0.out
  go_wp2_with fail
  refine (itoa_E l _ hlv.1 (by omega)).mono ?_
  rintro e w1 ⟨rfl, rfl⟩
  go_wp2_with (at_builtin; go_loud (refine wpList_append_rd _ rfl (.tmp 18) (.tmp 22) 72 rfl (w.heap.size + 1) 9 i0 (.string ⟨#[]⟩) 1 16 Tryd.underlying72 hii hz0 hz1 hz2 rfl (by decide) _ (tw0 S m).length (tC (tw0 S m)) rfl (ow0.out.alloc _) _ 2 2 rfl (Nat.le_refl _) (by intro h; cases h) (tC [wLevel, numZ l]) rfl (Rd.twoS _ _ _ _) (tC_one _) (by unfold maxLen; omega) (by omega) (by simp; omega) ?_); intro v3 w3 hown3 hgrow3 hwhere3; (have tq3 := Lib.hid ((tq0.out.below (Below.alloc' (Below.refl _ _) _)).grown hgrow3 (fun e => by have := (hs0.out _ e.symm).1; omega))); (obtain ⟨ta, tb, tc, td, te⟩ := tq3.out))
  obtain ⟨hb3, -⟩ := append_below hB0 (fun k hk => by have := (hs0.out k hk).1; omega) hgrow3 hwhere3
  have hw3 : w.heap.size + 1 ≤ w3.heap.size := by have := hgrow3.size; simp at this; omega
  have ow3 := Lib.hid (own_eq (n' := (tw1 S l m).length) (ys := tC (tw1 S l m)) hown3 (by unfold tw1; simp) (by unfold tw1; rw [tC_app]))
  clear hown3 hgrow3 hwhere3 ow0 tq0 hs0 t0a t0b t0c t0d t0e
  have ow2 : Hid (w3.ownsRow (w.heap.size + 1) 9 1 v3 (tw2 S l F m).length (tC (tw2 S l F m))) := Lib.hid (by rw [tw2_no hF0.out]; exact ow3.out)
  have tq2 := tq3
  have hB2 := hb3
  have hw2 := hw3
  obtain ⟨u2, hu2⟩ : ∃ u2, u2 = v3 := ⟨_, rfl⟩
  rw [← hu2] at ow2 ⊢
  clear ow3 tq3 hu2
  have hct : (0 : Int) < ((cwU S W S.length).length : Int) := by have := hc0.out; omega
  have hn2 := tw2_len (S := S) (l := l) (F := F) (m := m)
  go_wp2_with fail
  refine (condWords_any _ _ _ _ S W _ hth.out.s hth.out.w (hSh.out.below hB2) (hWh.out.below hB2)).mono ?_
  rintro e wj ⟨u7, rfl, ho7, hb7⟩
  have hBj := Below.via' hB2 hb7
  have hjw : w.heap.size + 1 ≤ wj.heap.size := Nat.le_trans hw2 hb7.size
  obtain ⟨x7, c7, rfl, hc7, hn7⟩ := (OwR.of ho7).form
  have hrj := Lib.hid (OwR.of ho7)
  have owk := Lib.hid (own_below ow2.out hb7)
  have hsk := Lib.hid owk.out.lt
  have hs2k := Lib.hid ow2.out.lt
  clear ho7 ow2 tq2 ta tb tc td te
  have hn3 := tw3_len (S := S) (l := l) (F := F) (W := W) (m := m)
  have hncw := cwU_len S W S.length
  have hjs : (jnS 32 (tw3 S l F W m ++ cwU S W S.length)).size ≤ 10000000 := hjz.out
  go_wp2_with (first | (at_builtin; go_loud (refine wpList_append_rd _ rfl (.tmp 43) (.tmp 44) 72 rfl (w.heap.size + 1) 9 i0 (.string ⟨#[]⟩) 1 16 Tryd.underlying72 hii hz0 hz1 hz2 rfl (by decide) _ (tw2 S l F m).length (tC (tw2 S l F m)) rfl (owk.out.alloc _) _ 1 1 rfl (Nat.le_refl _) (by intro h; cases h) (tC [wWhere]) rfl (Rd.oneS _ _ _) (tC_one _) (by unfold maxLen; omega) (by omega) (by simp; omega) ?_); intro v3 w3 hown3 hgrow3 hwhere3; (have hkw : w.heap.size + 1 ≤ w3.heap.size := by have := hgrow3.size; simp at this; omega); (have ow3 := Lib.hid (own_eq (n' := (tw3 S l F W m).length) (ys := tC (tw3 S l F W m)) hown3 (by rw [tw3_yes hc0.out]; simp) (by rw [tw3_yes hc0.out, tC_app]))); (have hrc := Lib.hid (((hrj.out.below (Below.alloc' (Below.refl _ _) _)).keep hgrow3 (fun k hk => by have := (hs2k.out k hk).2; exact Or.inl (by omega))).rd))) | (at_builtin; go_loud (refine wpList_append_rd _ rfl (.tmp 46) (.tmp 47) 72 rfl (w.heap.size + 1) 9 i0 (.string ⟨#[]⟩) 1 16 Tryd.underlying72 hii hz0 hz1 hz2 rfl (by decide) _ (tw3 S l F W m).length (tC (tw3 S l F W m)) rfl (ow3.out) _ (cwU S W S.length).length c7 rfl hc7 hn7 (tC (cwU S W S.length)) (by rw [tC_len, Nat.mul_one]) (hrc.out) (tC_one _) (by unfold maxLen; omega) (by omega) hkw ?_); intro v9 w9 hown9 hgrow9 hwhere9))
  obtain ⟨hBk, -⟩ := append_below hBj (fun k hk => by have := (hsk.out k hk).1; omega) hgrow3 hwhere3
  clear hown3 hgrow3 hwhere3 owk hsk hs2k hrj hb7
  have hsA := ow3.out.lt
  obtain ⟨hb9, -⟩ := append_below0 hBk (fun k hk => by have := (hsA k hk).1; omega) hgrow9 hwhere9
  have ow9 := own_eq (n' := (tw3 S l F W m ++ cwU S W S.length).length) (ys := tC (tw3 S l F W m ++ cwU S W S.length)) hown9 (by rw [List.length_append]) (tC_app _ _).symm
  obtain ⟨g9, c9, rfl⟩ := own_some2 ow9 (by rw [List.length_append]; omega)
  have hc9 : (tw3 S l F W m ++ cwU S W S.length).length ≤ c9 := by obtain ⟨a, b, e1, e2, -⟩ := (OwR.of ow9).form; injection e1 with _ _ e3; omega
  have hrd9 := Lib.hid (Rd.of_own ow9)
  have hln9 : (tw3 S l F W m ++ cwU S W S.length).length ≤ 1000 := by rw [List.length_append]; omega
  have hl19 : 1 ≤ (tw3 S l F W m ++ cwU S W S.length).length := by rw [List.length_append]; omega
  have hjn := join_S g9 c9 32 (tw3 S l F W m ++ cwU S W S.length) w9 hl19 hln9 hc9 hjs hrd9.out
  have hjnh := Lib.hid hjn
  clear hown9 hgrow9 hwhere9 ow9 hsA hjn
  go_wp2_with fail
  refine hjnh.out.mono ?_
  rintro e w10 ⟨rfl, hb10⟩
  go_wp2
  go_ret
  exact ⟨by first | rfl | (rw [← hmq.out]; rfl), Below.via' hb9 hb10⟩
set_option maxHeartbeats 8000000 in
theorem tt010 (y x z : Option Addr) (c1 c2 c3 : Nat) (P : List Int) (S : List (ByteArray × Int)) (l : Int) (F W : List Int) (m : Int) (w : World) (htg : TgP P S l F W m) (hS : SIn w y c1 S) (hT : TIn w x z F W) (hm : Hid (m = -1)) (hF0 : Hid (F.length ≠ 0)) (hc0 : Hid ((cwU S W S.length).length = 0)) :
    Calls Tryd.prog 25 #[.slice y S.length c1, .agg #[.int .i64 l, .slice x F.length c2, .slice z W.length c3, .int .i64 m]] w fun e w' => e = .returned (.string (ttT S l F W m)) ∧ Below w.heap.size w w' := by
  obtain ⟨i0, hii, hz0, hz1, hz2⟩ := info_parts Tryd.infoStr
  have hSh := Lib.hid hS
  have hFh := Lib.hid hT.1
  have hWh := Lib.hid hT.2
  have hth := Lib.hid htg
  have hlv := tg_lv htg
  have h6 := (schB_len htg.s).2
  have hm1 := htg.m1
  have hm0 := htg.m0
  have hjz := Lib.hid (tt_size (l := l) (F := F) (W := W) (m := m) htg)
  clear hS hT htg
  have q0 := Lib.hid (TQ.new w l x F.length c2 z W.length c3 m 37)
  have e1 : (m != -1) = false := by rw [hm.out]; rfl
  obtain ⟨wa, hwa⟩ : ∃ wa, wa = (w.alloc (.cells #[.int .i64 l, .slice x F.length c2, .slice z W.length c3, .int .i64 m] 37)).alloc (.cells #[.string ⟨#[99, 111, 117, 110, 116]⟩] 9) := ⟨_, rfl⟩
  have ow0 : wa.ownsRow (w.heap.size + 1) 9 1 (.slice (some ⟨w.heap.size + 1, 0, none⟩) 1 1) (tw0 S m).length (tC (tw0 S m)) := by
    rw [tw0_no hm.out, hwa]
    have h0 := World.ownsRow_lit (base := w.heap.size + 1) (e := 9) (size := 1) (w.alloc (.cells #[.int .i64 l, .slice x F.length c2, .slice z W.length c3, .int .i64 m] 37)) #[.string ⟨#[99, 111, 117, 110, 116]⟩] 1 (by simp) (by unfold maxLen; omega) rfl
    rw [World.size_alloc] at h0
    exact h0
  have tq0 : TQ wa w.heap.size l x F.length c2 z W.length c3 m := by rw [hwa]; exact q0.out.below (by repeat (first | exact Below.refl _ _ | assumption | refine Below.drew ?_ | refine below_drewN ?_ _ | refine Below.alloc' ?_ _ | (refine Below.setCell ?_ (by first | omega | (simp; done) | (simp; omega) | exact Below.size (by assumption) | exact Nat.le_trans (Below.size (by assumption)) (by simp)) _) | (refine Below.via' ?_ (by assumption)) | (refine Below.alloc ?_ (by first | omega | (simp; done) | (simp; omega) | exact Below.size (by assumption) | exact Nat.le_trans (Below.size (by assumption)) (by simp)) _) | (refine Below.via ?_ (by assumption) (by first | omega | (simp; done) | (simp; omega) | exact Below.size (by assumption) | exact Nat.le_trans (Below.size (by assumption)) (by simp)))))
  have hB0 : Below w.heap.size w wa := by rw [hwa]; exact (by repeat (first | exact Below.refl _ _ | assumption | refine Below.drew ?_ | refine below_drewN ?_ _ | refine Below.alloc' ?_ _ | (refine Below.setCell ?_ (by first | omega | (simp; done) | (simp; omega) | exact Below.size (by assumption) | exact Nat.le_trans (Below.size (by assumption)) (by simp)) _) | (refine Below.via' ?_ (by assumption)) | (refine Below.alloc ?_ (by first | omega | (simp; done) | (simp; omega) | exact Below.size (by assumption) | exact Nat.le_trans (Below.size (by assumption)) (by simp)) _) | (refine Below.via ?_ (by assumption) (by first | omega | (simp; done) | (simp; omega) | exact Below.size (by assumption) | exact Nat.le_trans (Below.size (by assumption)) (by simp)))))
  replace ow0 := Lib.hid ow0
  replace tq0 := Lib.hid tq0
  replace hwa := Lib.hid hwa
  have hza : w.heap.size + 1 < wa.heap.size := by rw [hwa.out]; simp
  clear q0
  go_enter Tryd.func25, Tryd.ntmps25
  go_upto_region 4 with fail
  rw [← hwa.out]
  have hft : (0 : Int) < (F.length : Int) := by have := hF0.out; omega
  have hn0 := tw0_len (S := S) (m := m)
  have hn1 := tw1_len (S := S) (l := l) (m := m)
  have hs0 := Lib.hid ow0.out.lt
  obtain ⟨t0a, t0b, t0c, t0d, t0e⟩ := tq0.out
  go_wp2_with fail
  refine (itoa_E l _ hlv.1 (by omega)).mono ?_
  rintro e w1 ⟨rfl, rfl⟩
  go_wp2_with (at_builtin; go_loud (refine wpList_append_rd _ rfl (.tmp 18) (.tmp 22) 72 rfl (w.heap.size + 1) 9 i0 (.string ⟨#[]⟩) 1 16 Tryd.underlying72 hii hz0 hz1 hz2 rfl (by decide) _ (tw0 S m).length (tC (tw0 S m)) rfl (ow0.out.alloc _) _ 2 2 rfl (Nat.le_refl _) (by intro h; cases h) (tC [wLevel, numZ l]) rfl (Rd.twoS _ _ _ _) (tC_one _) (by unfold maxLen; omega) (by omega) (by simp; omega) ?_); intro v3 w3 hown3 hgrow3 hwhere3; (have tq3 := Lib.hid ((tq0.out.below (Below.alloc' (Below.refl _ _) _)).grown hgrow3 (fun e => by have := (hs0.out _ e.symm).1; omega))); (obtain ⟨ta, tb, tc, td, te⟩ := tq3.out))
  obtain ⟨hb3, -⟩ := append_below hB0 (fun k hk => by have := (hs0.out k hk).1; omega) hgrow3 hwhere3
  have hw3 : w.heap.size + 1 ≤ w3.heap.size := by have := hgrow3.size; simp at this; omega
  have ow3 := Lib.hid (own_eq (n' := (tw1 S l m).length) (ys := tC (tw1 S l m)) hown3 (by unfold tw1; simp) (by unfold tw1; rw [tC_app]))
  clear hown3 hgrow3 hwhere3 ow0 tq0 hs0 t0a t0b t0c t0d t0e
  have hnF := ptS_len (tbS_ok hth.out.s hth.out.r)
  have hnT := tbS_len S F
  have hip := Lib.hid (inP_of hth.out.s hth.out.r rfl)
  go_wp2_with fail
  refine (elemsV_any _ _ _ _ S F _ hip.out (hSh.out.rd.below hb3) (hFh.out.below hb3).2.2).mono ?_
  rintro e w4 ⟨rfl, hoE, hb4⟩
  have hB4 := Below.via' hb3 hb4
  have hw4 : w.heap.size + 1 ≤ w4.heap.size := Nat.le_trans hw3 hb4.size
  have hn := namesText_any (some ⟨w3.heap.size, 0, none⟩) F.length (tbS S F) w4 (by have := hF0.out; omega) (by omega) (fun p hp => by
    obtain ⟨k, hk, hk2⟩ := List.getElem_of_mem hp
    obtain ⟨i, hi, hSi⟩ := tbS_get hth.out.r (k := k) (p := p) (by rw [List.getElem?_eq_getElem hk, hk2])
    exact nm_size hth.out.s (List.mem_of_getElem? hSi)) (Rd.of_own hoE)
  rw [tbS_len] at hn
  have hnh := Lib.hid hn
  clear hoE hn
  go_wp2_with fail
  refine hnh.out.mono ?_
  rintro e w5 ⟨rfl, hb5⟩
  have hB5 := Below.via' hB4 hb5
  have hw5 : w.heap.size + 1 ≤ w5.heap.size := Nat.le_trans hw4 hb5.size
  have ow5 := Lib.hid (own_below (own_below ow3.out hb4) hb5)
  have tq5 := Lib.hid ((tq3.out.below hb4).below hb5)
  have hs5 := Lib.hid ow5.out.lt
  have hn2 := tw2_len (S := S) (l := l) (F := F) (m := m)
  clear ow3 tq3 ta tb tc td te hb4 hb5 hnh
  obtain ⟨t5a, t5b, t5c, t5d, t5e⟩ := tq5.out
  obtain ⟨vv, hvv⟩ : ∃ vv, vv = v3 := ⟨_, rfl⟩
  rw [← hvv] at ow5 hs5 ⊢
  clear hvv
  go_wp2_with (at_builtin; go_loud (refine wpList_append_rd _ rfl (.tmp 28) (.tmp 34) 72 rfl (w.heap.size + 1) 9 i0 (.string ⟨#[]⟩) 1 16 Tryd.underlying72 hii hz0 hz1 hz2 rfl (by decide) _ (tw1 S l m).length (tC (tw1 S l m)) rfl (ow5.out.alloc _) _ 2 2 rfl (Nat.le_refl _) (by intro h; cases h) (tC [wBy, jnS 44 (nsL S F)]) rfl (Rd.twoS _ _ _ _) (tC_one _) (by unfold maxLen; omega) (by omega) (by simp; omega) ?_); intro v6 w6 hown6 hgrow6 hwhere6; (have tq2 := Lib.hid ((tq5.out.below (Below.alloc' (Below.refl _ _) _)).grown hgrow6 (fun e => by have := (hs5.out _ e.symm).1; omega))); (obtain ⟨ta, tb, tc, td, te⟩ := tq2.out))
  obtain ⟨hB2, -⟩ := append_below hB5 (fun k hk => by have := (hs5.out k hk).1; omega) hgrow6 hwhere6
  have hw2 : w.heap.size + 1 ≤ w6.heap.size := by have := hgrow6.size; simp at this; omega
  have ow2 := Lib.hid (own_eq (n' := (tw2 S l F m).length) (ys := tC (tw2 S l F m)) hown6 (by rw [tw2_yes hF0.out]; simp) (by rw [tw2_yes hF0.out, tC_app]))
  obtain ⟨u2, hu2⟩ : ∃ u2, u2 = v6 := ⟨_, rfl⟩
  rw [← hu2] at ow2 ⊢
  clear hown6 hgrow6 hwhere6 ow5 tq5 hs5 hu2 t5a t5b t5c t5d t5e
  have hct : ¬ (0 : Int) < ((cwU S W S.length).length : Int) := by have := hc0.out; omega
  go_wp2_with fail
  refine (condWords_any _ _ _ _ S W _ hth.out.s hth.out.w (hSh.out.below hB2) (hWh.out.below hB2)).mono ?_
  rintro e wk ⟨u7, rfl, ho7, hb7⟩
  have hBk := Below.via' hB2 hb7
  have hkw : w.heap.size + 1 ≤ wk.heap.size := Nat.le_trans hw2 hb7.size
  obtain ⟨x7, c7, rfl, hc7, hn7⟩ := (OwR.of ho7).form
  have hrc := Lib.hid (Rd.of_own ho7)
  have ow3 : Hid (wk.ownsRow (w.heap.size + 1) 9 1 u2 (tw3 S l F W m).length (tC (tw3 S l F W m))) := Lib.hid (by rw [tw3_no hc0.out]; exact own_below ow2.out hb7)
  clear ho7 hb7 ow2 tq2 ta tb tc td te
  have hn3 := tw3_len (S := S) (l := l) (F := F) (W := W) (m := m)
  have hncw := cwU_len S W S.length
  have hjs : (jnS 32 (tw3 S l F W m ++ cwU S W S.length)).size ≤ 10000000 := hjz.out
  go_wp2_with (at_builtin; go_loud (refine wpList_append_rd _ rfl (.tmp 46) (.tmp 47) 72 rfl (w.heap.size + 1) 9 i0 (.string ⟨#[]⟩) 1 16 Tryd.underlying72 hii hz0 hz1 hz2 rfl (by decide) _ (tw3 S l F W m).length (tC (tw3 S l F W m)) rfl (ow3.out) _ (cwU S W S.length).length c7 rfl hc7 hn7 (tC (cwU S W S.length)) (by rw [tC_len, Nat.mul_one]) (hrc.out) (tC_one _) (by unfold maxLen; omega) (by omega) hkw ?_); intro v9 w9 hown9 hgrow9 hwhere9)
  have hsA := ow3.out.lt
  obtain ⟨hb9, -⟩ := append_below0 hBk (fun k hk => by have := (hsA k hk).1; omega) hgrow9 hwhere9
  have ow9 := own_eq (n' := (tw3 S l F W m ++ cwU S W S.length).length) (ys := tC (tw3 S l F W m ++ cwU S W S.length)) hown9 (by rw [List.length_append]) (tC_app _ _).symm
  obtain ⟨g9, c9, rfl⟩ := own_some2 ow9 (by rw [List.length_append]; omega)
  have hc9 : (tw3 S l F W m ++ cwU S W S.length).length ≤ c9 := by obtain ⟨a, b, e1, e2, -⟩ := (OwR.of ow9).form; injection e1 with _ _ e3; omega
  have hrd9 := Lib.hid (Rd.of_own ow9)
  have hln9 : (tw3 S l F W m ++ cwU S W S.length).length ≤ 1000 := by rw [List.length_append]; omega
  have hl19 : 1 ≤ (tw3 S l F W m ++ cwU S W S.length).length := by rw [List.length_append]; omega
  have hjn := join_S g9 c9 32 (tw3 S l F W m ++ cwU S W S.length) w9 hl19 hln9 hc9 hjs hrd9.out
  have hjnh := Lib.hid hjn
  clear hown9 hgrow9 hwhere9 ow9 hsA hjn
  go_wp2_with fail
  refine hjnh.out.mono ?_
  rintro e w10 ⟨rfl, hb10⟩
  go_wp2
  go_ret
  exact ⟨by first | rfl | (rw [← hmq.out]; rfl), Below.via' hb9 hb10⟩
set_option maxHeartbeats 8000000 in
theorem tt011 (y x z : Option Addr) (c1 c2 c3 : Nat) (P : List Int) (S : List (ByteArray × Int)) (l : Int) (F W : List Int) (m : Int) (w : World) (htg : TgP P S l F W m) (hS : SIn w y c1 S) (hT : TIn w x z F W) (hm : Hid (m = -1)) (hF0 : Hid (F.length ≠ 0)) (hc0 : Hid ((cwU S W S.length).length ≠ 0)) :
    Calls Tryd.prog 25 #[.slice y S.length c1, .agg #[.int .i64 l, .slice x F.length c2, .slice z W.length c3, .int .i64 m]] w fun e w' => e = .returned (.string (ttT S l F W m)) ∧ Below w.heap.size w w' := by
  obtain ⟨i0, hii, hz0, hz1, hz2⟩ := info_parts Tryd.infoStr
  have hSh := Lib.hid hS
  have hFh := Lib.hid hT.1
  have hWh := Lib.hid hT.2
  have hth := Lib.hid htg
  have hlv := tg_lv htg
  have h6 := (schB_len htg.s).2
  have hm1 := htg.m1
  have hm0 := htg.m0
  have hjz := Lib.hid (tt_size (l := l) (F := F) (W := W) (m := m) htg)
  clear hS hT htg
  have q0 := Lib.hid (TQ.new w l x F.length c2 z W.length c3 m 37)
  have e1 : (m != -1) = false := by rw [hm.out]; rfl
  obtain ⟨wa, hwa⟩ : ∃ wa, wa = (w.alloc (.cells #[.int .i64 l, .slice x F.length c2, .slice z W.length c3, .int .i64 m] 37)).alloc (.cells #[.string ⟨#[99, 111, 117, 110, 116]⟩] 9) := ⟨_, rfl⟩
  have ow0 : wa.ownsRow (w.heap.size + 1) 9 1 (.slice (some ⟨w.heap.size + 1, 0, none⟩) 1 1) (tw0 S m).length (tC (tw0 S m)) := by
    rw [tw0_no hm.out, hwa]
    have h0 := World.ownsRow_lit (base := w.heap.size + 1) (e := 9) (size := 1) (w.alloc (.cells #[.int .i64 l, .slice x F.length c2, .slice z W.length c3, .int .i64 m] 37)) #[.string ⟨#[99, 111, 117, 110, 116]⟩] 1 (by simp) (by unfold maxLen; omega) rfl
    rw [World.size_alloc] at h0
    exact h0
  have tq0 : TQ wa w.heap.size l x F.length c2 z W.length c3 m := by rw [hwa]; exact q0.out.below (by repeat (first | exact Below.refl _ _ | assumption | refine Below.drew ?_ | refine below_drewN ?_ _ | refine Below.alloc' ?_ _ | (refine Below.setCell ?_ (by first | omega | (simp; done) | (simp; omega) | exact Below.size (by assumption) | exact Nat.le_trans (Below.size (by assumption)) (by simp)) _) | (refine Below.via' ?_ (by assumption)) | (refine Below.alloc ?_ (by first | omega | (simp; done) | (simp; omega) | exact Below.size (by assumption) | exact Nat.le_trans (Below.size (by assumption)) (by simp)) _) | (refine Below.via ?_ (by assumption) (by first | omega | (simp; done) | (simp; omega) | exact Below.size (by assumption) | exact Nat.le_trans (Below.size (by assumption)) (by simp)))))
  have hB0 : Below w.heap.size w wa := by rw [hwa]; exact (by repeat (first | exact Below.refl _ _ | assumption | refine Below.drew ?_ | refine below_drewN ?_ _ | refine Below.alloc' ?_ _ | (refine Below.setCell ?_ (by first | omega | (simp; done) | (simp; omega) | exact Below.size (by assumption) | exact Nat.le_trans (Below.size (by assumption)) (by simp)) _) | (refine Below.via' ?_ (by assumption)) | (refine Below.alloc ?_ (by first | omega | (simp; done) | (simp; omega) | exact Below.size (by assumption) | exact Nat.le_trans (Below.size (by assumption)) (by simp)) _) | (refine Below.via ?_ (by assumption) (by first | omega | (simp; done) | (simp; omega) | exact Below.size (by assumption) | exact Nat.le_trans (Below.size (by assumption)) (by simp)))))
  replace ow0 := Lib.hid ow0
  replace tq0 := Lib.hid tq0
  replace hwa := Lib.hid hwa
  have hza : w.heap.size + 1 < wa.heap.size := by rw [hwa.out]; simp
  clear q0
  go_enter Tryd.func25, Tryd.ntmps25
  go_upto_region 4 with fail
  rw [← hwa.out]
  have hft : (0 : Int) < (F.length : Int) := by have := hF0.out; omega
  have hn0 := tw0_len (S := S) (m := m)
  have hn1 := tw1_len (S := S) (l := l) (m := m)
  have hs0 := Lib.hid ow0.out.lt
  obtain ⟨t0a, t0b, t0c, t0d, t0e⟩ := tq0.out
  go_wp2_with fail
  refine (itoa_E l _ hlv.1 (by omega)).mono ?_
  rintro e w1 ⟨rfl, rfl⟩
  go_wp2_with (at_builtin; go_loud (refine wpList_append_rd _ rfl (.tmp 18) (.tmp 22) 72 rfl (w.heap.size + 1) 9 i0 (.string ⟨#[]⟩) 1 16 Tryd.underlying72 hii hz0 hz1 hz2 rfl (by decide) _ (tw0 S m).length (tC (tw0 S m)) rfl (ow0.out.alloc _) _ 2 2 rfl (Nat.le_refl _) (by intro h; cases h) (tC [wLevel, numZ l]) rfl (Rd.twoS _ _ _ _) (tC_one _) (by unfold maxLen; omega) (by omega) (by simp; omega) ?_); intro v3 w3 hown3 hgrow3 hwhere3; (have tq3 := Lib.hid ((tq0.out.below (Below.alloc' (Below.refl _ _) _)).grown hgrow3 (fun e => by have := (hs0.out _ e.symm).1; omega))); (obtain ⟨ta, tb, tc, td, te⟩ := tq3.out))
  obtain ⟨hb3, -⟩ := append_below hB0 (fun k hk => by have := (hs0.out k hk).1; omega) hgrow3 hwhere3
  have hw3 : w.heap.size + 1 ≤ w3.heap.size := by have := hgrow3.size; simp at this; omega
  have ow3 := Lib.hid (own_eq (n' := (tw1 S l m).length) (ys := tC (tw1 S l m)) hown3 (by unfold tw1; simp) (by unfold tw1; rw [tC_app]))
  clear hown3 hgrow3 hwhere3 ow0 tq0 hs0 t0a t0b t0c t0d t0e
  have hnF := ptS_len (tbS_ok hth.out.s hth.out.r)
  have hnT := tbS_len S F
  have hip := Lib.hid (inP_of hth.out.s hth.out.r rfl)
  go_wp2_with fail
  refine (elemsV_any _ _ _ _ S F _ hip.out (hSh.out.rd.below hb3) (hFh.out.below hb3).2.2).mono ?_
  rintro e w4 ⟨rfl, hoE, hb4⟩
  have hB4 := Below.via' hb3 hb4
  have hw4 : w.heap.size + 1 ≤ w4.heap.size := Nat.le_trans hw3 hb4.size
  have hn := namesText_any (some ⟨w3.heap.size, 0, none⟩) F.length (tbS S F) w4 (by have := hF0.out; omega) (by omega) (fun p hp => by
    obtain ⟨k, hk, hk2⟩ := List.getElem_of_mem hp
    obtain ⟨i, hi, hSi⟩ := tbS_get hth.out.r (k := k) (p := p) (by rw [List.getElem?_eq_getElem hk, hk2])
    exact nm_size hth.out.s (List.mem_of_getElem? hSi)) (Rd.of_own hoE)
  rw [tbS_len] at hn
  have hnh := Lib.hid hn
  clear hoE hn
  go_wp2_with fail
  refine hnh.out.mono ?_
  rintro e w5 ⟨rfl, hb5⟩
  have hB5 := Below.via' hB4 hb5
  have hw5 : w.heap.size + 1 ≤ w5.heap.size := Nat.le_trans hw4 hb5.size
  have ow5 := Lib.hid (own_below (own_below ow3.out hb4) hb5)
  have tq5 := Lib.hid ((tq3.out.below hb4).below hb5)
  have hs5 := Lib.hid ow5.out.lt
  have hn2 := tw2_len (S := S) (l := l) (F := F) (m := m)
  clear ow3 tq3 ta tb tc td te hb4 hb5 hnh
  obtain ⟨t5a, t5b, t5c, t5d, t5e⟩ := tq5.out
  obtain ⟨vv, hvv⟩ : ∃ vv, vv = v3 := ⟨_, rfl⟩
  rw [← hvv] at ow5 hs5 ⊢
  clear hvv
  go_wp2_with (at_builtin; go_loud (refine wpList_append_rd _ rfl (.tmp 28) (.tmp 34) 72 rfl (w.heap.size + 1) 9 i0 (.string ⟨#[]⟩) 1 16 Tryd.underlying72 hii hz0 hz1 hz2 rfl (by decide) _ (tw1 S l m).length (tC (tw1 S l m)) rfl (ow5.out.alloc _) _ 2 2 rfl (Nat.le_refl _) (by intro h; cases h) (tC [wBy, jnS 44 (nsL S F)]) rfl (Rd.twoS _ _ _ _) (tC_one _) (by unfold maxLen; omega) (by omega) (by simp; omega) ?_); intro v6 w6 hown6 hgrow6 hwhere6; (have tq2 := Lib.hid ((tq5.out.below (Below.alloc' (Below.refl _ _) _)).grown hgrow6 (fun e => by have := (hs5.out _ e.symm).1; omega))); (obtain ⟨ta, tb, tc, td, te⟩ := tq2.out))
  obtain ⟨hB2, -⟩ := append_below hB5 (fun k hk => by have := (hs5.out k hk).1; omega) hgrow6 hwhere6
  have hw2 : w.heap.size + 1 ≤ w6.heap.size := by have := hgrow6.size; simp at this; omega
  have ow2 := Lib.hid (own_eq (n' := (tw2 S l F m).length) (ys := tC (tw2 S l F m)) hown6 (by rw [tw2_yes hF0.out]; simp) (by rw [tw2_yes hF0.out, tC_app]))
  obtain ⟨u2, hu2⟩ : ∃ u2, u2 = v6 := ⟨_, rfl⟩
  rw [← hu2] at ow2 ⊢
  clear hown6 hgrow6 hwhere6 ow5 tq5 hs5 hu2 t5a t5b t5c t5d t5e
  have hct : (0 : Int) < ((cwU S W S.length).length : Int) := by have := hc0.out; omega
  have hn2 := tw2_len (S := S) (l := l) (F := F) (m := m)
  go_wp2_with fail
  refine (condWords_any _ _ _ _ S W _ hth.out.s hth.out.w (hSh.out.below hB2) (hWh.out.below hB2)).mono ?_
  rintro e wj ⟨u7, rfl, ho7, hb7⟩
  have hBj := Below.via' hB2 hb7
  have hjw : w.heap.size + 1 ≤ wj.heap.size := Nat.le_trans hw2 hb7.size
  obtain ⟨x7, c7, rfl, hc7, hn7⟩ := (OwR.of ho7).form
  have hrj := Lib.hid (OwR.of ho7)
  have owk := Lib.hid (own_below ow2.out hb7)
  have hsk := Lib.hid owk.out.lt
  have hs2k := Lib.hid ow2.out.lt
  clear ho7 ow2 tq2 ta tb tc td te
  have hn3 := tw3_len (S := S) (l := l) (F := F) (W := W) (m := m)
  have hncw := cwU_len S W S.length
  have hjs : (jnS 32 (tw3 S l F W m ++ cwU S W S.length)).size ≤ 10000000 := hjz.out
  go_wp2_with (first | (at_builtin; go_loud (refine wpList_append_rd _ rfl (.tmp 43) (.tmp 44) 72 rfl (w.heap.size + 1) 9 i0 (.string ⟨#[]⟩) 1 16 Tryd.underlying72 hii hz0 hz1 hz2 rfl (by decide) _ (tw2 S l F m).length (tC (tw2 S l F m)) rfl (owk.out.alloc _) _ 1 1 rfl (Nat.le_refl _) (by intro h; cases h) (tC [wWhere]) rfl (Rd.oneS _ _ _) (tC_one _) (by unfold maxLen; omega) (by omega) (by simp; omega) ?_); intro v3 w3 hown3 hgrow3 hwhere3; (have hkw : w.heap.size + 1 ≤ w3.heap.size := by have := hgrow3.size; simp at this; omega); (have ow3 := Lib.hid (own_eq (n' := (tw3 S l F W m).length) (ys := tC (tw3 S l F W m)) hown3 (by rw [tw3_yes hc0.out]; simp) (by rw [tw3_yes hc0.out, tC_app]))); (have hrc := Lib.hid (((hrj.out.below (Below.alloc' (Below.refl _ _) _)).keep hgrow3 (fun k hk => by have := (hs2k.out k hk).2; exact Or.inl (by omega))).rd))) | (at_builtin; go_loud (refine wpList_append_rd _ rfl (.tmp 46) (.tmp 47) 72 rfl (w.heap.size + 1) 9 i0 (.string ⟨#[]⟩) 1 16 Tryd.underlying72 hii hz0 hz1 hz2 rfl (by decide) _ (tw3 S l F W m).length (tC (tw3 S l F W m)) rfl (ow3.out) _ (cwU S W S.length).length c7 rfl hc7 hn7 (tC (cwU S W S.length)) (by rw [tC_len, Nat.mul_one]) (hrc.out) (tC_one _) (by unfold maxLen; omega) (by omega) hkw ?_); intro v9 w9 hown9 hgrow9 hwhere9))
  obtain ⟨hBk, -⟩ := append_below hBj (fun k hk => by have := (hsk.out k hk).1; omega) hgrow3 hwhere3
  clear hown3 hgrow3 hwhere3 owk hsk hs2k hrj hb7
  have hsA := ow3.out.lt
  obtain ⟨hb9, -⟩ := append_below0 hBk (fun k hk => by have := (hsA k hk).1; omega) hgrow9 hwhere9
  have ow9 := own_eq (n' := (tw3 S l F W m ++ cwU S W S.length).length) (ys := tC (tw3 S l F W m ++ cwU S W S.length)) hown9 (by rw [List.length_append]) (tC_app _ _).symm
  obtain ⟨g9, c9, rfl⟩ := own_some2 ow9 (by rw [List.length_append]; omega)
  have hc9 : (tw3 S l F W m ++ cwU S W S.length).length ≤ c9 := by obtain ⟨a, b, e1, e2, -⟩ := (OwR.of ow9).form; injection e1 with _ _ e3; omega
  have hrd9 := Lib.hid (Rd.of_own ow9)
  have hln9 : (tw3 S l F W m ++ cwU S W S.length).length ≤ 1000 := by rw [List.length_append]; omega
  have hl19 : 1 ≤ (tw3 S l F W m ++ cwU S W S.length).length := by rw [List.length_append]; omega
  have hjn := join_S g9 c9 32 (tw3 S l F W m ++ cwU S W S.length) w9 hl19 hln9 hc9 hjs hrd9.out
  have hjnh := Lib.hid hjn
  clear hown9 hgrow9 hwhere9 ow9 hsA hjn
  go_wp2_with fail
  refine hjnh.out.mono ?_
  rintro e w10 ⟨rfl, hb10⟩
  go_wp2
  go_ret
  exact ⟨by first | rfl | (rw [← hmq.out]; rfl), Below.via' hb9 hb10⟩
set_option maxHeartbeats 8000000 in
theorem tt100 (y x z : Option Addr) (c1 c2 c3 : Nat) (P : List Int) (S : List (ByteArray × Int)) (l : Int) (F W : List Int) (m : Int) (w : World) (htg : TgP P S l F W m) (hS : SIn w y c1 S) (hT : TIn w x z F W) (hm : Hid (m ≠ -1)) (hF0 : Hid (F.length = 0)) (hc0 : Hid ((cwU S W S.length).length = 0)) :
    Calls Tryd.prog 25 #[.slice y S.length c1, .agg #[.int .i64 l, .slice x F.length c2, .slice z W.length c3, .int .i64 m]] w fun e w' => e = .returned (.string (ttT S l F W m)) ∧ Below w.heap.size w w' := by
  obtain ⟨i0, hii, hz0, hz1, hz2⟩ := info_parts Tryd.infoStr
  have hSh := Lib.hid hS
  have hFh := Lib.hid hT.1
  have hWh := Lib.hid hT.2
  have hth := Lib.hid htg
  have hlv := tg_lv htg
  have h6 := (schB_len htg.s).2
  have hm1 := htg.m1
  have hm0 := htg.m0
  have hjz := Lib.hid (tt_size (l := l) (F := F) (W := W) (m := m) htg)
  clear hS hT htg
  have q0 := Lib.hid (TQ.new w l x F.length c2 z W.length c3 m 37)
  obtain ⟨q, rfl⟩ := Int.eq_ofNat_of_zero_le (show 0 ≤ m by have := hm.out; omega)
  obtain ⟨bl, off, nm, lv, rfl, hbl, hSq, hk0, hk1⟩ := hSh.out.rd.var (i := q) (by omega)
  have hnq := naA_at hSq
  have hqt : ((q : Nat) : Int).toNat = q := Int.toNat_natCast q
  have e1 : ((q : Int) != -1) = true := by rw [bne_iff_ne]; exact hm.out
  have hq0 : (0 : Int) ≤ (q : Int) := by omega
  have hq1 : (q : Int) < (S.length : Int) := by omega
  obtain ⟨wa, hwa⟩ : ∃ wa, wa = ((w.alloc (.cells #[.int .i64 l, .slice x F.length c2, .slice z W.length c3, .int .i64 (q : Int)] 37)).alloc (.cells #[.string ⟨#[99, 111, 117, 110, 116]⟩] 9)).alloc (.cells #[.string ⟨#[115, 117, 109]⟩, .string nm] 9) := ⟨_, rfl⟩
  have ow0 : wa.ownsRow (w.heap.size + 1) 9 1 (.slice (some ⟨w.heap.size + 1 + 1, 0, none⟩) 2 2) (tw0 S (q : Int)).length (tC (tw0 S (q : Int))) := by
    rw [tw0_yes hm.out, hqt, hnq, hwa]
    have h0 := World.ownsRow_lit (base := w.heap.size + 1) (e := 9) (size := 1) ((w.alloc (.cells #[.int .i64 l, .slice x F.length c2, .slice z W.length c3, .int .i64 (q : Int)] 37)).alloc (.cells #[.string ⟨#[99, 111, 117, 110, 116]⟩] 9)) #[.string ⟨#[115, 117, 109]⟩, .string nm] 2 (by simp) (by unfold maxLen; omega) rfl
    rw [World.size_alloc, World.size_alloc] at h0
    exact h0
  have tq0 : TQ wa w.heap.size l x F.length c2 z W.length c3 (q : Int) := by rw [hwa]; exact q0.out.below (by repeat (first | exact Below.refl _ _ | assumption | refine Below.drew ?_ | refine below_drewN ?_ _ | refine Below.alloc' ?_ _ | (refine Below.setCell ?_ (by first | omega | (simp; done) | (simp; omega) | exact Below.size (by assumption) | exact Nat.le_trans (Below.size (by assumption)) (by simp)) _) | (refine Below.via' ?_ (by assumption)) | (refine Below.alloc ?_ (by first | omega | (simp; done) | (simp; omega) | exact Below.size (by assumption) | exact Nat.le_trans (Below.size (by assumption)) (by simp)) _) | (refine Below.via ?_ (by assumption) (by first | omega | (simp; done) | (simp; omega) | exact Below.size (by assumption) | exact Nat.le_trans (Below.size (by assumption)) (by simp)))))
  have hB0 : Below w.heap.size w wa := by rw [hwa]; exact (by repeat (first | exact Below.refl _ _ | assumption | refine Below.drew ?_ | refine below_drewN ?_ _ | refine Below.alloc' ?_ _ | (refine Below.setCell ?_ (by first | omega | (simp; done) | (simp; omega) | exact Below.size (by assumption) | exact Nat.le_trans (Below.size (by assumption)) (by simp)) _) | (refine Below.via' ?_ (by assumption)) | (refine Below.alloc ?_ (by first | omega | (simp; done) | (simp; omega) | exact Below.size (by assumption) | exact Nat.le_trans (Below.size (by assumption)) (by simp)) _) | (refine Below.via ?_ (by assumption) (by first | omega | (simp; done) | (simp; omega) | exact Below.size (by assumption) | exact Nat.le_trans (Below.size (by assumption)) (by simp)))))
  replace ow0 := Lib.hid ow0
  replace tq0 := Lib.hid tq0
  replace hwa := Lib.hid hwa
  have hza : w.heap.size + 1 < wa.heap.size := by rw [hwa.out]; simp <;> omega
  clear q0
  replace hSq := Lib.hid hSq
  replace hnq := Lib.hid hnq
  replace hqt := Lib.hid hqt
  go_enter Tryd.func25, Tryd.ntmps25
  go_upto_region 4 with fail
  rw [← hwa.out]
  obtain ⟨m, hmq⟩ : ∃ m : Int, m = (q : Int) := ⟨_, rfl⟩
  rw [← hmq] at ow0 tq0 hth hjz ⊢
  replace hmq := Lib.hid hmq
  have hft : ¬ (0 : Int) < (F.length : Int) := by have := hF0.out; omega
  have hn0 := tw0_len (S := S) (m := m)
  have hn1 := tw1_len (S := S) (l := l) (m := m)
  have hs0 := Lib.hid ow0.out.lt
  obtain ⟨t0a, t0b, t0c, t0d, t0e⟩ := tq0.out
  go_wp2_with fail
  refine (itoa_E l _ hlv.1 (by omega)).mono ?_
  rintro e w1 ⟨rfl, rfl⟩
  go_wp2_with (at_builtin; go_loud (refine wpList_append_rd _ rfl (.tmp 18) (.tmp 22) 72 rfl (w.heap.size + 1) 9 i0 (.string ⟨#[]⟩) 1 16 Tryd.underlying72 hii hz0 hz1 hz2 rfl (by decide) _ (tw0 S m).length (tC (tw0 S m)) rfl (ow0.out.alloc _) _ 2 2 rfl (Nat.le_refl _) (by intro h; cases h) (tC [wLevel, numZ l]) rfl (Rd.twoS _ _ _ _) (tC_one _) (by unfold maxLen; omega) (by omega) (by simp; omega) ?_); intro v3 w3 hown3 hgrow3 hwhere3; (have tq3 := Lib.hid ((tq0.out.below (Below.alloc' (Below.refl _ _) _)).grown hgrow3 (fun e => by have := (hs0.out _ e.symm).1; omega))); (obtain ⟨ta, tb, tc, td, te⟩ := tq3.out))
  obtain ⟨hb3, -⟩ := append_below hB0 (fun k hk => by have := (hs0.out k hk).1; omega) hgrow3 hwhere3
  have hw3 : w.heap.size + 1 ≤ w3.heap.size := by have := hgrow3.size; simp at this; omega
  have ow3 := Lib.hid (own_eq (n' := (tw1 S l m).length) (ys := tC (tw1 S l m)) hown3 (by unfold tw1; simp) (by unfold tw1; rw [tC_app]))
  clear hown3 hgrow3 hwhere3 ow0 tq0 hs0 t0a t0b t0c t0d t0e
  have ow2 : Hid (w3.ownsRow (w.heap.size + 1) 9 1 v3 (tw2 S l F m).length (tC (tw2 S l F m))) := Lib.hid (by rw [tw2_no hF0.out]; exact ow3.out)
  have tq2 := tq3
  have hB2 := hb3
  have hw2 := hw3
  obtain ⟨u2, hu2⟩ : ∃ u2, u2 = v3 := ⟨_, rfl⟩
  rw [← hu2] at ow2 ⊢
  clear ow3 tq3 hu2
  have hct : ¬ (0 : Int) < ((cwU S W S.length).length : Int) := by have := hc0.out; omega
  go_wp2_with fail
  refine (condWords_any _ _ _ _ S W _ hth.out.s hth.out.w (hSh.out.below hB2) (hWh.out.below hB2)).mono ?_
  rintro e wk ⟨u7, rfl, ho7, hb7⟩
  have hBk := Below.via' hB2 hb7
  have hkw : w.heap.size + 1 ≤ wk.heap.size := Nat.le_trans hw2 hb7.size
  obtain ⟨x7, c7, rfl, hc7, hn7⟩ := (OwR.of ho7).form
  have hrc := Lib.hid (Rd.of_own ho7)
  have ow3 : Hid (wk.ownsRow (w.heap.size + 1) 9 1 u2 (tw3 S l F W m).length (tC (tw3 S l F W m))) := Lib.hid (by rw [tw3_no hc0.out]; exact own_below ow2.out hb7)
  clear ho7 hb7 ow2 tq2 ta tb tc td te
  have hn3 := tw3_len (S := S) (l := l) (F := F) (W := W) (m := m)
  have hncw := cwU_len S W S.length
  have hjs : (jnS 32 (tw3 S l F W m ++ cwU S W S.length)).size ≤ 10000000 := hjz.out
  go_wp2_with (at_builtin; go_loud (refine wpList_append_rd _ rfl (.tmp 46) (.tmp 47) 72 rfl (w.heap.size + 1) 9 i0 (.string ⟨#[]⟩) 1 16 Tryd.underlying72 hii hz0 hz1 hz2 rfl (by decide) _ (tw3 S l F W m).length (tC (tw3 S l F W m)) rfl (ow3.out) _ (cwU S W S.length).length c7 rfl hc7 hn7 (tC (cwU S W S.length)) (by rw [tC_len, Nat.mul_one]) (hrc.out) (tC_one _) (by unfold maxLen; omega) (by omega) hkw ?_); intro v9 w9 hown9 hgrow9 hwhere9)
  have hsA := ow3.out.lt
  obtain ⟨hb9, -⟩ := append_below0 hBk (fun k hk => by have := (hsA k hk).1; omega) hgrow9 hwhere9
  have ow9 := own_eq (n' := (tw3 S l F W m ++ cwU S W S.length).length) (ys := tC (tw3 S l F W m ++ cwU S W S.length)) hown9 (by rw [List.length_append]) (tC_app _ _).symm
  obtain ⟨g9, c9, rfl⟩ := own_some2 ow9 (by rw [List.length_append]; omega)
  have hc9 : (tw3 S l F W m ++ cwU S W S.length).length ≤ c9 := by obtain ⟨a, b, e1, e2, -⟩ := (OwR.of ow9).form; injection e1 with _ _ e3; omega
  have hrd9 := Lib.hid (Rd.of_own ow9)
  have hln9 : (tw3 S l F W m ++ cwU S W S.length).length ≤ 1000 := by rw [List.length_append]; omega
  have hl19 : 1 ≤ (tw3 S l F W m ++ cwU S W S.length).length := by rw [List.length_append]; omega
  have hjn := join_S g9 c9 32 (tw3 S l F W m ++ cwU S W S.length) w9 hl19 hln9 hc9 hjs hrd9.out
  have hjnh := Lib.hid hjn
  clear hown9 hgrow9 hwhere9 ow9 hsA hjn
  go_wp2_with fail
  refine hjnh.out.mono ?_
  rintro e w10 ⟨rfl, hb10⟩
  go_wp2
  go_ret
  exact ⟨by first | rfl | (rw [← hmq.out]; rfl), Below.via' hb9 hb10⟩
set_option maxHeartbeats 8000000 in
theorem tt101 (y x z : Option Addr) (c1 c2 c3 : Nat) (P : List Int) (S : List (ByteArray × Int)) (l : Int) (F W : List Int) (m : Int) (w : World) (htg : TgP P S l F W m) (hS : SIn w y c1 S) (hT : TIn w x z F W) (hm : Hid (m ≠ -1)) (hF0 : Hid (F.length = 0)) (hc0 : Hid ((cwU S W S.length).length ≠ 0)) :
    Calls Tryd.prog 25 #[.slice y S.length c1, .agg #[.int .i64 l, .slice x F.length c2, .slice z W.length c3, .int .i64 m]] w fun e w' => e = .returned (.string (ttT S l F W m)) ∧ Below w.heap.size w w' := by
  obtain ⟨i0, hii, hz0, hz1, hz2⟩ := info_parts Tryd.infoStr
  have hSh := Lib.hid hS
  have hFh := Lib.hid hT.1
  have hWh := Lib.hid hT.2
  have hth := Lib.hid htg
  have hlv := tg_lv htg
  have h6 := (schB_len htg.s).2
  have hm1 := htg.m1
  have hm0 := htg.m0
  have hjz := Lib.hid (tt_size (l := l) (F := F) (W := W) (m := m) htg)
  clear hS hT htg
  have q0 := Lib.hid (TQ.new w l x F.length c2 z W.length c3 m 37)
  obtain ⟨q, rfl⟩ := Int.eq_ofNat_of_zero_le (show 0 ≤ m by have := hm.out; omega)
  obtain ⟨bl, off, nm, lv, rfl, hbl, hSq, hk0, hk1⟩ := hSh.out.rd.var (i := q) (by omega)
  have hnq := naA_at hSq
  have hqt : ((q : Nat) : Int).toNat = q := Int.toNat_natCast q
  have e1 : ((q : Int) != -1) = true := by rw [bne_iff_ne]; exact hm.out
  have hq0 : (0 : Int) ≤ (q : Int) := by omega
  have hq1 : (q : Int) < (S.length : Int) := by omega
  obtain ⟨wa, hwa⟩ : ∃ wa, wa = ((w.alloc (.cells #[.int .i64 l, .slice x F.length c2, .slice z W.length c3, .int .i64 (q : Int)] 37)).alloc (.cells #[.string ⟨#[99, 111, 117, 110, 116]⟩] 9)).alloc (.cells #[.string ⟨#[115, 117, 109]⟩, .string nm] 9) := ⟨_, rfl⟩
  have ow0 : wa.ownsRow (w.heap.size + 1) 9 1 (.slice (some ⟨w.heap.size + 1 + 1, 0, none⟩) 2 2) (tw0 S (q : Int)).length (tC (tw0 S (q : Int))) := by
    rw [tw0_yes hm.out, hqt, hnq, hwa]
    have h0 := World.ownsRow_lit (base := w.heap.size + 1) (e := 9) (size := 1) ((w.alloc (.cells #[.int .i64 l, .slice x F.length c2, .slice z W.length c3, .int .i64 (q : Int)] 37)).alloc (.cells #[.string ⟨#[99, 111, 117, 110, 116]⟩] 9)) #[.string ⟨#[115, 117, 109]⟩, .string nm] 2 (by simp) (by unfold maxLen; omega) rfl
    rw [World.size_alloc, World.size_alloc] at h0
    exact h0
  have tq0 : TQ wa w.heap.size l x F.length c2 z W.length c3 (q : Int) := by rw [hwa]; exact q0.out.below (by repeat (first | exact Below.refl _ _ | assumption | refine Below.drew ?_ | refine below_drewN ?_ _ | refine Below.alloc' ?_ _ | (refine Below.setCell ?_ (by first | omega | (simp; done) | (simp; omega) | exact Below.size (by assumption) | exact Nat.le_trans (Below.size (by assumption)) (by simp)) _) | (refine Below.via' ?_ (by assumption)) | (refine Below.alloc ?_ (by first | omega | (simp; done) | (simp; omega) | exact Below.size (by assumption) | exact Nat.le_trans (Below.size (by assumption)) (by simp)) _) | (refine Below.via ?_ (by assumption) (by first | omega | (simp; done) | (simp; omega) | exact Below.size (by assumption) | exact Nat.le_trans (Below.size (by assumption)) (by simp)))))
  have hB0 : Below w.heap.size w wa := by rw [hwa]; exact (by repeat (first | exact Below.refl _ _ | assumption | refine Below.drew ?_ | refine below_drewN ?_ _ | refine Below.alloc' ?_ _ | (refine Below.setCell ?_ (by first | omega | (simp; done) | (simp; omega) | exact Below.size (by assumption) | exact Nat.le_trans (Below.size (by assumption)) (by simp)) _) | (refine Below.via' ?_ (by assumption)) | (refine Below.alloc ?_ (by first | omega | (simp; done) | (simp; omega) | exact Below.size (by assumption) | exact Nat.le_trans (Below.size (by assumption)) (by simp)) _) | (refine Below.via ?_ (by assumption) (by first | omega | (simp; done) | (simp; omega) | exact Below.size (by assumption) | exact Nat.le_trans (Below.size (by assumption)) (by simp)))))
  replace ow0 := Lib.hid ow0
  replace tq0 := Lib.hid tq0
  replace hwa := Lib.hid hwa
  have hza : w.heap.size + 1 < wa.heap.size := by rw [hwa.out]; simp <;> omega
  clear q0
  replace hSq := Lib.hid hSq
  replace hnq := Lib.hid hnq
  replace hqt := Lib.hid hqt
  go_enter Tryd.func25, Tryd.ntmps25
  go_upto_region 4 with fail
  rw [← hwa.out]
  obtain ⟨m, hmq⟩ : ∃ m : Int, m = (q : Int) := ⟨_, rfl⟩
  rw [← hmq] at ow0 tq0 hth hjz ⊢
  replace hmq := Lib.hid hmq
  have hft : ¬ (0 : Int) < (F.length : Int) := by have := hF0.out; omega
  have hn0 := tw0_len (S := S) (m := m)
  have hn1 := tw1_len (S := S) (l := l) (m := m)
  have hs0 := Lib.hid ow0.out.lt
  obtain ⟨t0a, t0b, t0c, t0d, t0e⟩ := tq0.out
  go_wp2_with fail
  refine (itoa_E l _ hlv.1 (by omega)).mono ?_
  rintro e w1 ⟨rfl, rfl⟩
  go_wp2_with (at_builtin; go_loud (refine wpList_append_rd _ rfl (.tmp 18) (.tmp 22) 72 rfl (w.heap.size + 1) 9 i0 (.string ⟨#[]⟩) 1 16 Tryd.underlying72 hii hz0 hz1 hz2 rfl (by decide) _ (tw0 S m).length (tC (tw0 S m)) rfl (ow0.out.alloc _) _ 2 2 rfl (Nat.le_refl _) (by intro h; cases h) (tC [wLevel, numZ l]) rfl (Rd.twoS _ _ _ _) (tC_one _) (by unfold maxLen; omega) (by omega) (by simp; omega) ?_); intro v3 w3 hown3 hgrow3 hwhere3; (have tq3 := Lib.hid ((tq0.out.below (Below.alloc' (Below.refl _ _) _)).grown hgrow3 (fun e => by have := (hs0.out _ e.symm).1; omega))); (obtain ⟨ta, tb, tc, td, te⟩ := tq3.out))
  obtain ⟨hb3, -⟩ := append_below hB0 (fun k hk => by have := (hs0.out k hk).1; omega) hgrow3 hwhere3
  have hw3 : w.heap.size + 1 ≤ w3.heap.size := by have := hgrow3.size; simp at this; omega
  have ow3 := Lib.hid (own_eq (n' := (tw1 S l m).length) (ys := tC (tw1 S l m)) hown3 (by unfold tw1; simp) (by unfold tw1; rw [tC_app]))
  clear hown3 hgrow3 hwhere3 ow0 tq0 hs0 t0a t0b t0c t0d t0e
  have ow2 : Hid (w3.ownsRow (w.heap.size + 1) 9 1 v3 (tw2 S l F m).length (tC (tw2 S l F m))) := Lib.hid (by rw [tw2_no hF0.out]; exact ow3.out)
  have tq2 := tq3
  have hB2 := hb3
  have hw2 := hw3
  obtain ⟨u2, hu2⟩ : ∃ u2, u2 = v3 := ⟨_, rfl⟩
  rw [← hu2] at ow2 ⊢
  clear ow3 tq3 hu2
  have hct : (0 : Int) < ((cwU S W S.length).length : Int) := by have := hc0.out; omega
  have hn2 := tw2_len (S := S) (l := l) (F := F) (m := m)
  go_wp2_with fail
  refine (condWords_any _ _ _ _ S W _ hth.out.s hth.out.w (hSh.out.below hB2) (hWh.out.below hB2)).mono ?_
  rintro e wj ⟨u7, rfl, ho7, hb7⟩
  have hBj := Below.via' hB2 hb7
  have hjw : w.heap.size + 1 ≤ wj.heap.size := Nat.le_trans hw2 hb7.size
  obtain ⟨x7, c7, rfl, hc7, hn7⟩ := (OwR.of ho7).form
  have hrj := Lib.hid (OwR.of ho7)
  have owk := Lib.hid (own_below ow2.out hb7)
  have hsk := Lib.hid owk.out.lt
  have hs2k := Lib.hid ow2.out.lt
  clear ho7 ow2 tq2 ta tb tc td te
  have hn3 := tw3_len (S := S) (l := l) (F := F) (W := W) (m := m)
  have hncw := cwU_len S W S.length
  have hjs : (jnS 32 (tw3 S l F W m ++ cwU S W S.length)).size ≤ 10000000 := hjz.out
  go_wp2_with (first | (at_builtin; go_loud (refine wpList_append_rd _ rfl (.tmp 43) (.tmp 44) 72 rfl (w.heap.size + 1) 9 i0 (.string ⟨#[]⟩) 1 16 Tryd.underlying72 hii hz0 hz1 hz2 rfl (by decide) _ (tw2 S l F m).length (tC (tw2 S l F m)) rfl (owk.out.alloc _) _ 1 1 rfl (Nat.le_refl _) (by intro h; cases h) (tC [wWhere]) rfl (Rd.oneS _ _ _) (tC_one _) (by unfold maxLen; omega) (by omega) (by simp; omega) ?_); intro v3 w3 hown3 hgrow3 hwhere3; (have hkw : w.heap.size + 1 ≤ w3.heap.size := by have := hgrow3.size; simp at this; omega); (have ow3 := Lib.hid (own_eq (n' := (tw3 S l F W m).length) (ys := tC (tw3 S l F W m)) hown3 (by rw [tw3_yes hc0.out]; simp) (by rw [tw3_yes hc0.out, tC_app]))); (have hrc := Lib.hid (((hrj.out.below (Below.alloc' (Below.refl _ _) _)).keep hgrow3 (fun k hk => by have := (hs2k.out k hk).2; exact Or.inl (by omega))).rd))) | (at_builtin; go_loud (refine wpList_append_rd _ rfl (.tmp 46) (.tmp 47) 72 rfl (w.heap.size + 1) 9 i0 (.string ⟨#[]⟩) 1 16 Tryd.underlying72 hii hz0 hz1 hz2 rfl (by decide) _ (tw3 S l F W m).length (tC (tw3 S l F W m)) rfl (ow3.out) _ (cwU S W S.length).length c7 rfl hc7 hn7 (tC (cwU S W S.length)) (by rw [tC_len, Nat.mul_one]) (hrc.out) (tC_one _) (by unfold maxLen; omega) (by omega) hkw ?_); intro v9 w9 hown9 hgrow9 hwhere9))
  obtain ⟨hBk, -⟩ := append_below hBj (fun k hk => by have := (hsk.out k hk).1; omega) hgrow3 hwhere3
  clear hown3 hgrow3 hwhere3 owk hsk hs2k hrj hb7
  have hsA := ow3.out.lt
  obtain ⟨hb9, -⟩ := append_below0 hBk (fun k hk => by have := (hsA k hk).1; omega) hgrow9 hwhere9
  have ow9 := own_eq (n' := (tw3 S l F W m ++ cwU S W S.length).length) (ys := tC (tw3 S l F W m ++ cwU S W S.length)) hown9 (by rw [List.length_append]) (tC_app _ _).symm
  obtain ⟨g9, c9, rfl⟩ := own_some2 ow9 (by rw [List.length_append]; omega)
  have hc9 : (tw3 S l F W m ++ cwU S W S.length).length ≤ c9 := by obtain ⟨a, b, e1, e2, -⟩ := (OwR.of ow9).form; injection e1 with _ _ e3; omega
  have hrd9 := Lib.hid (Rd.of_own ow9)
  have hln9 : (tw3 S l F W m ++ cwU S W S.length).length ≤ 1000 := by rw [List.length_append]; omega
  have hl19 : 1 ≤ (tw3 S l F W m ++ cwU S W S.length).length := by rw [List.length_append]; omega
  have hjn := join_S g9 c9 32 (tw3 S l F W m ++ cwU S W S.length) w9 hl19 hln9 hc9 hjs hrd9.out
  have hjnh := Lib.hid hjn
  clear hown9 hgrow9 hwhere9 ow9 hsA hjn
  go_wp2_with fail
  refine hjnh.out.mono ?_
  rintro e w10 ⟨rfl, hb10⟩
  go_wp2
  go_ret
  exact ⟨by first | rfl | (rw [← hmq.out]; rfl), Below.via' hb9 hb10⟩
set_option maxHeartbeats 8000000 in
theorem tt110 (y x z : Option Addr) (c1 c2 c3 : Nat) (P : List Int) (S : List (ByteArray × Int)) (l : Int) (F W : List Int) (m : Int) (w : World) (htg : TgP P S l F W m) (hS : SIn w y c1 S) (hT : TIn w x z F W) (hm : Hid (m ≠ -1)) (hF0 : Hid (F.length ≠ 0)) (hc0 : Hid ((cwU S W S.length).length = 0)) :
    Calls Tryd.prog 25 #[.slice y S.length c1, .agg #[.int .i64 l, .slice x F.length c2, .slice z W.length c3, .int .i64 m]] w fun e w' => e = .returned (.string (ttT S l F W m)) ∧ Below w.heap.size w w' := by
  obtain ⟨i0, hii, hz0, hz1, hz2⟩ := info_parts Tryd.infoStr
  have hSh := Lib.hid hS
  have hFh := Lib.hid hT.1
  have hWh := Lib.hid hT.2
  have hth := Lib.hid htg
  have hlv := tg_lv htg
  have h6 := (schB_len htg.s).2
  have hm1 := htg.m1
  have hm0 := htg.m0
  have hjz := Lib.hid (tt_size (l := l) (F := F) (W := W) (m := m) htg)
  clear hS hT htg
  have q0 := Lib.hid (TQ.new w l x F.length c2 z W.length c3 m 37)
  obtain ⟨q, rfl⟩ := Int.eq_ofNat_of_zero_le (show 0 ≤ m by have := hm.out; omega)
  obtain ⟨bl, off, nm, lv, rfl, hbl, hSq, hk0, hk1⟩ := hSh.out.rd.var (i := q) (by omega)
  have hnq := naA_at hSq
  have hqt : ((q : Nat) : Int).toNat = q := Int.toNat_natCast q
  have e1 : ((q : Int) != -1) = true := by rw [bne_iff_ne]; exact hm.out
  have hq0 : (0 : Int) ≤ (q : Int) := by omega
  have hq1 : (q : Int) < (S.length : Int) := by omega
  obtain ⟨wa, hwa⟩ : ∃ wa, wa = ((w.alloc (.cells #[.int .i64 l, .slice x F.length c2, .slice z W.length c3, .int .i64 (q : Int)] 37)).alloc (.cells #[.string ⟨#[99, 111, 117, 110, 116]⟩] 9)).alloc (.cells #[.string ⟨#[115, 117, 109]⟩, .string nm] 9) := ⟨_, rfl⟩
  have ow0 : wa.ownsRow (w.heap.size + 1) 9 1 (.slice (some ⟨w.heap.size + 1 + 1, 0, none⟩) 2 2) (tw0 S (q : Int)).length (tC (tw0 S (q : Int))) := by
    rw [tw0_yes hm.out, hqt, hnq, hwa]
    have h0 := World.ownsRow_lit (base := w.heap.size + 1) (e := 9) (size := 1) ((w.alloc (.cells #[.int .i64 l, .slice x F.length c2, .slice z W.length c3, .int .i64 (q : Int)] 37)).alloc (.cells #[.string ⟨#[99, 111, 117, 110, 116]⟩] 9)) #[.string ⟨#[115, 117, 109]⟩, .string nm] 2 (by simp) (by unfold maxLen; omega) rfl
    rw [World.size_alloc, World.size_alloc] at h0
    exact h0
  have tq0 : TQ wa w.heap.size l x F.length c2 z W.length c3 (q : Int) := by rw [hwa]; exact q0.out.below (by repeat (first | exact Below.refl _ _ | assumption | refine Below.drew ?_ | refine below_drewN ?_ _ | refine Below.alloc' ?_ _ | (refine Below.setCell ?_ (by first | omega | (simp; done) | (simp; omega) | exact Below.size (by assumption) | exact Nat.le_trans (Below.size (by assumption)) (by simp)) _) | (refine Below.via' ?_ (by assumption)) | (refine Below.alloc ?_ (by first | omega | (simp; done) | (simp; omega) | exact Below.size (by assumption) | exact Nat.le_trans (Below.size (by assumption)) (by simp)) _) | (refine Below.via ?_ (by assumption) (by first | omega | (simp; done) | (simp; omega) | exact Below.size (by assumption) | exact Nat.le_trans (Below.size (by assumption)) (by simp)))))
  have hB0 : Below w.heap.size w wa := by rw [hwa]; exact (by repeat (first | exact Below.refl _ _ | assumption | refine Below.drew ?_ | refine below_drewN ?_ _ | refine Below.alloc' ?_ _ | (refine Below.setCell ?_ (by first | omega | (simp; done) | (simp; omega) | exact Below.size (by assumption) | exact Nat.le_trans (Below.size (by assumption)) (by simp)) _) | (refine Below.via' ?_ (by assumption)) | (refine Below.alloc ?_ (by first | omega | (simp; done) | (simp; omega) | exact Below.size (by assumption) | exact Nat.le_trans (Below.size (by assumption)) (by simp)) _) | (refine Below.via ?_ (by assumption) (by first | omega | (simp; done) | (simp; omega) | exact Below.size (by assumption) | exact Nat.le_trans (Below.size (by assumption)) (by simp)))))
  replace ow0 := Lib.hid ow0
  replace tq0 := Lib.hid tq0
  replace hwa := Lib.hid hwa
  have hza : w.heap.size + 1 < wa.heap.size := by rw [hwa.out]; simp <;> omega
  clear q0
  replace hSq := Lib.hid hSq
  replace hnq := Lib.hid hnq
  replace hqt := Lib.hid hqt
  go_enter Tryd.func25, Tryd.ntmps25
  go_upto_region 4 with fail
  rw [← hwa.out]
  obtain ⟨m, hmq⟩ : ∃ m : Int, m = (q : Int) := ⟨_, rfl⟩
  rw [← hmq] at ow0 tq0 hth hjz ⊢
  replace hmq := Lib.hid hmq
  have hft : (0 : Int) < (F.length : Int) := by have := hF0.out; omega
  have hn0 := tw0_len (S := S) (m := m)
  have hn1 := tw1_len (S := S) (l := l) (m := m)
  have hs0 := Lib.hid ow0.out.lt
  obtain ⟨t0a, t0b, t0c, t0d, t0e⟩ := tq0.out
  go_wp2_with fail
  refine (itoa_E l _ hlv.1 (by omega)).mono ?_
  rintro e w1 ⟨rfl, rfl⟩
  go_wp2_with (at_builtin; go_loud (refine wpList_append_rd _ rfl (.tmp 18) (.tmp 22) 72 rfl (w.heap.size + 1) 9 i0 (.string ⟨#[]⟩) 1 16 Tryd.underlying72 hii hz0 hz1 hz2 rfl (by decide) _ (tw0 S m).length (tC (tw0 S m)) rfl (ow0.out.alloc _) _ 2 2 rfl (Nat.le_refl _) (by intro h; cases h) (tC [wLevel, numZ l]) rfl (Rd.twoS _ _ _ _) (tC_one _) (by unfold maxLen; omega) (by omega) (by simp; omega) ?_); intro v3 w3 hown3 hgrow3 hwhere3; (have tq3 := Lib.hid ((tq0.out.below (Below.alloc' (Below.refl _ _) _)).grown hgrow3 (fun e => by have := (hs0.out _ e.symm).1; omega))); (obtain ⟨ta, tb, tc, td, te⟩ := tq3.out))
  obtain ⟨hb3, -⟩ := append_below hB0 (fun k hk => by have := (hs0.out k hk).1; omega) hgrow3 hwhere3
  have hw3 : w.heap.size + 1 ≤ w3.heap.size := by have := hgrow3.size; simp at this; omega
  have ow3 := Lib.hid (own_eq (n' := (tw1 S l m).length) (ys := tC (tw1 S l m)) hown3 (by unfold tw1; simp) (by unfold tw1; rw [tC_app]))
  clear hown3 hgrow3 hwhere3 ow0 tq0 hs0 t0a t0b t0c t0d t0e
  have hnF := ptS_len (tbS_ok hth.out.s hth.out.r)
  have hnT := tbS_len S F
  have hip := Lib.hid (inP_of hth.out.s hth.out.r rfl)
  go_wp2_with fail
  refine (elemsV_any _ _ _ _ S F _ hip.out (hSh.out.rd.below hb3) (hFh.out.below hb3).2.2).mono ?_
  rintro e w4 ⟨rfl, hoE, hb4⟩
  have hB4 := Below.via' hb3 hb4
  have hw4 : w.heap.size + 1 ≤ w4.heap.size := Nat.le_trans hw3 hb4.size
  have hn := namesText_any (some ⟨w3.heap.size, 0, none⟩) F.length (tbS S F) w4 (by have := hF0.out; omega) (by omega) (fun p hp => by
    obtain ⟨k, hk, hk2⟩ := List.getElem_of_mem hp
    obtain ⟨i, hi, hSi⟩ := tbS_get hth.out.r (k := k) (p := p) (by rw [List.getElem?_eq_getElem hk, hk2])
    exact nm_size hth.out.s (List.mem_of_getElem? hSi)) (Rd.of_own hoE)
  rw [tbS_len] at hn
  have hnh := Lib.hid hn
  clear hoE hn
  go_wp2_with fail
  refine hnh.out.mono ?_
  rintro e w5 ⟨rfl, hb5⟩
  have hB5 := Below.via' hB4 hb5
  have hw5 : w.heap.size + 1 ≤ w5.heap.size := Nat.le_trans hw4 hb5.size
  have ow5 := Lib.hid (own_below (own_below ow3.out hb4) hb5)
  have tq5 := Lib.hid ((tq3.out.below hb4).below hb5)
  have hs5 := Lib.hid ow5.out.lt
  have hn2 := tw2_len (S := S) (l := l) (F := F) (m := m)
  clear ow3 tq3 ta tb tc td te hb4 hb5 hnh
  obtain ⟨t5a, t5b, t5c, t5d, t5e⟩ := tq5.out
  obtain ⟨vv, hvv⟩ : ∃ vv, vv = v3 := ⟨_, rfl⟩
  rw [← hvv] at ow5 hs5 ⊢
  clear hvv
  go_wp2_with (at_builtin; go_loud (refine wpList_append_rd _ rfl (.tmp 28) (.tmp 34) 72 rfl (w.heap.size + 1) 9 i0 (.string ⟨#[]⟩) 1 16 Tryd.underlying72 hii hz0 hz1 hz2 rfl (by decide) _ (tw1 S l m).length (tC (tw1 S l m)) rfl (ow5.out.alloc _) _ 2 2 rfl (Nat.le_refl _) (by intro h; cases h) (tC [wBy, jnS 44 (nsL S F)]) rfl (Rd.twoS _ _ _ _) (tC_one _) (by unfold maxLen; omega) (by omega) (by simp; omega) ?_); intro v6 w6 hown6 hgrow6 hwhere6; (have tq2 := Lib.hid ((tq5.out.below (Below.alloc' (Below.refl _ _) _)).grown hgrow6 (fun e => by have := (hs5.out _ e.symm).1; omega))); (obtain ⟨ta, tb, tc, td, te⟩ := tq2.out))
  obtain ⟨hB2, -⟩ := append_below hB5 (fun k hk => by have := (hs5.out k hk).1; omega) hgrow6 hwhere6
  have hw2 : w.heap.size + 1 ≤ w6.heap.size := by have := hgrow6.size; simp at this; omega
  have ow2 := Lib.hid (own_eq (n' := (tw2 S l F m).length) (ys := tC (tw2 S l F m)) hown6 (by rw [tw2_yes hF0.out]; simp) (by rw [tw2_yes hF0.out, tC_app]))
  obtain ⟨u2, hu2⟩ : ∃ u2, u2 = v6 := ⟨_, rfl⟩
  rw [← hu2] at ow2 ⊢
  clear hown6 hgrow6 hwhere6 ow5 tq5 hs5 hu2 t5a t5b t5c t5d t5e
  have hct : ¬ (0 : Int) < ((cwU S W S.length).length : Int) := by have := hc0.out; omega
  go_wp2_with fail
  refine (condWords_any _ _ _ _ S W _ hth.out.s hth.out.w (hSh.out.below hB2) (hWh.out.below hB2)).mono ?_
  rintro e wk ⟨u7, rfl, ho7, hb7⟩
  have hBk := Below.via' hB2 hb7
  have hkw : w.heap.size + 1 ≤ wk.heap.size := Nat.le_trans hw2 hb7.size
  obtain ⟨x7, c7, rfl, hc7, hn7⟩ := (OwR.of ho7).form
  have hrc := Lib.hid (Rd.of_own ho7)
  have ow3 : Hid (wk.ownsRow (w.heap.size + 1) 9 1 u2 (tw3 S l F W m).length (tC (tw3 S l F W m))) := Lib.hid (by rw [tw3_no hc0.out]; exact own_below ow2.out hb7)
  clear ho7 hb7 ow2 tq2 ta tb tc td te
  have hn3 := tw3_len (S := S) (l := l) (F := F) (W := W) (m := m)
  have hncw := cwU_len S W S.length
  have hjs : (jnS 32 (tw3 S l F W m ++ cwU S W S.length)).size ≤ 10000000 := hjz.out
  go_wp2_with (at_builtin; go_loud (refine wpList_append_rd _ rfl (.tmp 46) (.tmp 47) 72 rfl (w.heap.size + 1) 9 i0 (.string ⟨#[]⟩) 1 16 Tryd.underlying72 hii hz0 hz1 hz2 rfl (by decide) _ (tw3 S l F W m).length (tC (tw3 S l F W m)) rfl (ow3.out) _ (cwU S W S.length).length c7 rfl hc7 hn7 (tC (cwU S W S.length)) (by rw [tC_len, Nat.mul_one]) (hrc.out) (tC_one _) (by unfold maxLen; omega) (by omega) hkw ?_); intro v9 w9 hown9 hgrow9 hwhere9)
  have hsA := ow3.out.lt
  obtain ⟨hb9, -⟩ := append_below0 hBk (fun k hk => by have := (hsA k hk).1; omega) hgrow9 hwhere9
  have ow9 := own_eq (n' := (tw3 S l F W m ++ cwU S W S.length).length) (ys := tC (tw3 S l F W m ++ cwU S W S.length)) hown9 (by rw [List.length_append]) (tC_app _ _).symm
  obtain ⟨g9, c9, rfl⟩ := own_some2 ow9 (by rw [List.length_append]; omega)
  have hc9 : (tw3 S l F W m ++ cwU S W S.length).length ≤ c9 := by obtain ⟨a, b, e1, e2, -⟩ := (OwR.of ow9).form; injection e1 with _ _ e3; omega
  have hrd9 := Lib.hid (Rd.of_own ow9)
  have hln9 : (tw3 S l F W m ++ cwU S W S.length).length ≤ 1000 := by rw [List.length_append]; omega
  have hl19 : 1 ≤ (tw3 S l F W m ++ cwU S W S.length).length := by rw [List.length_append]; omega
  have hjn := join_S g9 c9 32 (tw3 S l F W m ++ cwU S W S.length) w9 hl19 hln9 hc9 hjs hrd9.out
  have hjnh := Lib.hid hjn
  clear hown9 hgrow9 hwhere9 ow9 hsA hjn
  go_wp2_with fail
  refine hjnh.out.mono ?_
  rintro e w10 ⟨rfl, hb10⟩
  go_wp2
  go_ret
  exact ⟨by first | rfl | (rw [← hmq.out]; rfl), Below.via' hb9 hb10⟩
set_option maxHeartbeats 8000000 in
theorem tt111 (y x z : Option Addr) (c1 c2 c3 : Nat) (P : List Int) (S : List (ByteArray × Int)) (l : Int) (F W : List Int) (m : Int) (w : World) (htg : TgP P S l F W m) (hS : SIn w y c1 S) (hT : TIn w x z F W) (hm : Hid (m ≠ -1)) (hF0 : Hid (F.length ≠ 0)) (hc0 : Hid ((cwU S W S.length).length ≠ 0)) :
    Calls Tryd.prog 25 #[.slice y S.length c1, .agg #[.int .i64 l, .slice x F.length c2, .slice z W.length c3, .int .i64 m]] w fun e w' => e = .returned (.string (ttT S l F W m)) ∧ Below w.heap.size w w' := by
  obtain ⟨i0, hii, hz0, hz1, hz2⟩ := info_parts Tryd.infoStr
  have hSh := Lib.hid hS
  have hFh := Lib.hid hT.1
  have hWh := Lib.hid hT.2
  have hth := Lib.hid htg
  have hlv := tg_lv htg
  have h6 := (schB_len htg.s).2
  have hm1 := htg.m1
  have hm0 := htg.m0
  have hjz := Lib.hid (tt_size (l := l) (F := F) (W := W) (m := m) htg)
  clear hS hT htg
  have q0 := Lib.hid (TQ.new w l x F.length c2 z W.length c3 m 37)
  obtain ⟨q, rfl⟩ := Int.eq_ofNat_of_zero_le (show 0 ≤ m by have := hm.out; omega)
  obtain ⟨bl, off, nm, lv, rfl, hbl, hSq, hk0, hk1⟩ := hSh.out.rd.var (i := q) (by omega)
  have hnq := naA_at hSq
  have hqt : ((q : Nat) : Int).toNat = q := Int.toNat_natCast q
  have e1 : ((q : Int) != -1) = true := by rw [bne_iff_ne]; exact hm.out
  have hq0 : (0 : Int) ≤ (q : Int) := by omega
  have hq1 : (q : Int) < (S.length : Int) := by omega
  obtain ⟨wa, hwa⟩ : ∃ wa, wa = ((w.alloc (.cells #[.int .i64 l, .slice x F.length c2, .slice z W.length c3, .int .i64 (q : Int)] 37)).alloc (.cells #[.string ⟨#[99, 111, 117, 110, 116]⟩] 9)).alloc (.cells #[.string ⟨#[115, 117, 109]⟩, .string nm] 9) := ⟨_, rfl⟩
  have ow0 : wa.ownsRow (w.heap.size + 1) 9 1 (.slice (some ⟨w.heap.size + 1 + 1, 0, none⟩) 2 2) (tw0 S (q : Int)).length (tC (tw0 S (q : Int))) := by
    rw [tw0_yes hm.out, hqt, hnq, hwa]
    have h0 := World.ownsRow_lit (base := w.heap.size + 1) (e := 9) (size := 1) ((w.alloc (.cells #[.int .i64 l, .slice x F.length c2, .slice z W.length c3, .int .i64 (q : Int)] 37)).alloc (.cells #[.string ⟨#[99, 111, 117, 110, 116]⟩] 9)) #[.string ⟨#[115, 117, 109]⟩, .string nm] 2 (by simp) (by unfold maxLen; omega) rfl
    rw [World.size_alloc, World.size_alloc] at h0
    exact h0
  have tq0 : TQ wa w.heap.size l x F.length c2 z W.length c3 (q : Int) := by rw [hwa]; exact q0.out.below (by repeat (first | exact Below.refl _ _ | assumption | refine Below.drew ?_ | refine below_drewN ?_ _ | refine Below.alloc' ?_ _ | (refine Below.setCell ?_ (by first | omega | (simp; done) | (simp; omega) | exact Below.size (by assumption) | exact Nat.le_trans (Below.size (by assumption)) (by simp)) _) | (refine Below.via' ?_ (by assumption)) | (refine Below.alloc ?_ (by first | omega | (simp; done) | (simp; omega) | exact Below.size (by assumption) | exact Nat.le_trans (Below.size (by assumption)) (by simp)) _) | (refine Below.via ?_ (by assumption) (by first | omega | (simp; done) | (simp; omega) | exact Below.size (by assumption) | exact Nat.le_trans (Below.size (by assumption)) (by simp)))))
  have hB0 : Below w.heap.size w wa := by rw [hwa]; exact (by repeat (first | exact Below.refl _ _ | assumption | refine Below.drew ?_ | refine below_drewN ?_ _ | refine Below.alloc' ?_ _ | (refine Below.setCell ?_ (by first | omega | (simp; done) | (simp; omega) | exact Below.size (by assumption) | exact Nat.le_trans (Below.size (by assumption)) (by simp)) _) | (refine Below.via' ?_ (by assumption)) | (refine Below.alloc ?_ (by first | omega | (simp; done) | (simp; omega) | exact Below.size (by assumption) | exact Nat.le_trans (Below.size (by assumption)) (by simp)) _) | (refine Below.via ?_ (by assumption) (by first | omega | (simp; done) | (simp; omega) | exact Below.size (by assumption) | exact Nat.le_trans (Below.size (by assumption)) (by simp)))))
  replace ow0 := Lib.hid ow0
  replace tq0 := Lib.hid tq0
  replace hwa := Lib.hid hwa
  have hza : w.heap.size + 1 < wa.heap.size := by rw [hwa.out]; simp <;> omega
  clear q0
  replace hSq := Lib.hid hSq
  replace hnq := Lib.hid hnq
  replace hqt := Lib.hid hqt
  go_enter Tryd.func25, Tryd.ntmps25
  go_upto_region 4 with fail
  rw [← hwa.out]
  obtain ⟨m, hmq⟩ : ∃ m : Int, m = (q : Int) := ⟨_, rfl⟩
  rw [← hmq] at ow0 tq0 hth hjz ⊢
  replace hmq := Lib.hid hmq
  have hft : (0 : Int) < (F.length : Int) := by have := hF0.out; omega
  have hn0 := tw0_len (S := S) (m := m)
  have hn1 := tw1_len (S := S) (l := l) (m := m)
  have hs0 := Lib.hid ow0.out.lt
  obtain ⟨t0a, t0b, t0c, t0d, t0e⟩ := tq0.out
  go_wp2_with fail
  refine (itoa_E l _ hlv.1 (by omega)).mono ?_
  rintro e w1 ⟨rfl, rfl⟩
  go_wp2_with (at_builtin; go_loud (refine wpList_append_rd _ rfl (.tmp 18) (.tmp 22) 72 rfl (w.heap.size + 1) 9 i0 (.string ⟨#[]⟩) 1 16 Tryd.underlying72 hii hz0 hz1 hz2 rfl (by decide) _ (tw0 S m).length (tC (tw0 S m)) rfl (ow0.out.alloc _) _ 2 2 rfl (Nat.le_refl _) (by intro h; cases h) (tC [wLevel, numZ l]) rfl (Rd.twoS _ _ _ _) (tC_one _) (by unfold maxLen; omega) (by omega) (by simp; omega) ?_); intro v3 w3 hown3 hgrow3 hwhere3; (have tq3 := Lib.hid ((tq0.out.below (Below.alloc' (Below.refl _ _) _)).grown hgrow3 (fun e => by have := (hs0.out _ e.symm).1; omega))); (obtain ⟨ta, tb, tc, td, te⟩ := tq3.out))
  obtain ⟨hb3, -⟩ := append_below hB0 (fun k hk => by have := (hs0.out k hk).1; omega) hgrow3 hwhere3
  have hw3 : w.heap.size + 1 ≤ w3.heap.size := by have := hgrow3.size; simp at this; omega
  have ow3 := Lib.hid (own_eq (n' := (tw1 S l m).length) (ys := tC (tw1 S l m)) hown3 (by unfold tw1; simp) (by unfold tw1; rw [tC_app]))
  clear hown3 hgrow3 hwhere3 ow0 tq0 hs0 t0a t0b t0c t0d t0e
  have hnF := ptS_len (tbS_ok hth.out.s hth.out.r)
  have hnT := tbS_len S F
  have hip := Lib.hid (inP_of hth.out.s hth.out.r rfl)
  go_wp2_with fail
  refine (elemsV_any _ _ _ _ S F _ hip.out (hSh.out.rd.below hb3) (hFh.out.below hb3).2.2).mono ?_
  rintro e w4 ⟨rfl, hoE, hb4⟩
  have hB4 := Below.via' hb3 hb4
  have hw4 : w.heap.size + 1 ≤ w4.heap.size := Nat.le_trans hw3 hb4.size
  have hn := namesText_any (some ⟨w3.heap.size, 0, none⟩) F.length (tbS S F) w4 (by have := hF0.out; omega) (by omega) (fun p hp => by
    obtain ⟨k, hk, hk2⟩ := List.getElem_of_mem hp
    obtain ⟨i, hi, hSi⟩ := tbS_get hth.out.r (k := k) (p := p) (by rw [List.getElem?_eq_getElem hk, hk2])
    exact nm_size hth.out.s (List.mem_of_getElem? hSi)) (Rd.of_own hoE)
  rw [tbS_len] at hn
  have hnh := Lib.hid hn
  clear hoE hn
  go_wp2_with fail
  refine hnh.out.mono ?_
  rintro e w5 ⟨rfl, hb5⟩
  have hB5 := Below.via' hB4 hb5
  have hw5 : w.heap.size + 1 ≤ w5.heap.size := Nat.le_trans hw4 hb5.size
  have ow5 := Lib.hid (own_below (own_below ow3.out hb4) hb5)
  have tq5 := Lib.hid ((tq3.out.below hb4).below hb5)
  have hs5 := Lib.hid ow5.out.lt
  have hn2 := tw2_len (S := S) (l := l) (F := F) (m := m)
  clear ow3 tq3 ta tb tc td te hb4 hb5 hnh
  obtain ⟨t5a, t5b, t5c, t5d, t5e⟩ := tq5.out
  obtain ⟨vv, hvv⟩ : ∃ vv, vv = v3 := ⟨_, rfl⟩
  rw [← hvv] at ow5 hs5 ⊢
  clear hvv
  go_wp2_with (at_builtin; go_loud (refine wpList_append_rd _ rfl (.tmp 28) (.tmp 34) 72 rfl (w.heap.size + 1) 9 i0 (.string ⟨#[]⟩) 1 16 Tryd.underlying72 hii hz0 hz1 hz2 rfl (by decide) _ (tw1 S l m).length (tC (tw1 S l m)) rfl (ow5.out.alloc _) _ 2 2 rfl (Nat.le_refl _) (by intro h; cases h) (tC [wBy, jnS 44 (nsL S F)]) rfl (Rd.twoS _ _ _ _) (tC_one _) (by unfold maxLen; omega) (by omega) (by simp; omega) ?_); intro v6 w6 hown6 hgrow6 hwhere6; (have tq2 := Lib.hid ((tq5.out.below (Below.alloc' (Below.refl _ _) _)).grown hgrow6 (fun e => by have := (hs5.out _ e.symm).1; omega))); (obtain ⟨ta, tb, tc, td, te⟩ := tq2.out))
  obtain ⟨hB2, -⟩ := append_below hB5 (fun k hk => by have := (hs5.out k hk).1; omega) hgrow6 hwhere6
  have hw2 : w.heap.size + 1 ≤ w6.heap.size := by have := hgrow6.size; simp at this; omega
  have ow2 := Lib.hid (own_eq (n' := (tw2 S l F m).length) (ys := tC (tw2 S l F m)) hown6 (by rw [tw2_yes hF0.out]; simp) (by rw [tw2_yes hF0.out, tC_app]))
  obtain ⟨u2, hu2⟩ : ∃ u2, u2 = v6 := ⟨_, rfl⟩
  rw [← hu2] at ow2 ⊢
  clear hown6 hgrow6 hwhere6 ow5 tq5 hs5 hu2 t5a t5b t5c t5d t5e
  have hct : (0 : Int) < ((cwU S W S.length).length : Int) := by have := hc0.out; omega
  have hn2 := tw2_len (S := S) (l := l) (F := F) (m := m)
  go_wp2_with fail
  refine (condWords_any _ _ _ _ S W _ hth.out.s hth.out.w (hSh.out.below hB2) (hWh.out.below hB2)).mono ?_
  rintro e wj ⟨u7, rfl, ho7, hb7⟩
  have hBj := Below.via' hB2 hb7
  have hjw : w.heap.size + 1 ≤ wj.heap.size := Nat.le_trans hw2 hb7.size
  obtain ⟨x7, c7, rfl, hc7, hn7⟩ := (OwR.of ho7).form
  have hrj := Lib.hid (OwR.of ho7)
  have owk := Lib.hid (own_below ow2.out hb7)
  have hsk := Lib.hid owk.out.lt
  have hs2k := Lib.hid ow2.out.lt
  clear ho7 ow2 tq2 ta tb tc td te
  have hn3 := tw3_len (S := S) (l := l) (F := F) (W := W) (m := m)
  have hncw := cwU_len S W S.length
  have hjs : (jnS 32 (tw3 S l F W m ++ cwU S W S.length)).size ≤ 10000000 := hjz.out
  go_wp2_with (first | (at_builtin; go_loud (refine wpList_append_rd _ rfl (.tmp 43) (.tmp 44) 72 rfl (w.heap.size + 1) 9 i0 (.string ⟨#[]⟩) 1 16 Tryd.underlying72 hii hz0 hz1 hz2 rfl (by decide) _ (tw2 S l F m).length (tC (tw2 S l F m)) rfl (owk.out.alloc _) _ 1 1 rfl (Nat.le_refl _) (by intro h; cases h) (tC [wWhere]) rfl (Rd.oneS _ _ _) (tC_one _) (by unfold maxLen; omega) (by omega) (by simp; omega) ?_); intro v3 w3 hown3 hgrow3 hwhere3; (have hkw : w.heap.size + 1 ≤ w3.heap.size := by have := hgrow3.size; simp at this; omega); (have ow3 := Lib.hid (own_eq (n' := (tw3 S l F W m).length) (ys := tC (tw3 S l F W m)) hown3 (by rw [tw3_yes hc0.out]; simp) (by rw [tw3_yes hc0.out, tC_app]))); (have hrc := Lib.hid (((hrj.out.below (Below.alloc' (Below.refl _ _) _)).keep hgrow3 (fun k hk => by have := (hs2k.out k hk).2; exact Or.inl (by omega))).rd))) | (at_builtin; go_loud (refine wpList_append_rd _ rfl (.tmp 46) (.tmp 47) 72 rfl (w.heap.size + 1) 9 i0 (.string ⟨#[]⟩) 1 16 Tryd.underlying72 hii hz0 hz1 hz2 rfl (by decide) _ (tw3 S l F W m).length (tC (tw3 S l F W m)) rfl (ow3.out) _ (cwU S W S.length).length c7 rfl hc7 hn7 (tC (cwU S W S.length)) (by rw [tC_len, Nat.mul_one]) (hrc.out) (tC_one _) (by unfold maxLen; omega) (by omega) hkw ?_); intro v9 w9 hown9 hgrow9 hwhere9))
  obtain ⟨hBk, -⟩ := append_below hBj (fun k hk => by have := (hsk.out k hk).1; omega) hgrow3 hwhere3
  clear hown3 hgrow3 hwhere3 owk hsk hs2k hrj hb7
  have hsA := ow3.out.lt
  obtain ⟨hb9, -⟩ := append_below0 hBk (fun k hk => by have := (hsA k hk).1; omega) hgrow9 hwhere9
  have ow9 := own_eq (n' := (tw3 S l F W m ++ cwU S W S.length).length) (ys := tC (tw3 S l F W m ++ cwU S W S.length)) hown9 (by rw [List.length_append]) (tC_app _ _).symm
  obtain ⟨g9, c9, rfl⟩ := own_some2 ow9 (by rw [List.length_append]; omega)
  have hc9 : (tw3 S l F W m ++ cwU S W S.length).length ≤ c9 := by obtain ⟨a, b, e1, e2, -⟩ := (OwR.of ow9).form; injection e1 with _ _ e3; omega
  have hrd9 := Lib.hid (Rd.of_own ow9)
  have hln9 : (tw3 S l F W m ++ cwU S W S.length).length ≤ 1000 := by rw [List.length_append]; omega
  have hl19 : 1 ≤ (tw3 S l F W m ++ cwU S W S.length).length := by rw [List.length_append]; omega
  have hjn := join_S g9 c9 32 (tw3 S l F W m ++ cwU S W S.length) w9 hl19 hln9 hc9 hjs hrd9.out
  have hjnh := Lib.hid hjn
  clear hown9 hgrow9 hwhere9 ow9 hsA hjn
  go_wp2_with fail
  refine hjnh.out.mono ?_
  rintro e w10 ⟨rfl, hb10⟩
  go_wp2
  go_ret
  exact ⟨by first | rfl | (rw [← hmq.out]; rfl), Below.via' hb9 hb10⟩
theorem tableText_any (y x z : Option Addr) (c1 c2 c3 : Nat) (P : List Int) (S : List (ByteArray × Int)) (l : Int) (F W : List Int) (m : Int) (w : World) (htg : TgP P S l F W m) (hS : SIn w y c1 S) (hT : TIn w x z F W) :
    Calls Tryd.prog 25 #[.slice y S.length c1, .agg #[.int .i64 l, .slice x F.length c2, .slice z W.length c3, .int .i64 m]] w fun e w' => e = .returned (.string (ttT S l F W m)) ∧ Below w.heap.size w w' := by
  by_cases hm : m = -1 <;> by_cases hF0 : F.length = 0 <;> by_cases hc0 : (cwU S W S.length).length = 0
  exact tt000 y x z c1 c2 c3 P S l F W m w htg hS hT (Lib.hid hm) (Lib.hid hF0) (Lib.hid hc0)
  exact tt001 y x z c1 c2 c3 P S l F W m w htg hS hT (Lib.hid hm) (Lib.hid hF0) (Lib.hid hc0)
  exact tt010 y x z c1 c2 c3 P S l F W m w htg hS hT (Lib.hid hm) (Lib.hid hF0) (Lib.hid hc0)
  exact tt011 y x z c1 c2 c3 P S l F W m w htg hS hT (Lib.hid hm) (Lib.hid hF0) (Lib.hid hc0)
  exact tt100 y x z c1 c2 c3 P S l F W m w htg hS hT (Lib.hid hm) (Lib.hid hF0) (Lib.hid hc0)
  exact tt101 y x z c1 c2 c3 P S l F W m w htg hS hT (Lib.hid hm) (Lib.hid hF0) (Lib.hid hc0)
  exact tt110 y x z c1 c2 c3 P S l F W m w htg hS hT (Lib.hid hm) (Lib.hid hF0) (Lib.hid hc0)
  exact tt111 y x z c1 c2 c3 P S l F W m w htg hS hT (Lib.hid hm) (Lib.hid hF0) (Lib.hid hc0)
end Go.Proofs.YtgkaalonmkcclaaDoor

namespace Go.Proofs.YtgkaalonmkcclaaDoor
open Go.RowKit
set_option maxRecDepth 100000

theorem paS_pos {S : List (ByteArray × Int)} {E : List Int} {i : Nat} {nm : ByteArray} {lv x : Int} (h1 : S[i]? = some (nm, lv)) (h2 : E[i]? = some x) : 1 ≤ (paS S E i).size := by
  rw [paS_at h1 h2]
  unfold paT
  rw [ByteArray.size_append, ByteArray.size_append, show (⟨#[61]⟩ : ByteArray).size = 1 from rfl]
  omega
theorem iv_get {S : List (ByteArray × Int)} {E : List Int} (hs : schB S = true) (he : edB S E = true) {k : Nat} (hk : k < (ivL S E).length) : ∃ (i : Nat) (nm : ByteArray) (lv x : Int), (ivL S E)[k]? = some (i : Int) ∧ i < S.length ∧ S[i]? = some (nm, lv) ∧ E[i]? = some x ∧ 1 ≤ x ∧ x ≤ 255 := by
  have h1 : (ivL S E)[k]? = some ((ivL S E)[k]'hk) := List.getElem?_eq_getElem hk
  obtain ⟨i, e, hi, _⟩ := pkUp_mem (List.mem_of_getElem? h1)
  obtain ⟨nm, lv, x, a, b, c, d, e2, f, g⟩ := ed_at hs he hi
  exact ⟨i, nm, lv, x, by rw [h1, e], hi, a, b, c, g⟩
theorem tK_pos {S : List (ByteArray × Int)} {E : List Int} (hs : schB S = true) (he : edB S E = true) {k : Nat} (h0 : 0 < k) (hk : k ≤ (ivL S E).length) : 1 ≤ (tK S E k).size := by
  obtain ⟨j, rfl⟩ : ∃ j, k = j + 1 := ⟨k - 1, by omega⟩
  obtain ⟨i, nm, lv, x, a, b, c, d, _⟩ := iv_get hs he (k := j) (by omega)
  have hp := paS_pos c d
  rcases Nat.eq_zero_or_pos j with rfl | hj
  · rw [tK_first a]; exact hp
  · rw [tK_next hj a, ByteArray.size_append]; omega
theorem str_ne {t : ByteArray} (h : 1 ≤ t.size) : (t.toList == (⟨#[]⟩ : ByteArray).toList) = false ∧ (t == (⟨#[]⟩ : ByteArray)) = false ∧ t ≠ ⟨#[]⟩ ∧ t.toList.isEmpty = false := by
  have hne : t ≠ ⟨#[]⟩ := by intro e; rw [e] at h; exact absurd h (by decide)
  have hd : t.data.toList ≠ (⟨#[]⟩ : ByteArray).data.toList := by
    intro e
    exact hne (ByteArray.ext (Array.ext' e))
  refine ⟨by rw [str_eq]; exact decide_eq_false hd, by rw [ba_eq]; exact decide_eq_false hd, hne, by rw [List.isEmpty_eq_false_iff, ByteArray.toList_eq]; exact hd⟩
end Go.Proofs.YtgkaalonmkcclaaDoor

namespace Go.Proofs.YtgkaalonmkcclaaDoor
open Go.RowKit
set_option maxRecDepth 100000

/-- The names of the first k places. -/
def nsK (S : List (ByteArray × Int)) (F : List Int) (k : Nat) : ByteArray := jnS 44 ((nsL S F).take k)
section
variable {S : List (ByteArray × Int)} {F : List Int} {k : Nat} {nm : ByteArray}
theorem nsK_zero : nsK S F 0 = ⟨#[]⟩ := rfl
theorem nsK_first (h : (nsL S F)[0]? = some nm) : nsK S F 1 = nm := by
  unfold nsK
  rw [take_snoc h, List.take_zero, List.nil_append, jnS_one]
theorem nsK_next (hk : 0 < k) (h : (nsL S F)[k]? = some nm) : nsK S F (k + 1) = nsK S F k ++ ⟨#[44]⟩ ++ nm := by
  have hl := (List.getElem?_eq_some_iff.1 h).1
  unfold nsK
  rw [take_snoc h, jnS_snoc]
  intro e
  have := congrArg List.length e
  rw [List.length_take, List.length_nil] at this
  omega
theorem nsL_len : (nsL S F).length = F.length := by unfold nsL; rw [List.length_map, tbS_len]
theorem nsK_all : nsK S F F.length = jnS 44 (nsL S F) := by unfold nsK; rw [List.take_of_length_le (by rw [nsL_len]; exact Nat.le_refl _)]
theorem nsK_size (hs : schB S = true) (hr : rsB S F = true) (k : Nat) : (nsK S F k).size ≤ 60 := by
  have h6 := ptS_len (tbS_ok hs hr)
  have hl : ((nsL S F).take k).length ≤ 6 := by rw [List.length_take, nsL_len]; have := tbS_len S F; omega
  have := jnS_bound (b := 44) (c := 9) (L := (nsL S F).take k) (fun t ht => by
    obtain ⟨p, hp, rfl⟩ := List.mem_map.1 (List.mem_of_mem_take ht)
    obtain ⟨j, hj, hj2⟩ := List.getElem_of_mem hp
    obtain ⟨i, hi, hSi⟩ := tbS_get hr (k := j) (p := p) (by rw [List.getElem?_eq_getElem hj, hj2])
    have := nm_size hs (List.mem_of_getElem? hSi)
    omega) hl
  unfold nsK
  omega
end
set_option maxHeartbeats 2000000 in
theorem nNames_any (y x : Option Addr) (c1 c2 : Nat) (S : List (ByteArray × Int)) (F : List Int) (w : World) (hs : schB S = true) (hr : rsB S F = true) (hS : SIn w y c1 S) (hF : IIn w x F) :
    Calls Tryd.prog 40 #[.slice y S.length c1, .slice x F.length c2] w fun e w' => e = .returned (.string (jnS 44 (nsL S F))) ∧ Below w.heap.size w w' := by
  have hSh := Lib.hid hS
  have hFh := Lib.hid hF
  have hsh := Lib.hid hs
  have hrh := Lib.hid hr
  have h6 := ptS_len (tbS_ok hs hr)
  rw [tbS_len] at h6
  clear hS hF hs hr
  go_enter Tryd.func40, Tryd.ntmps40
  go_wp2
  go_loopw [5, 10] (fun q c wr => ∃ k : Nat, k ≤ F.length ∧ c = .int .i64 k ∧ q = .string (nsK S F k) ∧ Below w.heap.size w wr) (fun _ c _ => F.length - (intOf c).toNat)
  case atStart => exact ⟨0, by omega, by go_num, by rw [nsK_zero], Below.refl _ _⟩
  case round =>
    obtain ⟨k, hk, rfl, rfl, hb⟩ := hrel
    by_cases hlt : k < F.length
    · obtain ⟨b1, o1, i0, rfl, hb1, hFk, hc0⟩ := (hFh.out.below hb).2.2.int hlt
      have hrb := rsB_bd hrh.out hFk
      obtain ⟨i, rfl⟩ := Int.eq_ofNat_of_zero_le hrb.1
      have hiS : i < S.length := by omega
      obtain ⟨b2, o2, nm, lv, rfl, hb2, hSi, hc1, hc2⟩ := (hSh.out.rd.below hb).var (i := i) hiS
      have hnk : (nsL S F)[k]? = some nm := by
        unfold nsL
        rw [List.getElem?_map, tbS_at hFk (by rw [Int.toNat_natCast]; exact hSi)]
        rfl
      have hns := name_size hsh.out hSi
      have hsz := nsK_size hsh.out hrh.out k
      have hk' : (k : Int) < (F.length : Int) := by omega
      have hk0 : (0 : Int) ≤ (k : Int) := by omega
      have hi' : (i : Int) < (S.length : Int) := by omega
      have hi0 : (0 : Int) ≤ (i : Int) := by omega
      have k1 : (⟨#[44]⟩ : ByteArray).size = 1 := rfl
      replace hFk := Lib.hid hFk
      replace hSi := Lib.hid hSi
      rcases Nat.eq_zero_or_pos k with h0 | h0
      · have hnx : Hid ((⟨#[]⟩ : ByteArray) ++ nm = nsK S F (k + 1)) := by
          unfold Hid
          subst h0
          rw [nsK_first hnk]
          exact ByteArray.empty_append
        have hz : nsK S F k = ⟨#[]⟩ := by rw [h0, nsK_zero]
        have hgt : ¬ ((0 : Int) < (k : Int)) := by omega
        have g1 : ¬ 9223372036854775807 < (⟨#[]⟩ : ByteArray).size + nm.size := by rw [show (⟨#[]⟩ : ByteArray).size = 0 from rfl]; omega
        have g2 : ¬ 9223372036854775807 < 0 + nm.size := by omega
        have g3 : ¬ 9223372036854775807 < nm.size := by omega
        rw [hz]
        replace hz := Lib.hid hz
        replace hnk := Lib.hid hnk
        replace h0 := Lib.hid h0
        clear k1
        go_wp2
        go_roundw
        case rel => exact ⟨k + 1, by omega, by go_num, by rw [← hnx.out], hb⟩
        case measure => simp [intOf]; omega
      · have hnx : Hid (nsK S F k ++ ⟨#[44]⟩ ++ nm = nsK S F (k + 1)) := (nsK_next h0 hnk).symm
        have hgt : (0 : Int) < (k : Int) := by omega
        have g1 : ¬ 9223372036854775807 < (nsK S F k).size + (⟨#[44]⟩ : ByteArray).size := by rw [k1]; omega
        have g2 : ¬ 9223372036854775807 < (nsK S F k ++ ⟨#[44]⟩).size + nm.size := by rw [ByteArray.size_append, k1]; omega
        have g3 : ¬ 9223372036854775807 < (nsK S F k).size + 1 := by omega
        have g4 : ¬ 9223372036854775807 < (nsK S F k).size + 1 + nm.size := by omega
        replace hnk := Lib.hid hnk
        clear k1
        go_wp2
        go_roundw
        case rel => exact ⟨k + 1, by omega, by go_num, by rw [← hnx.out], hb⟩
        case measure => simp [intOf]; omega
    · have hij : k = F.length := by omega
      subst hij
      have hv := Lib.hid (nsK_all (S := S) (F := F))
      go_wp2
      go_ret
      exact ⟨by first | rfl | (rw [hv.out]; rfl), hb⟩
end Go.Proofs.YtgkaalonmkcclaaDoor

namespace Go.Proofs.YtgkaalonmkcclaaDoor
open Go.RowKit
set_option maxRecDepth 100000

/-- What CellCount answers. -/
def tcN (P : List Int) (S : List (ByteArray × Int)) (l : Int) (F W : List Int) (m : Int) : Int := if tgB P S l F W m then tcZ P S l F else 0
theorem tcN_no {P : List Int} {S : List (ByteArray × Int)} {l : Int} {F W : List Int} {m : Int} (h : ¬ TgP P S l F W m) : tcN P S l F W m = 0 ∧ tgB P S l F W m = false := by
  have e := tg_no h
  exact ⟨if_f e, e⟩
theorem tcN_yes {P : List Int} {S : List (ByteArray × Int)} {l : Int} {F W : List Int} {m : Int} (h : TgP P S l F W m) : tcN P S l F W m = tcZ P S l F ∧ tgB P S l F W m = true := by
  have e := tg_iff.2 h
  exact ⟨if_t e, e⟩
theorem isv_no {P : List Int} {S : List (ByteArray × Int)} {l : Int} {F W : List Int} {m : Int} (h : geB P = false ∨ schB S = false) : tgB P S l F W m = false ∧ isvK P S = false := by
  refine ⟨tg_no (fun k => ?_), ?_⟩
  · rcases h with h | h
    · rw [k.g] at h; cases h
    · rw [k.s] at h; cases h
  · unfold isvK
    rcases h with h | h
    · rw [h]; rfl
    · rw [h, Bool.and_false]
end Go.Proofs.YtgkaalonmkcclaaDoor

namespace Go.Proofs.YtgkaalonmkcclaaDoor
open Go.RowKit
set_option maxRecDepth 100000

/-- What CellAt answers. -/
def tcaB (P : List Int) (S : List (ByteArray × Int)) (l : Int) (F W : List Int) (m i : Int) : Bool := tgB P S l F W m && inB i 0 (tcZ P S l F - 1)
def tcaA (P : List Int) (S : List (ByteArray × Int)) (l : Int) (F W : List Int) (m i : Int) : Int := if tcaB P S l F W m i then (lvL P l).getD (i / cnZ (tbS S F)).toNat 0 else 0
def tcaL (P : List Int) (S : List (ByteArray × Int)) (l : Int) (F W : List Int) (m i : Int) : List Int := if tcaB P S l F W m i then atL (tbS S F) (i % cnZ (tbS S F)) else []
section
variable {P : List Int} {S : List (ByteArray × Int)} {l : Int} {F W : List Int} {m i : Int}
theorem tca_no0 (h : tcaB P S l F W m i = false) : tcaA P S l F W m i = 0 ∧ tcaL P S l F W m i = [] := by
  unfold tcaA tcaL; rw [h]; exact ⟨rfl, rfl⟩
theorem tca_no1 (h : tgB P S l F W m = false) : tcaB P S l F W m i = false := by unfold tcaB; rw [h]; rfl
theorem tca_no2 (h : inB i 0 (tcZ P S l F - 1) = false) : tcaB P S l F W m i = false := by unfold tcaB; rw [h, Bool.and_false]
theorem tca_len : (tcaL P S l F W m i).length ≤ 1048576 := by
  unfold tcaL
  split
  · rename_i h
    unfold tcaB at h
    rw [Bool.and_eq_true] at h
    have h1 := tg_iff.1 h.1
    have := ptS_len (tbS_ok h1.s h1.r)
    rw [atL_len]
    omega
  · simp
/-- What an index within the cells gives. -/
theorem tca_at (h : TgP P S l F W m) (h0 : 0 ≤ i) (h1 : i < tcZ P S l F) : ∃ (k : Nat) (a : Int), i / cnZ (tbS S F) = k ∧ k < (lvL P l).length ∧ (lvL P l)[k]? = some a ∧ 0 ≤ i % cnZ (tbS S F) ∧ i % cnZ (tbS S F) < cnZ (tbS S F) ∧
    tcaB P S l F W m i = true ∧ tcaA P S l F W m i = a ∧ tcaL P S l F W m i = atL (tbS S F) (i % cnZ (tbS S F)) := by
  have hb : tcaB P S l F W m i = true := by unfold tcaB; rw [tg_iff.2 h, (inB_iff _ _ _).2 ⟨h0, by omega⟩]; rfl
  have hc := pt_cn (tbS_ok h.s h.r)
  have e1 : tcaA P S l F W m i = (lvL P l).getD (i / cnZ (tbS S F)).toNat 0 := if_t hb
  have e2 : tcaL P S l F W m i = atL (tbS S F) (i % cnZ (tbS S F)) := by unfold tcaL; rw [hb]; rfl
  have hm0 := Int.emod_nonneg i (show cnZ (tbS S F) ≠ 0 by omega)
  have hm1 := Int.emod_lt_of_pos i (show 0 < cnZ (tbS S F) by omega)
  have hd0 : 0 ≤ i / cnZ (tbS S F) := Int.ediv_nonneg h0 (by omega)
  have hd1 : i / cnZ (tbS S F) < (lvL P l).length := by
    apply Int.ediv_lt_of_lt_mul (by omega)
    unfold tcZ at h1
    exact h1
  obtain ⟨k, hk⟩ := Int.eq_ofNat_of_zero_le hd0
  rw [hk] at hd1 e1
  have hkl : k < (lvL P l).length := by omega
  rw [Int.toNat_natCast, List.getD_eq_getElem?_getD, List.getElem?_eq_getElem hkl] at e1
  exact ⟨k, _, hk, hkl, List.getElem?_eq_getElem hkl, hm0, hm1, hb, e1, e2⟩
end
theorem ret_ivb {a b : Int} {u : Value} {p q : Bool} (h : a = b) (k : p = q) : Ending.returned (.tuple #[.int .i64 a, u, .bool p]) = .returned (.tuple #[.int .i64 b, u, .bool q]) := by rw [h, k]
/-- An integer, a list and a Bool. -/
def RetIL (a : Int) (L : List Int) (b : Bool) (w : World) (e : Ending) (w' : World) : Prop :=
  ∃ u, e = .returned (.tuple #[.int .i64 a, u, .bool b]) ∧ w'.ownsRow w.heap.size 3 1 u L.length (iC L) ∧ Below w.heap.size w w'
theorem retIL_no {a : Int} {L : List Int} {b : Bool} {w w' : World} (h : a = 0 ∧ L = []) (k : b = false) (hB : Below w.heap.size w w') : RetIL a L b w (.returned (.tuple #[.int .i64 0, .slice none 0 0, .bool false])) w' := by
  rw [h.1, h.2, k]
  exact ⟨_, rfl, World.ownsRow_nil _ _ _ _, hB⟩
end Go.Proofs.YtgkaalonmkcclaaDoor
