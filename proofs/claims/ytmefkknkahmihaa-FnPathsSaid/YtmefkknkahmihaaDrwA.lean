/-
  The model's draws of chapter 4: geographies.
-/
import Derived.Test.YtmefkknkahmihaaDrwG
import Derived.Test.YtmefkknkahmihaaApz
import Derived.Test.YtmefkknkahmihaaGeoL
namespace Go.Proofs.Ytmefkknkahmihaa
open Go.RowKit
set_option maxRecDepth 100000

/-- Numbers of areas that are drawn. -/
def GeL (L : List Int) : Prop := ∀ m ∈ L, -1 ≤ m ∧ m ≤ 40
theorem GeL.nil : GeL [] := fun m hm => by cases hm
theorem GeL.snoc {L : List Int} {n : Int} (h : GeL L) (h1 : -1 ≤ n) (h2 : n ≤ 40) : GeL (L ++ [n]) := by
  intro m hm
  rcases List.mem_append.1 hm with hm | hm
  · exact h m hm
  · simp at hm
    subst hm
    exact ⟨h1, h2⟩
theorem GeL.set {L : List Int} {n : Int} (h : GeL L) (k : Nat) (h1 : -1 ≤ n) (h2 : n ≤ 40) : GeL (L.set k n) := by
  intro m hm
  rcases List.mem_or_eq_of_mem_set hm with hm | rfl
  · exact h m hm
  · exact ⟨h1, h2⟩
theorem GeL.zeros {L : List Int} (h : GeL L) (m : Nat) : GeL (L ++ zeL m) := by
  intro a ha
  rcases List.mem_append.1 ha with ha | ha
  · exact h a ha
  · have := List.eq_of_mem_replicate ha
    subst this
    omega
/-- The lists that the draws begin with. -/
def gl (i : Nat) : List Int := if i = 0 then [-1, 0, 0] else if i = 1 then [-1, 0, 0, 1, 1, 2, 2] else if i = 2 then [-1, 0, 0, 0, 1, 1, 2, 3] else if i = 3 then [-1, 0, 0, 1, 1] else if i = 4 then [-1] else [-1, 0, 1, 2]
theorem gl_ok (i : Nat) : GeL (gl i) ∧ 1 ≤ (gl i).length ∧ (gl i).length ≤ 8 := by
  unfold gl GeL
  repeat' split
  all_goals refine ⟨?_, by simp, by simp⟩; intro m hm; simp at hm; omega
def GeoPost (b : Nat) (x : Option Addr) (n cap k more lo hi : Nat) (w : World) (e : Ending) (w' : World) : Prop :=
  ∃ (L : List Int) (v : Value) (k' : Nat), e = .returned (.agg #[v]) ∧ GeL L ∧ lo ≤ L.length ∧ L.length ≤ hi ∧ k ≤ k' ∧ k' ≤ k + more ∧ w'.ownsRow w.heap.size 3 1 v L.length (iC L) ∧ CurAt w' b x n cap k' ∧ w.grownBy w' (some b)
theorem own_apart {w : World} {base e size n : Nat} {v : Value} {xs : List Value} (h : w.ownsRow base e size v n xs) {g : Nat} (hne : v.ownBlock ≠ some g) (o : Nat) (u : Value) : (w.setCell ⟨g, o, none⟩ u).ownsRow base e size v n xs :=
  h.kept (grown_setP w ⟨g, o, none⟩ u) (Or.inr hne)
def gA (w : World) (L : List Int) : World := w.alloc (.cells (L.map (Value.int .i64)).toArray 3)
theorem gA_rd (w : World) (L : List Int) (g : Nat) (h : w.heap.size = g) : Rd (gA w L) (some ⟨g, 0, none⟩) (iC L) := by
  subst h
  refine Or.inr ⟨w.heap.size, 0, rfl, by simp [gA], fun j u hj => ?_⟩
  unfold gA
  rw [World.cell?_alloc_at _ _ _ _ rfl, Nat.zero_add, List.getElem?_toArray]
  exact hj
def geoV (w : World) : World := gA (gA (gA (gA (gA (gA (w.alloc (.cells #[.slice none 0 0] 26)) [-1, 0, 0]) [-1, 0, 0, 1, 1, 2, 2]) [-1, 0, 0, 0, 1, 1, 2, 3]) [-1, 0, 0, 1, 1]) [-1]) [-1, 0, 1, 2]
def geoA (s : Nat) : Array Value := #[.slice (some ⟨s + 1, 0, none⟩) 3 3, .slice (some ⟨s + 1 + 1, 0, none⟩) 7 7, .slice (some ⟨s + 1 + 1 + 1, 0, none⟩) 8 8, .slice (some ⟨s + 1 + 1 + 1 + 1, 0, none⟩) 5 5, .slice (some ⟨s + 1 + 1 + 1 + 1 + 1, 0, none⟩) 1 1, .slice (some ⟨s + 1 + 1 + 1 + 1 + 1 + 1, 0, none⟩) 4 4]
def geoW (w : World) : World := (geoV w).alloc (.cells (geoA w.heap.size) 24)
theorem geoV_size (w : World) : (geoV w).heap.size = w.heap.size + 7 := by simp [geoV, gA]
theorem geoV_rd (w : World) (i : Nat) (hi : i < 6) : Rd (geoV w) (some ⟨w.heap.size + 1 + i, 0, none⟩) (iC (gl i)) := by
  rcases (by omega : i = 0 ∨ i = 1 ∨ i = 2 ∨ i = 3 ∨ i = 4 ∨ i = 5) with rfl | rfl | rfl | rfl | rfl | rfl
  · exact (((((gA_rd _ _ (w.heap.size + 1) (by simp)).alloc _).alloc _).alloc _).alloc _).alloc _
  · exact ((((gA_rd _ _ (w.heap.size + 1 + 1) (by simp [gA])).alloc _).alloc _).alloc _).alloc _
  · exact (((gA_rd _ _ (w.heap.size + 1 + 2) (by simp [gA])).alloc _).alloc _).alloc _
  · exact ((gA_rd _ _ (w.heap.size + 1 + 3) (by simp [gA])).alloc _).alloc _
  · exact (gA_rd _ _ (w.heap.size + 1 + 4) (by simp [gA])).alloc _
  · exact gA_rd _ _ (w.heap.size + 1 + 5) (by simp [gA])
theorem geoA_at (s i : Nat) (hi : i < 6) : (geoA s)[i]? = some (.slice (some ⟨s + 1 + i, 0, none⟩) (gl i).length (gl i).length) := by
  rcases (by omega : i = 0 ∨ i = 1 ∨ i = 2 ∨ i = 3 ∨ i = 4 ∨ i = 5) with rfl | rfl | rfl | rfl | rfl | rfl <;> rfl
theorem geoW_grown (w : World) (b : Nat) : w.grownBy (geoW w) (some b) :=
  grown_alloc (grown_alloc (grown_alloc (grown_alloc (grown_alloc (grown_alloc (grown_alloc (grown_alloc (grown_refl _ _) _) _) _) _) _) _) _) _
theorem grown_al {w w' : World} {r : Option Nat} (h : w.grownBy w' r) (o : Obj) : w.grownBy (w'.alloc o) r :=
  ⟨h.os, h.tape, h.output, Nat.le_trans h.size (by simp), fun k hk hne => (heap_alloc_old w' o (Nat.lt_of_lt_of_le hk h.size)).trans (h.block k hk hne)⟩
theorem geoW_wb (w : World) : Wb (geoW w) w.heap.size 26 #[.slice none 0 0] :=
  wb_grown (Wb.new w _ _) (grown_al (grown_al (grown_al (grown_al (grown_al (grown_al (World.grownBy_alloc _ _ none) _) _) _) _) _) _) (by intro j hj; cases hj)
theorem geoW_out (w : World) : Wb (geoW w) (w.heap.size + 7) 24 (geoA w.heap.size) := by rw [← geoV_size]; exact Wb.new _ _ _
theorem geoW_rd (w : World) (i : Nat) (hi : i < 6) : Rd (geoW w) (some ⟨w.heap.size + 1 + i, 0, none⟩) (iC (gl i)) := (geoV_rd w i hi).alloc _
theorem geoW_cur {w : World} {b : Nat} {x : Option Addr} {n cap k : Nat} (h : CurAt w b x n cap k) : CurAt (geoW w) b x n cap k :=
  (((((((h.alloc _).alloc _).alloc _).alloc _).alloc _).alloc _).alloc _).alloc _
theorem geoW_by {w : World} {x : Option Addr} {n : Nat} (h : ByRd w x n) : ByRd (geoW w) x n :=
  (((((((h.alloc _).alloc _).alloc _).alloc _).alloc _).alloc _).alloc _).alloc _
set_option maxHeartbeats 8000000 in
theorem geo_any (b : Nat) (x : Option Addr) (n cap k : Nat) (w : World) (hk : k + 300 ≤ 1000000000000) (hC : CurAt w b x n cap k) (hB : ByRd w x n) :
    Calls Try.prog 33 #[.pointer (some ⟨b, 0, none⟩)] w (GeoPost b x n cap k 12 1 11 w) := by
  obtain ⟨i0, hi, hz0, hz1, hz2⟩ := info_parts Try.infoInt
  have hbs := hC.inside
  have hap := Lib.hid hC.apart
  have hC2 := Lib.hid hC
  have hB2 := Lib.hid hB
  clear hC hB
  go_enter Try.func33, Try.ntmps33
  go_wp2_with fail
  refine (pick_any b x n cap k 6 (geoW w) (by omega) (by omega) (by omega) (geoW_cur hC2.out) (geoW_by hB2.out)).mono ?_
  rintro e w1 ⟨m, k1, rfl, m0, m1, ka, kb, hC1, hg1⟩
  obtain ⟨j, rfl⟩ := Int.eq_ofNat_of_zero_le m0
  have hj : j < 6 := by omega
  have G1 := Lib.hid (grown_trans (geoW_grown w b) hg1)
  have hsz : (geoW w).heap.size = w.heap.size + 8 := by show (World.alloc _ _).heap.size = _; simp [geoV_size]
  have R1 := Lib.hid (wb_grown (geoW_wb w) hg1 (fun j hj => by injection hj with hj; omega))
  have c1 := ((wb_grown (geoW_out w) hg1 (fun j hj => by injection hj with hj; omega)).read j).trans (geoA_at _ _ hj)
  have L1 := Lib.hid ((geoW_rd w j hj).keep hg1 (fun c off h => by injection h with h; injection h with h; intro e; injection e with e; omega))
  have hs1 := hg1.size
  rw [hsz] at hs1
  obtain ⟨g1, g2, g3⟩ := gl_ok j
  obtain ⟨M, hM⟩ : ∃ M, gl j = M := ⟨_, rfl⟩
  rw [hM] at c1 L1 g1 g2 g3
  have g1 := Lib.hid g1
  replace hC1 := Lib.hid hC1
  clear hsz hg1 hM
  have hj' : (j : Int) < 6 := by omega
  go_wp2_with fail
  refine (l1Own_any _ _ M w1 (by omega) (Nat.le_refl _) (by intro h; cases h) L1.out).mono ?_
  rintro e w2 ⟨v, rfl, ho2, hb2⟩
  have hs2 := hb2.size
  have hlo := Lib.hid ho2.lt
  have C2 := Lib.hid (hC1.out.below hb2)
  have G2 := Lib.hid (grown_trans G1.out (grown_of_below hb2 b))
  have R2 := Lib.hid (R1.out.kept hb2)
  replace ho2 := Lib.hid ho2
  clear hb2 hC1 G1 R1 L1 c1
  obtain ⟨z, cz, rfl, hcz, hzn⟩ := own_form ho2.out
  have V3 := Lib.hid (Wb.new w2 26 #[.slice z M.length cz])
  have C3 := Lib.hid (C2.out.alloc (.cells #[.slice z M.length cz] 26))
  have G3 := Lib.hid (grown_alloc G2.out (.cells #[.slice z M.length cz] 26))
  have R3 := Lib.hid (wb_grown R2.out (World.grownBy_alloc w2 (.cells #[.slice z M.length cz] 26) none) (by intro i hi; cases hi))
  have hnb : (Value.slice z M.length cz).ownBlock ≠ some w2.heap.size := fun e => by have := (hlo.out _ e).2; omega
  have O3 := Lib.hid (ho2.out.alloc (.cells #[.slice z M.length cz] 26))
  replace hnb := Lib.hid hnb
  clear C2 G2 R2 ho2 hlo
  go_wp2_with fail
  refine (pick_any b x n cap k1 4 _ (by omega) (by omega) (by omega) C3.out (hB2.out.grown G3.out hap.out)).mono ?_
  rintro e w4 ⟨m, k2, rfl, m0, m1, kc, kd, hC4, hg4⟩
  obtain ⟨q, rfl⟩ := Int.eq_ofNat_of_zero_le m0
  have V4 := Lib.hid (wb_grown V3.out hg4 (fun j hj => by injection hj with hj; omega))
  have R4 := Lib.hid (wb_grown R3.out hg4 (fun j hj => by injection hj with hj; omega))
  have G4 := Lib.hid (grown_trans G3.out hg4)
  have O4 := Lib.hid (own_cur2 O3.out (by omega) hg4)
  replace hC4 := Lib.hid hC4
  clear V3 R3 G3 O3 C3 hg4
  go_wp2_with fail
  go_loopw [5] (fun c wr => ∃ (i kk : Nat) (L : List Int) (u : Value), i ≤ 3 ∧ 1 ≤ L.length ∧ L.length + i ≤ 11 ∧ k ≤ kk ∧ kk + 2 * i ≤ k + 10 ∧ c = .int .i64 i ∧ Hid (wr.ownsRow w1.heap.size 3 1 u L.length (iC L)) ∧ Hid (GeL L) ∧ Hid (u.ownBlock ≠ some w2.heap.size) ∧ Hid (CurAt wr b x n cap kk) ∧ Hid (w.grownBy wr (some b)) ∧ Hid (Wb wr w2.heap.size 26 #[u]) ∧ Hid (Wb wr w.heap.size 26 #[.slice none 0 0])) (fun c _ => (intOf c).toNat)
  case atStart => exact ⟨q, k2, M, _, by omega, g2, by omega, by omega, by omega, rfl, O4.out, g1.out, hnb.out, hC4.out, G4.out, V4.out, R4.out⟩
  case round =>
    clear O4 g1 hnb hC4 G4 V4 R4 g2 g3
    obtain ⟨i, kk, L, u, hi3, hL1, hL2, hk1, hk2, rfl, hown, hI, hnb, hC, hg, hV, hR⟩ := hrel
    have hbr := hC.out.inside
    have hws := hg.out.size
    have hgs := hV.out.inside
    by_cases hi0 : (0 : Int) < (i : Int)
    · have hi1 : Hid (((i - 1 : Nat) : Int) = (i : Int) - 1) := by unfold Hid; omega
      have c0 := hV.out.read 0
      have hCd : Hid (CurAt wr.drew b x n cap kk) := hC.out
      have hBd : Hid (ByRd wr.drew x n) := ByRd.drewW (hB2.out.grown hg.out hap.out)
      obtain ⟨z, cz, rfl, -, -⟩ := own_form hown.out
      have hlow := Lib.hid hown.out.lt
      go_wp2_with fail
      go_region_law (first
        | (go_simp; go_at_call 34; refine (pick_any b x n cap kk L.length wr.drew (by omega) (by omega) (by omega) hCd.out hBd.out).mono ?_; rintro e w4 ⟨q4, k4, rfl, q40, q41, ke, kf, hC4, hg4⟩; (have hg4 := drew_back hg4); (have O4 := Lib.hid (own_cur2 hown.out (by omega) hg4)); (have V4 := Lib.hid (wb_grown hV.out hg4 (fun j hj => by injection hj with hj; omega))); (have c41 := V4.out.read 0); (have f41 := V4.out.free 0); (have hs4 := V4.out.inside); (have hC4 := Lib.hid hC4); (have hg4 := Lib.hid hg4))
        | (go_loud (refine step_append_rd _ rfl (.tmp 29) (.tmp 35) 24 rfl w1.heap.size 3 i0 (.int .i64 0) 1 8 Try.underlying24 hi hz0 hz1 hz2 rfl (by decide) _ L.length (iC L) rfl (O4.out.alloc _) _ 1 1 rfl (Nat.le_refl _) (by intro h; cases h) (iC [q4]) rfl (Rd.oneI_at _ _ _ _ (by simp)) (iC_one _) (by unfold maxLen; omega) (by omega) (by simp; omega) ?_); intro v5 w5 hown5 hgrow5 hwhere5; (obtain ⟨z5, c5, rfl, -, -⟩ := own_form hown5); (have hgr : (w4.alloc (.cells #[.int .i64 q4] 3)).grownBy w5 (Value.ownBlock (.slice z L.length cz)) := hgrow5); (have V5 := Lib.hid (wb_grown (wb_grown V4.out (World.grownBy_alloc _ _ none) (by intro i hi; cases hi)) hgr (fun i hi e => hnb.out (by rw [hi, e])))); (have c51 := V5.out.read 0); (have f51 := V5.out.free 0))
        )
      all_goals
        have R5 := wb_grown (wb_grown (wb_grown hR.out hg4.out (fun j hj => by injection hj with hj; omega)) (World.grownBy_alloc _ _ none) (by intro i hi; cases hi)) hgr (fun i hi => by have := (hlow.out i hi).1; omega)
        have G5 := grown_far (grown_alloc (grown_trans hg.out hg4.out) _) hgr (fun j hj => by have := (hlow.out j hj).1; omega)
        have C5 := (hC4.out.alloc _).far hgr (fun j hj => by have := (hlow.out j hj).1; omega)
        have hown6 := own_eq (n' := (L ++ [q4]).length) hown5 (by simp) (iC_app _ _).symm
        have hnb5 : Hid ((Value.slice z5 (L.length + 1) c5).ownBlock ≠ some w2.heap.size) := by
          rcases hwhere5 with h | h
          · intro e; exact hnb.out (h.symm.trans e)
          · intro e; have := h.symm.trans e; injection this with this; (try simp at this); omega
        clear hgrow5 hwhere5
        go_wp2
        go_roundw
        case rel => exact ⟨i - 1, k4, L ++ [q4], _, by omega, by simp, by simp; omega, by omega, by omega, by go_num, own_apart hown6 hnb5.out 0 _, hI.out.snoc (by omega) (by omega), hnb5, C5.set (show w2.heap.size ≠ b by omega) 0 _, grown_set G5 (show w.heap.size ≤ w2.heap.size by omega) 0 _, V5.out.put 0 _, R5.far ⟨w2.heap.size, 0, none⟩ (show w.heap.size ≠ w2.heap.size by omega) _⟩
        case measure => simp [intOf]; omega
    · have hij : i = 0 := by omega
      subst hij
      obtain ⟨z, cz, rfl, -, -⟩ := own_form hown.out
      have c0 := hV.out.read 0
      have r0 := hR.out.read 0
      have fr0 := hR.out.free 0
      go_wp2_with fail
      refine bodyPost_ret (v := .agg #[.slice z L.length cz]) (by simp [results, Try.results33, go_sem, *]) rfl ?_
      exact ⟨L, _, kk, rfl, hI.out, hL1, by omega, by omega, by omega, own_more (own_farC hown.out ⟨w.heap.size, 0, none⟩ (show w.heap.size < w1.heap.size by omega) _) (by omega), hC.out.set (by omega) 0 _, grown_set hg.out (Nat.le_refl _) 0 _⟩

/-- What stands after a change of the drawn geography: the answer's cell, the geography's box, its row. -/
def AnS (b : Nat) (x : Option Addr) (n cap k g lo : Nat) (w wx : World) : Prop :=
  ∃ (L : List Int) (u : Value) (kk : Nat), GeL L ∧ L.length ≤ 31 ∧ k ≤ kk ∧ kk ≤ k + 10 ∧ wx.ownsRow lo 3 1 u L.length (iC L) ∧ CurAt wx b x n cap kk ∧ w.grownBy wx (some b) ∧ Wb wx g 26 #[u] ∧ Wb wx w.heap.size 26 #[.slice none 0 0]
set_option maxHeartbeats 8000000 in
theorem anyGeo_any (b : Nat) (x : Option Addr) (n cap k : Nat) (w : World) (hk : k + 400 ≤ 1000000000000) (hC : CurAt w b x n cap k) (hB : ByRd w x n) :
    Calls Try.prog 23 #[.pointer (some ⟨b, 0, none⟩)] w (GeoPost b x n cap k 30 0 31 w) := by
  obtain ⟨i0, hi, hz0, hz1, hz2⟩ := info_parts Try.infoInt
  have hbs := hC.inside
  have hap := Lib.hid hC.apart
  have hC2 := Lib.hid hC
  have hB2 := Lib.hid hB
  clear hC hB
  have C0 := Lib.hid (hC2.out.alloc (.cells #[.slice none 0 0] 26))
  have B0 := Lib.hid (hB2.out.alloc (.cells #[.slice none 0 0] 26))
  have R0 := Lib.hid (Wb.new w 26 #[.slice none 0 0])
  have G0 := Lib.hid (grown_alloc (grown_refl w (some b)) (.cells #[.slice none 0 0] 26))
  go_enter Try.func23, Try.ntmps23
  go_wp2_with fail
  refine (geo_any b x n cap k _ (by omega) C0.out B0.out).mono ?_
  rintro e w1 ⟨L, v, k1, rfl, hI, hL1, hL2, ka, kb, hO1, hC1, hg1⟩
  have hs1 := hg1.size
  simp only [World.size_alloc] at hs1 hO1
  obtain ⟨z, cz, rfl, -, -⟩ := own_form hO1
  have hlo := hO1.lt
  have G1 := grown_trans G0.out hg1
  have R1 := wb_grown R0.out hg1 (fun j hj => by injection hj with hj; omega)
  have V2 := Lib.hid (Wb.new w1 26 #[.slice z L.length cz])
  have C2 := Lib.hid (hC1.alloc (.cells #[.slice z L.length cz] 26))
  have G2 := Lib.hid (grown_alloc G1 (.cells #[.slice z L.length cz] 26))
  have R2 := Lib.hid (wb_grown R1 (World.grownBy_alloc w1 (.cells #[.slice z L.length cz] 26) none) (by intro i hi; cases hi))
  have hnb : (Value.slice z L.length cz).ownBlock ≠ some w1.heap.size := fun e => by have := (hlo _ e).2; omega
  have O2 := Lib.hid (hO1.alloc (.cells #[.slice z L.length cz] 26))
  replace hnb := Lib.hid hnb
  replace hI := Lib.hid hI
  clear hC1 G1 R1 hO1 hlo hg1 C0 B0 R0 G0
  go_wp2_with fail
  refine (pick_any b x n cap k1 24 _ (by omega) (by omega) (by omega) C2.out (hB2.out.grown G2.out hap.out)).mono ?_
  rintro e w2 ⟨m, k2, rfl, m0, m1, kc, kd, hC3, hg3⟩
  have hs2 := hg3.size
  simp only [World.size_alloc] at hs2
  have V3 := Lib.hid (wb_grown V2.out hg3 (fun j hj => by injection hj with hj; omega))
  have R3 := Lib.hid (wb_grown R2.out hg3 (fun j hj => by injection hj with hj; omega))
  have G3 := Lib.hid (grown_trans G2.out hg3)
  have O3 := Lib.hid (own_cur2 O2.out (by omega) hg3)
  replace hC3 := Lib.hid hC3
  clear V2 R2 G2 O2 C2 hg3
  have hlow := Lib.hid O3.out.lt
  obtain ⟨g, cg, hv⟩ := own_some2 O3.out (by omega)
  injection hv with hv1 hv2 hv3
  subst hv1 hv3
  have hgl := own_lt O3.out
  have hgn : g ≠ w1.heap.size := fun e => hnb.out (by rw [e]; rfl)
  have c0 := V3.out.read 0
  have r0 := R3.out.read 0
  have fr0 := R3.out.free 0
  by_cases e0 : m = 0
  · subst e0
    have hL0 : (0 : Int) < (L.length : Int) := by omega
    obtain ⟨u0, hu0, c1⟩ := own_cell O3.out (j := 0) (by omega)
    have f1 := O3.out.frozenAt 0
    replace hu0 := Lib.hid hu0
    go_wp2_with fail
    refine bodyPost_ret (v := .agg #[.slice (some ⟨g, 0, none⟩) L.length cz]) (by simp [results, Try.results23, go_sem, *]) rfl ?_
    have hr := (O3.out.stored 0 (.int .i64 0)).1
    have es : (iC L).set 0 (.int .i64 0) = iC (L.set 0 0) := by unfold iC; rw [List.map_set]
    rw [es] at hr
    exact ⟨L.set 0 0, _, k2, rfl, hI.out.set 0 (by omega) (by omega), by omega, by simp; omega, by omega, by omega, own_eq (own_more (own_farC hr ⟨w.heap.size, 0, none⟩ (show w.heap.size < w.heap.size + 1 by omega) _) (by omega)) (by simp) rfl, (hC3.out.set (show g ≠ b by omega) 0 _).set (by omega) 0 _, grown_set (grown_set G3.out (show w.heap.size ≤ g by omega) 0 _) (Nat.le_refl _) 0 _⟩
  by_cases e1 : m = 1
  · subst e1
    have hCd : Hid (CurAt (w2.alloc (.cells #[.int .i64 (-1), .int .i64 (L.length : Int), .int .i64 0] 3)).drew b x n cap k2) := hC3.out.alloc (.cells #[.int .i64 (-1), .int .i64 (L.length : Int), .int .i64 0] 3)
    have cX : (w2.alloc (.cells #[.int .i64 (-1), .int .i64 (L.length : Int), .int .i64 0] 3)).cell? ⟨w1.heap.size, 0, none⟩ = some (.slice (some ⟨g, 0, none⟩) L.length cz) := (wb_grown V3.out (World.grownBy_alloc w2 (.cells #[.int .i64 (-1), .int .i64 (L.length : Int), .int .i64 0] 3) none) (by intro j hj; cases hj)).read 0
    have hgX : w2.grownBy (w2.alloc (.cells #[.int .i64 (-1), .int .i64 (L.length : Int), .int .i64 0] 3)) (some b) := grown_alloc (grown_refl w2 (some b)) _
    replace hgX := Lib.hid hgX
    have hBd : Hid (ByRd (w2.alloc (.cells #[.int .i64 (-1), .int .i64 (L.length : Int), .int .i64 0] 3)).drew x n) := ByRd.drewW ((hB2.out.grown G3.out hap.out).alloc _)
    have hbw := hC3.out.inside
    go_wp2_with fail
    go_region_law (first
      | (go_simp; go_at_call 35; refine (among_any b x n cap k2 w2.heap.size 3 [-1, (L.length : Int), 0] (w2.alloc (.cells #[.int .i64 (-1), .int .i64 (L.length : Int), .int .i64 0] 3)).drew (by omega) (by simp) (by simp) (by omega) (IRd.lit w2 [-1, (L.length : Int), 0] 3) hCd.out hBd.out).mono ?_; rintro e w4 ⟨q4, k4, rfl, hmem, ke, kf, hC4, hg4⟩; (have hq4 : -1 ≤ q4 ∧ q4 ≤ 40 := by (simp at hmem; omega)); clear hmem; (have hg4 := grown_trans hgX.out (drew_back hg4)); (have O4 := Lib.hid (own_cur2 O3.out (by omega) hg4)); (have V4 := Lib.hid (wb_grown V3.out hg4 (fun j hj => by injection hj with hj; omega))); (have c41 := V4.out.read 0); (have f41 := V4.out.free 0); (have hs4 := V4.out.inside); (have hC4 := Lib.hid hC4); (have hg4 := Lib.hid hg4))
      | (go_loud (refine step_append_rd _ rfl (.tmp 16) (.tmp 23) 24 rfl (w.heap.size + 1) 3 i0 (.int .i64 0) 1 8 Try.underlying24 hi hz0 hz1 hz2 rfl (by decide) _ L.length (iC L) rfl (O4.out.alloc _) _ 1 1 rfl (Nat.le_refl _) (by intro h; cases h) (iC [q4]) rfl (Rd.oneI_at _ _ _ _ (by simp)) (iC_one _) (by unfold maxLen; omega) (by omega) (by simp; omega) ?_); intro v5 w5 hown5 hgrow5 hwhere5; (obtain ⟨z5, c5, rfl, -, -⟩ := own_form hown5); (have hgr : (w4.alloc (.cells #[.int .i64 q4] 3)).grownBy w5 (Value.ownBlock (.slice (some ⟨g, 0, none⟩) L.length cz)) := hgrow5); (have V5 := Lib.hid (wb_grown (wb_grown V4.out (World.grownBy_alloc _ _ none) (by intro i hi; cases hi)) hgr (fun i hi e => hnb.out (by rw [hi, e])))); (have c51 := V5.out.read 0); (have f51 := V5.out.free 0))
      )
    all_goals
      have R5 := wb_grown (wb_grown (wb_grown R3.out hg4.out (fun j hj => by injection hj with hj; omega)) (World.grownBy_alloc _ _ none) (by intro i hi; cases hi)) hgr (fun i hi => by have := (hlow.out i hi).1; omega)
      have G5 := grown_far (grown_alloc (grown_trans G3.out hg4.out) _) hgr (fun j hj => by have := (hlow.out j hj).1; omega)
      have C5 := (hC4.out.alloc _).far hgr (fun j hj => by have := (hlow.out j hj).1; omega)
      have hown6 := own_eq (n' := (L ++ [q4]).length) hown5 (by simp) (iC_app _ _).symm
      have hnb5 : (Value.slice z5 (L.length + 1) c5).ownBlock ≠ some w1.heap.size := by
        rcases hwhere5 with h | h
        · intro e; exact hnb.out (h.symm.trans e)
        · intro e; have := h.symm.trans e; injection this with this; (try simp at this); omega
      have O6 := Lib.hid (own_apart hown6 hnb5 0 (.slice z5 (L.length + 1) c5))
      have C6 := Lib.hid (C5.set (show w1.heap.size ≠ b by omega) 0 (.slice z5 (L.length + 1) c5))
      have G6 := Lib.hid (grown_set G5 (show w.heap.size ≤ w1.heap.size by omega) 0 (.slice z5 (L.length + 1) c5))
      have R6 := R5.far ⟨w1.heap.size, 0, none⟩ (show w.heap.size ≠ w1.heap.size by omega) (.slice z5 (L.length + 1) c5)
      have V6 := V5.out.put 0 (.slice z5 (L.length + 1) c5)
      have d0 := V6.read 0
      have d1 := R6.read 0
      have d2 := R6.free 0
      clear hgrow5 hwhere5 R5 G5 C5 hown5 hown6 R6 V6
      go_wp2_with fail
      refine bodyPost_ret (v := .agg #[.slice z5 (L.length + 1) c5]) (by simp [results, Try.results23, go_sem, *]) rfl ?_
      exact ⟨L ++ [q4], _, k4, rfl, hI.out.snoc (by omega) (by omega), by omega, by simp; omega, by omega, by omega, own_more (own_farC O6.out ⟨w.heap.size, 0, none⟩ (show w.heap.size < w.heap.size + 1 by omega) _) (by omega), C6.out.set (by omega) 0 _, grown_set G6.out (Nat.le_refl _) 0 _⟩
  by_cases e2 : m = 2
  · subst e2
    go_wp2_with fail
    refine bodyPost_ret (v := .agg #[.slice none 0 0]) (by simp [results, Try.results23, go_sem, *]) rfl ?_
    exact ⟨[], _, k2, rfl, GeL.nil, by omega, by simp, by omega, by omega, World.ownsRow_nil _ _ _ _, hC3.out.set (by omega) 0 _, grown_set G3.out (Nat.le_refl _) 0 _⟩
  by_cases e3 : m = 3
  · subst e3
    have hCd : Hid (CurAt w2.drew b x n cap k2) := hC3.out
    have hBd : Hid (ByRd w2.drew x n) := ByRd.drewW (hB2.out.grown G3.out hap.out)
    have hw0 : IntKind.i64.wrap (30 - (L.length : Int)) = 30 - (L.length : Int) := IntWalk.i64_in _ (by omega)
    go_wp2_with fail
    go_region_law (first
      | (go_simp; go_at_call 34; refine (pick_any b x n cap k2 2 w2.drew (by omega) (by omega) (by omega) hCd.out hBd.out).mono ?_; rintro e w4 ⟨q4, k4, rfl, q40, q41, ke, kf, hC4, hg4⟩; (obtain ⟨mm, hmm⟩ : ∃ mm : Nat, (mm : Int) = 30 - (L.length : Int) + q4 := ⟨(30 - (L.length : Int) + q4).toNat, by omega⟩); (have hm1 : 0 < mm := by omega); (have hm2 : L.length + mm ≤ 31 := by omega); (have hww : Hid (IntKind.i64.wrap (IntKind.i64.wrap (30 - (L.length : Int)) + q4) = (mm : Int)) := by (unfold Hid; rw [hw0, ← hmm]; exact IntWalk.i64_in _ (by omega))); (have hw2 : Hid (IntKind.i64.wrap (30 - (L.length : Int) + q4) = (mm : Int)) := by (unfold Hid; rw [← hmm]; exact IntWalk.i64_in _ (by omega))); (have hmm := Lib.hid hmm); (have hg4 := drew_back hg4); (have O4 := Lib.hid (own_cur2 O3.out (by omega) hg4)); (have V4 := Lib.hid (wb_grown V3.out hg4 (fun j hj => by injection hj with hj; omega))); (have c41 := V4.out.read 0); (have f41 := V4.out.free 0); (have hs4 := V4.out.inside); (have hC4 := Lib.hid hC4); (have hg4 := Lib.hid hg4))
      | (go_loud (refine step_append_zeros _ rfl (.tmp 32) (.tmp 39) 24 3 rfl (w.heap.size + 1) 3 i0 .i64 Try.underlying24 Try.underlying3 hi hz0 hz1 hz2 _ L.length L rfl O4.out (by omega) mm hm1 (by first | exact congrArg (Value.int .i64) hmm.out.symm | exact congrArg (Value.int .i64) hww.out | exact congrArg (Value.int .i64) hw2.out) (by omega) (by omega) ?_); intro v5 w5 hown5 hgrow5 hwhere5; (obtain ⟨z5, c5, rfl, -, -⟩ := own_form hown5); (have hgr : w4.grownBy w5 (Value.ownBlock (.slice (some ⟨g, 0, none⟩) L.length cz)) := hgrow5); (have V5 := Lib.hid (wb_grown V4.out hgr (fun i hi e => hnb.out (by rw [hi, e])))); (have c51 := V5.out.read 0); (have f51 := V5.out.free 0))
      )
    all_goals
      have R5 := wb_grown (wb_grown R3.out hg4.out (fun j hj => by injection hj with hj; omega)) hgr (fun i hi => by have := (hlow.out i hi).1; omega)
      have G5 := grown_far (grown_trans G3.out hg4.out) hgr (fun j hj => by have := (hlow.out j hj).1; omega)
      have C5 := hC4.out.far hgr (fun j hj => by have := (hlow.out j hj).1; omega)
      have hown6 := own_eq (n' := (L ++ zeL mm).length) hown5 (by simp [zeL_len]) rfl
      have hnb5 : (Value.slice z5 (L.length + mm) c5).ownBlock ≠ some w1.heap.size := by
        rcases hwhere5 with h | h
        · intro e; exact hnb.out (h.symm.trans e)
        · intro e; have := h.symm.trans e; injection this with this; (try simp at this); omega
      have O6 := Lib.hid (own_apart hown6 hnb5 0 (.slice z5 (L.length + mm) c5))
      have C6 := Lib.hid (C5.set (show w1.heap.size ≠ b by omega) 0 (.slice z5 (L.length + mm) c5))
      have G6 := Lib.hid (grown_set G5 (show w.heap.size ≤ w1.heap.size by omega) 0 (.slice z5 (L.length + mm) c5))
      have R6 := R5.far ⟨w1.heap.size, 0, none⟩ (show w.heap.size ≠ w1.heap.size by omega) (.slice z5 (L.length + mm) c5)
      have V6 := V5.out.put 0 (.slice z5 (L.length + mm) c5)
      have d0 := V6.read 0
      have d1 := R6.read 0
      have d2 := R6.free 0
      clear hgrow5 hwhere5 R5 G5 C5 hown5 hown6 R6 V6
      go_wp2_with fail
      refine bodyPost_ret (v := .agg #[.slice z5 (L.length + mm) c5]) (by simp [results, Try.results23, go_sem, *]) rfl ?_
      exact ⟨L ++ zeL mm, _, k4, rfl, hI.out.zeros mm, by omega, by simp [zeL_len]; omega, by omega, by omega, own_more (own_farC O6.out ⟨w.heap.size, 0, none⟩ (show w.heap.size < w.heap.size + 1 by omega) _) (by omega), C6.out.set (by omega) 0 _, grown_set G6.out (Nat.le_refl _) 0 _⟩
  · go_wp2_with fail
    refine bodyPost_ret (v := .agg #[.slice (some ⟨g, 0, none⟩) L.length cz]) (by simp [results, Try.results23, go_sem, *]) rfl ?_
    exact ⟨L, _, k2, rfl, hI.out, by omega, by omega, by omega, by omega, own_more (own_farC O3.out ⟨w.heap.size, 0, none⟩ (show w.heap.size < w.heap.size + 1 by omega) _) (by omega), hC3.out.set (by omega) 0 _, grown_set G3.out (Nat.le_refl _) 0 _⟩
end Go.Proofs.Ytmefkknkahmihaa
